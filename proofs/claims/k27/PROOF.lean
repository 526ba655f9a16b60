import PyProof.Rows.All
import Wide.All
import OpenK.AllK
import Wide.FinOn
import Lean
import PyProof.EqAt
import PyProof.EqKinds
import PyProof.TupleCall
import KE.KLam
import PyProof.ExcArgsOwn
import PyProof.AttrMissSeq
import KE.KMinKey
import KE.KBoundM
import KE.KSortTup
import KE.KItemsList
import PyProof.ListRange
import PyProof.TupleIter
import PyProof.TupleOfSeq
import KE.KSortKey
import PyProof.TupleOfStr
import PySem.Challenge.RW_talkhall_k27_whole_said_again
set_option Elab.async false
set_option linter.all false
set_option maxRecDepth 100000
set_option maxHeartbeats 4000000
def ab:=@PySem.wpAny_bind
def aQ:=@PySem.Heap.get?_push_of_some
def aE:=@List.length_map
def ak:=@PySem.wpAny_pure
def bp:=@List.getElem?_eq_getElem
def aB:=@Nat.le_refl
def aK:=@List.map_cons
def ae:=@if_pos
def a3:=@Bool.and_eq_true
def bg:=@PySem.Heap.get?_push_size
def aH:=@PySem.Heap.lt_size
def a7:=@List.size_toArray
def a5:=@List.length_cons
def ai:=@if_neg
def bb:=@List.getElem?_map
def bC:=@List.mem_cons_of_mem
def aY:=@List.mem_cons
def bM:=@Nat.lt_of_lt_of_le
def bV:=@List.getElem?_set_ne
def cG:=@List.getElem?_eq_some_iff
def bW:=@Array.length_toList
def bP:=@List.length_append
def a6:=@Nat.le_trans
def bD:=@List.lookup_cons
def bc:=@Nat.ne_of_lt
def bQ:=@beq_self_eq_true
def dn:=@List.getElem?_append_left
def bY:=@of_decide_eq_true
def cg:=@List.mem_cons_self
def fJ:=@Array.getD_eq_getD_getElem?
def dR:=@List.mem_append_right
def eR:=@PySem.F.slot_list_append
def bR:=@List.map_map
def cw:=@decide_eq_false
def dS:=@List.mem_of_getElem?
def gS:=@PyProof.Rows.slot_tuple_getitem
def fK:=@Array.getElem?_eq_getElem
def fL:=@PySem.F.type_list_append
def eS:=@List.contains_iff_mem
def dU:=@Bool.false_ne_true
def gU:=@List.getElem?_append_right
def dW:=@List.mem_singleton
def cx:=@Nat.lt_irrefl
def cW:=@List.find?_cons
def fM:=@List.getElem?_set_self
def eV:=@List.map_congr_left
def bZ:=@Nat.zero_le
def fN:=@List.length_singleton
def dX:=@PySem.wpAny_newObj_type
def eW:=@Int.toNat_natCast
def fO:=@PySem.mem_of_lookup
def dY:=@List.append_nil
def bE:=@congrArg
def dZ:=@decide_eq_true
def bt:=@Ne.symm
def fP:=@decide_eq_true_eq
def gV:=@beq_eq_false_iff_ne
def gY:=@List.replicate_succ
def gZ:=@PySem.Around.under_plainId
def cy:=@PySem.wpAny_mono
def kz:=@List.getD_eq_getElem?_getD
def g5:=@List.set_cons_succ
def g6:=@List.set_cons_zero
def cX:=@PySem.sizeLine_eq
def d3:=@PySem.wpAny_holding
def eX:=@List.any_cons
def fQ:=@PySem.codeAny_builtin
def g7:=@List.all_eq_true
def g8:=@PySem.wpAny_setState_of
def eY:=@List.mem_map
def g9:=@PySem.wpAny_call_entry
def g_:=@beq_false_of_ne
def hJ:=@List.map_append
def fR:=@List.all_cons
def kA:=@List.length_replicate
def kB:=@Array.getElem?_toList
def jB:=@List.flatten_cons
def jC:=@List.getElem?_set
def jD:=@Nat.lt_succ_of_lt
def kC:=@PySem.Heap.get?_update_other
def fS:=@Nat.lt_trans
def kD:=@List.filterMap_cons
def hU:=@PySem.Heap.size_push
def eZ:=@beq_iff_eq
def kE:=@Option.isSome_some
def fT:=@PySem.F.called_set
def kF:=@List.append_assoc
def kG:=@List.length_range
def hV:=@PySem.plainId_quiet
def hW:=@Nat.sub_zero
def jE:=@PySem.wpAny_ite_split
def kH:=@PySem.wpAny_Call_Name_kw
def kI:=@PySem.wpAny_setField_rec
def nD:=@PySem.wpAny_callSpecial?_slot
def nE:=@List.getElem?_eq_none
def kJ:=@Nat.lt_succ_self
def nF:=@PySem.W.hideAll_none
def hX:=@PySem.codeAny_mono
def hZ:=@PySem.wpAny_typeOf
def h9:=@List.map_id
def iV:=@List.mem_append
def kK:=@PySem.W.hideAll_get
def kL:=@List.mem_map_of_mem
def kM:=@Int.toNat_of_nonneg
def gr:=@Nat.ne_of_gt
def kN:=@Nat.lt_of_le_of_lt
def kO:=@Bool.false_eq_true
def iW:=@PySem.wpAny_passesOwn
def nS:=@PySem.F.slot_dict_getitem
def nT:=@List.drop_eq_getElem_cons
def nU:=@PySem.F.args_tuple_add_2
def iX:=@Bool.not_true
def kP:=@List.length_take
def nV:=@List.getElem?_replicate
def nW:=@PySem.F.entry_tuple_add
def kQ:=@PySem.tupleKind_room_in1
def fi:=@PySem.wpAny_rule
def nX:=@List.filter_cons_of_neg
def nY:=@List.filter_cons_of_pos
def iY:=@Nat.le_of_lt
def nZ:=@PySem.F.slot_tuple_add
def n5:=@List.range_succ_eq_map
def iZ:=@Nat.sub_self
def kR:=@List.nodup_cons
def kS:=@List.length_set
def kT:=@PySem.wpAny_pyIter_list
def kU:=@Option.map_some
def n6:=@PySem.F.slot_dict_pop
def n8:=@PySem.F.slot_list_getattribute
def n_:=@List.mem_append_left
def oa:=@PySem.W.plainGet_of
def og:=@PySem.Calls.callWith_builtin
def kX:=@Bool.or_false
def oh:=@PySem.W.of_hideAll
def oj:=@List.mem_filterMap
def om:=@PySem.W.callWith_K
def oo:=@PySem.Heap.get?_update_self
def oq:=@PySem.builtinLookup_eq_fast
def tL:=@List.findIdx?_eq_some_iff_getElem
def ou:=@PySem.Calls.evalArgs_plain
def ox:=@Option.isSome_map
def oy:=@bne_self_eq_false
def oz:=@PyProof.Rows.F.plain_set_update_loop
def oA:=@List.length_drop
def oB:=@Nat.le_of_not_lt
def oC:=@List.drop_length
def oE:=@PySem.Heap.SameBut.update
def oF:=@List.getElem_mem
def oG:=@List.not_mem_nil
def kY:=@Nat.le_succ
def oH:=@PySem.Calls.spliced_cons
def oI:=@List.of_mem_zip
def i3:=@PySem.call_meets
def oJ:=@List.length_nil
def tM:=@PyProof.Rows.callWith_type1
def oK:=@PySem.wpAny_truthy_bool
def i4:=@if_false
def oM:=@Bool.and_false
def tN:=@List.length_eraseIdx_of_lt
def oN:=@PySem.fits_of_scanBound
def tR:=@Array.getElem?_eq_none_iff
namespace L2
open PySem PySem.Spec PyProof.Rows
abbrev Key:=Sum Int Str
def fj:Key->Value->Bool
 |.inl k,v=>Value.isInt k v
 |.inr x,v=>Value.isStrOf x v
def qj(w:World):Key->Int
 |.inl k=>hashInt k
 |.inr x=>hashStr w x
theorem bz:∀{k:Key} {v:Value},fj k v=true->(∃i t,k=Sum.inl i/\v=Value.int i t)\/(∃x t,k=Sum.inr x/\v=Value.str x t)
 |.inl i,v,h=>by
  obtain⟨t,e⟩:=Value.isInt_shape (k:=i) (v:=v) h;exact .inl ⟨i,t,rfl,e⟩
 |.inr x,v,h=>by
  obtain⟨t,e⟩:=Value.isStrOf_shape (x:=x) (v:=v) h;exact .inr ⟨x,t,rfl,e⟩
theorem yk(i:Int)(t:Tok):fj (.inl i) (.int i t)=true:=by simp[fj,Value.isInt]
theorem yl(x:Str)(t:Tok):fj (.inr x) (.str x t)=true:=by simp[fj,Value.isStrOf]
theorem Et(a b:Int):decide ((Sum.inl a:Key)=Sum.inl b)=(a==b):=by
 by_cases e:a=b
 ·subst e;simp
 ·have h:¬(Sum.inl a:Key)=Sum.inl b:=fun q=>e (Sum.inl.inj q);rw[cw h];exact(gV.mpr e).symm
theorem Eu(a b:Str):decide ((Sum.inr a:Key)=Sum.inr b)=decide (a=b):=by
 by_cases e:a=b
 ·subst e;simp
 ·have h:¬(Sum.inr a:Key)=Sum.inr b:=fun q=>e (Sum.inr.inj q);rw[cw h,cw e]
theorem Ew(a:Int)(b:Str):decide ((Sum.inl a:Key)=Sum.inr b)=false:=cw (fun q=>nomatch q)
theorem Ex(a:Str)(b:Int):decide ((Sum.inr a:Key)=Sum.inl b)=false:=cw (fun q=>nomatch q)
def aO(prog:Program)(w:World):PySem.KeyKind prog w Key where
 is:=fj
 hash:=qj w
 inj:=fun v a b ha hb=>by
  rcases bz ha with⟨i,t,rfl,rfl⟩|⟨x,t,rfl,rfl⟩
  ·rcases bz hb with⟨j,u,rfl,e⟩|⟨y,u,rfl,e⟩
   ·injection e with e1 _;rw[e1]
   ·exact nomatch e
  ·rcases bz hb with⟨j,u,rfl,e⟩|⟨y,u,rfl,e⟩
   ·exact nomatch e
   ·injection e with e1 _;rw[e1]
 byValue:=fun k v h=>by
  rcases bz h with⟨i,t,rfl,rfl⟩|⟨x,t,rfl,rfl⟩<;>rfl
 pyHash:=fun hv h=>by
  rcases bz hv with⟨i,t,rfl,rfl⟩|⟨x,t,rfl,rfl⟩
  ·exact wpAny_pyHash_int h
  ·exact wpAny_pyHash_str h
 eqBool:=fun hu hv h=>by
  rcases bz hu with⟨i,t,rfl,rfl⟩|⟨x,t,rfl,rfl⟩
  ·rcases bz hv with⟨j,u,rfl,rfl⟩|⟨y,u,rfl,rfl⟩
   ·rw[Et]at h;exact wpAny_eqBool_int h
   ·rw[Ew]at h;exact SeqAt.EqAt.int_str i t y u _ _ _ _ h
  ·rcases bz hv with⟨j,u,rfl,rfl⟩|⟨y,u,rfl,rfl⟩
   ·rw[Ex]at h;exact SeqAt.EqAt.str_int x t j u _ _ _ _ h
   ·rw[Eu]at h;exact wpAny_eqBool_str h
 «strs»:=fun k x t v h=>by
  rcases bz h with⟨i,u,rfl,e⟩|⟨y,u,rfl,e⟩
  ·exact nomatch e
  ·injection e with e1 _
   subst e1;cases v<;>rfl
theorem tT(prog:Program)(w:World)(i:Int)(t:Tok):(aO prog w).is (.inl i) (.int i t)=true:=yk i t
theorem tU(prog:Program)(w:World)(x:Str)(t:Tok):(aO prog w).is (.inr x) (.str x t)=true:=yl x t
end L2
namespace L2
open PySem PySem.Spec PyProof.Rows
inductive V where
 |a_|bl (b:Bool)|int (i:Int)|str (x:Str)|DI (b:Array UInt8)|Hz (b:UInt64)|ref (a:Addr)|ty (n:String)
 deriving DecidableEq
def RelV:V->Value->Prop
 |.a_,u=>u=Value.none
 |.bl b,u=>u=Value.bool b
 |.int i,u=>∃t,u=Value.int i t
 |.str x,u=>∃t,u=Value.str x t
 |.DI b,u=>∃t,u=Value.bytes b t
 |.Hz b,u=>∃t,u=Value.float b t
 |.ref a,u=>u=Value.ref a
 |.ty n,u=>u=Value.type n
abbrev Vals:List V->List Value->Prop:=Paired RelV
theorem Vals.length {xs:List V}{us:List Value}(r:Vals xs us):xs.length=us.length:=Paired.length r
theorem Vals.get:∀{xs:List V} {us:List Value} {i:Nat} {x:V},Vals xs us->xs[i]?=some x->∃u,us[i]?=some u/\RelV x u
 |_,_,_,_,.nil,e=>by simp at e
 |_,_,0,_,.cons r _,e=>by simp at e;subst e;exact⟨_,rfl,r⟩
 |_,_,i+1,x,.cons _ t,e=>by
  obtain⟨u,h1,h2⟩:=Vals.get (i:=i) (x:=x) t (by simpa using e);exact⟨u,by simpa using h1,h2⟩
theorem Vals.set {x:V}{u:Value}(r:RelV x u):∀{xs:List V} {us:List Value} (i:Nat),Vals xs us->Vals (xs.set i x) (us.set i u)
 |_,_,_,.nil=>.nil
 |_,_,0,.cons _ t=>.cons r t
 |_,_,i+1,.cons q t=>.cons q (Vals.set r i t)
theorem Vals.append:∀{xs ys:List V} {us ws:List Value},Vals xs us->Vals ys ws->Vals (xs++ys) (us++ws)
 |_,_,_,_,.nil,s=>s
 |_,_,_,_,.cons r t,s=>.cons r (Vals.append t s)
theorem Vals.take:∀{xs:List V} {us:List Value} (n:Nat),Vals xs us->Vals (xs.take n) (us.take n)
 |_,_,0,_=>.nil
 |_,_,_+1,.nil=>.nil
 |_,_,n+1,.cons r t=>.cons r (Vals.take n t)
theorem Vals.drop:∀{xs:List V} {us:List Value} (n:Nat),Vals xs us->Vals (xs.drop n) (us.drop n)
 |_,_,0,r=>r
 |_,_,_+1,.nil=>.nil
 |_,_,n+1,.cons _ t=>Vals.drop n t
def iQ:Option V->Option Value->Prop
 |some v,some u=>RelV v u
 |none,none=>True
 |_,_=>False
def KV{κ:Type}:List (κ×V)->List (κ×Value)->Prop:=Paired fun(p:κ×V) (q:κ×Value)=>p.1=q.1/\RelV p.2 q.2
def kV:Key->V
 |.inl i=>.int i
 |.inr x=>.str x
inductive HO where
 |lst (xs:List V)
 |tup (xs:List V)
 |dK (ah:List (Key×V))|dT (ah:List (List Key×V))
 |set (S:Int->Bool) (n:Nat)
 |ins (C dx:Addr) (fs:List (Str×V))
 |own (x:Addr)
 |xd (fs:List (Str×V))
 |met (f x:Addr)
 |LS (lo hi:Int)
 |gp (o:Obj) (u:HO)
 |BB (ps:Array Value)
 |ext (φ:Heap->Prop)
abbrev Hp:=Addr->Option HO
def upd(H:Hp)(a:Addr)(o:HO):Hp:=fun b=>if b=a then some o else H b
theorem aP{H:Hp}{a:Addr}{o:HO}:upd H a o a=some o:=by unfold upd;rw[ae rfl]
theorem aA{H:Hp}{a b:Addr}{o:HO}(h:b≠a):upd H a o b=H b:=by unfold upd;rw[ai h]
theorem Ie{H:Hp}{a b:Addr}{o u:HO}(h:H a=some o)(h':H b=some u)(d:o≠u):a≠b:=by
 intro e;subst e;rw[h]at h';exact d (Option.some.inj h')
theorem bf{H:Hp}{a b:Addr}{o:HO}(h:H a=some o)(h':H b=none):a≠b:=by
 intro e;subst e;rw[h]at h';cases h'
section
variable (P:Program)(w:World)
def i5(h:Heap)(a:Addr)(items:Array Value):Prop:=∃o,h.get? a=some o/\o.cls=.type "tuple"/\∃n,o.data=.seq items n/\o.dict=none
theorem i5.tup {h:Heap}{a:Addr}{items:Array Value}(x:i5 h a items):IsTup h a items:=let⟨o,h1,h2,n,h3,_⟩:=x;⟨o,h1,h2,n,h3⟩
theorem i5.new (h:Heap)(items:Array Value):i5 (h.push {cls:=.type "tuple",data:=.seq items}) h.objs.size items:=⟨_,bg _ rfl,rfl,_,rfl,rfl⟩
def bI(H:Hp)(h:Heap)(a:Addr):HO->Prop
 |.lst xs=>xs.length<=sizeLine/\∃(aV:List Value) (n:Nat),Vals xs aV/\h.get? a=some {cls:=.type "list",data:=.seq aV.toArray n}
 |.tup xs=>xs.length<=sizeLine/\∃aV:List Value,Vals xs aV/\i5 h a aV.toArray
 |.dK ah=>ah.length<=sizeLine/\(a==sysModules)=false/\∃vs,KV ah vs/\h.DictOf (aO P w) a vs
 |.dT ah=>ah.length<=sizeLine/\(a==sysModules)=false/\∃xs:List (List Key×Addr×Value),
   Paired (fun(p:List Key×V) (q:List Key×Addr×Value)=>p.1=q.1/\H q.2.1=some (.tup (p.1.map kV))/\RelV p.2 q.2.2) ah xs/\
   ∃o es ep,h.get? a=some o/\o.ExactDict/\o.data=.dict es ep/\es.toList=xs.map (entryOfKey (tupleKind (aO P w)))/\(xs.map (·.1)).Nodup
 |.set S n=>h.SetOf (intKind P w) a S n
 |.ins C dx fs=>H dx=some (.own a)/\fs.length<=1000/\dx≠a/\h.get? a=some (PySem.W.instObj C dx)/\
   ∃mA,h.Ns1 dx mA/\(∀f,iQ (fs.lookup f) (mA f))/\PySem.Within mA (fs.map (·.1))
 |.own _=>∃o,h.get? a=some o
 |.xd fs=>∃mA,h.Ns1 a mA/\∀f,iQ (fs.lookup f) (mA f)
 |.LS lo hi=>∃t u v,h.get? a=some {cls:=.type "range",data:=.fields #[.int lo t,.int hi u,.int 1 v]}
 |.gp o u=>h.get? a=some o/\bI H h a u
 |.BB ps=>∃qs:Array Value,h.get? a=some {cls:=.none,data:=.fields qs}/\TriplesOk qs.toList/\∀pos v,codeAmong pos qs.toList=some v->∃c oc vs q t,v=.ref c/\ps=#[.str q 0]/\H c=some (.own a)/\h.get? c=some oc/\oc.data=.fields vs/\vs[1]?=some (.str q t)
 |.met f x=>h.get? a=some (PySem.W.methodObj (.ref f) (.ref x))
 |.ext φ=>φ h/\(∃o,h.get? a=some o)/\∀h1 h2:Heap,φ h1->(∀o,h1.get? a=some o->h2.get? a=some o)->φ h2
def j4(H:Hp)(h:Heap):Prop:=∀a o,H a=some o->bI P w H h a o
end
section
variable {P:Program}{w:World}{H H':Hp}{h h':Heap}{a:Addr}{o:HO}
theorem bI.lt (x:bI P w H h a o):a<h.objs.size:=by
 cases o with
 |lst xs=>obtain⟨_,_,_,_,e⟩:=x;exact aH e
 |tup xs=>obtain⟨_,_,_,p⟩:=x;exact p.tup.lt
 |dK ah=>obtain⟨_,_,_,_,o,_,_,e,_⟩:=x;exact aH e
 |dT ah=>obtain⟨_,_,_,_,o,_,_,e,_⟩:=x;exact aH e
 |set S n=>obtain⟨o,_,_,_,e,_⟩:=x;exact aH e
 |ins C dx fs=>obtain⟨_,_,_,e,_⟩:=x;exact aH e
 |own y=>obtain⟨_,e⟩:=x;exact aH e
 |xd fs=>obtain⟨_,⟨_,_,_,e,_⟩,_⟩:=x;exact aH e
 |LS lo hi=>obtain⟨_,_,_,e⟩:=x;exact aH e
 |gp ob u=>obtain⟨e,_⟩:=x;exact aH e
 |BB ps=>obtain⟨qs,e,_⟩:=x;exact aH e
 |met f y=>exact aH (show h.get? a=some _ from x)
 |ext φ=>obtain⟨_,⟨_,e⟩,_⟩:=x;exact aH e
theorem Paired.Ey {α β:Type}{F G:α->β->Prop}:∀{Ig:List α} {Ih:List β},Paired F Ig Ih->(∀a b,F a b->G a b)->Paired G Ig Ih
 |_,_,.nil,_=>.nil
 |_,_,.cons r t,f=>.cons (f _ _ r) (Paired.Ey t f)
theorem bI.qm (x:bI P w H h a o)(k:∀b u,(b=a\/H b=some (.own a))->h.get? b=some u->h'.get? b=some u)
  (ho:∀b,H b=some (.own a)->H' b=some (.own a)) (ht:∀b xs,H b=some (.tup xs)->H' b=some (.tup xs)):bI P w H' h' a o:=by
 induction o with
 |lst xs=>obtain⟨z,aV,n,r,e⟩:=x;exact⟨z,aV,n,r,k _ _ (.inl rfl) e⟩
 |tup xs=>obtain⟨z,aV,r,ob,e,c⟩:=x;exact⟨z,aV,r,ob,k _ _ (.inl rfl) e,c⟩
 |dK ah=>obtain⟨z,y,vs,r,ob,es,ep,e,c⟩:=x;exact⟨z,y,vs,r,ob,es,ep,k _ _ (.inl rfl) e,c⟩
 |dT ah=>
  obtain⟨z,y,xs,r,ob,es,ep,e,c⟩:=x;exact⟨z,y,xs,Paired.Ey r fun p q z=>⟨z.1,ht _ _ z.2.1,z.2.2⟩,ob,es,ep,k _ _ (.inl rfl) e,c⟩
 |set S n=>obtain⟨ob,es,ep,t,e,c⟩:=x;exact⟨ob,es,ep,t,k _ _ (.inl rfl) e,c⟩
 |ins C dx fs=>
  obtain⟨d,z,ne,e,mA,⟨od,es,ep,e2,c⟩,r⟩:=x;exact⟨ho _ d,z,ne,k _ _ (.inl rfl) e,mA,⟨od,es,ep,k _ _ (.inr d) e2,c⟩,r⟩
 |own y=>obtain⟨ob,e⟩:=x;exact⟨ob,k _ _ (.inl rfl) e⟩
 |xd fs=>obtain⟨mA,⟨od,es,ep,e,c⟩,r⟩:=x;exact⟨mA,⟨od,es,ep,k _ _ (.inl rfl) e,c⟩,r⟩
 |LS lo hi=>obtain⟨t,u,v,e⟩:=x;exact⟨t,u,v,k _ _ (.inl rfl) e⟩
 |gp ob u ih=>obtain⟨e,q⟩:=x;exact⟨k _ _ (.inl rfl) e,ih q⟩
 |BB ps=>
  obtain⟨qs,e,tr,r⟩:=x;exact⟨qs,k _ _ (.inl rfl) e,tr,fun pos v z=>by
   obtain⟨c,oc,vs,q,t,e1,e2,e3,e4,e5⟩:=r pos v z;exact⟨c,oc,vs,q,t,e1,e2,ho _ e3,k _ _ (.inr e3) e4,e5⟩⟩
 |met f y=>
  have e:h.get? a=some (PySem.W.methodObj (.ref f) (.ref y)):=x;show h'.get? a=some (PySem.W.methodObj (.ref f) (.ref y));exact k a _ (.inl rfl) e
 |ext φ=>obtain⟨p,⟨o,e⟩,st⟩:=x;exact⟨st _ _ p fun o q=>k _ _ (.inl rfl) q,⟨o,k _ _ (.inl rfl) e⟩,st⟩
theorem j4.lt (x:j4 P w H h)(e:H a=some o):a<h.objs.size:=(x a o e).lt
theorem j4.fresh (x:j4 P w H h)(e:h.objs.size<=a):H a=none:=by
 cases q:H a with
 |none=>rfl
 |some u=>exact absurd (bM (x.lt q) e) (cx _)
theorem j4.kept (x:j4 P w H h)(k:∀b u,h.get? b=some u->h'.get? b=some u):j4 P w H h':=fun a o e=>
 (x a o e).qm (fun b u _ q=>k b u q) (fun _ q=>q) fun _ _ q=>q
theorem j4.laid (x:j4 P w H h)(k:∀b u,h.get? b=some u->h'.get? b=some u)(hp:h.objs.size<=a)(new:bI P w (upd H a o) h' a o):j4 P w (upd H a o) h':=fun b u e=>by
 have hn:=x.fresh hp;by_cases hb:b=a
 ·subst hb;rw[aP]at e;cases e;exact new
 ·rw[aA hb]at e;exact(x b u e).qm (fun c v _ q=>k c v q) (fun c q=>by rw[aA (bf q hn)];exact q) fun c xs q=>by rw[aA (bf q hn)];exact q
end
def Rd(H:Hp)(a:Addr)(u:HO):Prop:=H a=some u\/∃o,H a=some (.gp o u)
theorem Rd.ok {P:Program}{w:World}{H:Hp}{h:Heap}{a:Addr}{u:HO}(r:Rd H a u)(x:j4 P w H h):bI P w H h a u:=by
 rcases r with r|⟨o,r⟩
 ·exact x a u r
 ·obtain⟨_,q⟩:=x a _ r;exact q
def Ii:Option HO->Prop
 |some (.lst _)=>True
 |some (.dK _)=>True
 |some (.dT _)=>True
 |some (.set _ _)=>True
 |some (.ins _ _ _)=>True
 |some (.ext _)=>True
 |_=>False
section
variable {P:Program}{w:World}{H:Hp}{h h':Heap}{x e:Addr}{o':HO}
theorem j4.write (ok:j4 P w H h)(mu:Ii (H x))(he:e=x\/H e=some (.own x))(k:∀b u,b≠e->h.get? b=some u->h'.get? b=some u)(HC:∃u,h'.get? e=some u)
  (new:bI P w (upd H x o') h' x o'):j4 P w (upd H x o') h':=fun b u q=>by
 have Ij:∀c y,H c=some (.own y)->c≠x:=fun c y r z=>by subst z;rw[r]at mu;exact mu
 have MG:∀c xs,H c=some (.tup xs)->c≠x:=fun c xs r z=>by subst z;rw[r]at mu;exact mu
 by_cases hb:b=x
 ·subst hb;rw[aP]at q;cases q;exact new
 ·rw[aA hb]at q;by_cases Ez:b=e
  ·have q':H b=some (.own x):=by
    rcases he with z|z
    ·exact absurd (Ez.trans z) hb
    ·rw[Ez];exact z
   rw[q]at q';cases q';obtain⟨v,hv⟩:=HC;exact⟨v,by rw[Ez];exact hv⟩
  ·refine(ok b u q).qm (fun c v hc r=>k c v ?_ r) (fun c r=>by rw[aA (Ij c b r)];exact r) fun c xs r=>by rw[aA (MG c xs r)];exact r
   rcases hc with rfl|hc
   ·exact Ez
   ·rintro rfl
    rcases he with z|z
    ·exact Ij c b hc z
    ·rw[hc]at z;cases z;exact hb rfl
end
structure Un(fs ex:List Addr)(H H':Hp)(h h':Heap):Prop where
 keep:∀b o,h.get? b=some o->H b=none->b∉fs->b∉ex->h'.get? b=some o
 slot:∀b o,h.get? b=some o->H b=none->b∈fs->b∉ex->∃sl,h'.get? b=some {o with slots:=sl}
 free:∀b o,h.get? b=some o->H b=none->b∉ex->H' b=none
 there:∀b o,h.get? b=some o->b∉ex->∃o',h'.get? b=some o'
 kZ:∀b xs,H b=some (.tup xs)->H' b=some (.tup xs)
 jP:∀b o u,H b=some (.gp o u)->H' b=some (.gp o u)
 k_:∀b ps,H b=some (.BB ps)->∃more,H' b=some (.BB (ps++more))
section
variable {fs Qp ex Sw:List Addr}{H H1 H2:Hp}{h h1 h2 h':Heap}{a x e:Addr}{o:HO}
theorem Un.any (u:Un fs ex H H1 h h1){b:Addr}{ob:Obj}(q:h.get? b=some ob)(n:H b=none)(hx:b∉ex):∃sl,h1.get? b=some {ob with slots:=sl}:=by
 by_cases hb:b∈fs
 ·exact u.slot b ob q n hb hx
 ·exact⟨ob.slots,u.keep b ob q n hb hx⟩
theorem Un.trans (a:Un fs ex H H1 h h1)(b:Un fs ex H1 H2 h1 h2):Un fs ex H H2 h h2 where
 keep:=fun c ob q n hc hx=>b.keep c ob (a.keep c ob q n hc hx) (a.free c ob q n hx) hc hx
 slot:=fun c ob q n hc hx=>by
  obtain⟨sl,e1⟩:=a.slot c ob q n hc hx;obtain⟨MH,e2⟩:=b.slot c _ e1 (a.free c ob q n hx) hc hx;exact⟨MH,e2⟩
 free:=fun c ob q n hx=>by
  obtain⟨o',e1⟩:=a.there c ob q hx;exact b.free c o' e1 (a.free c ob q n hx) hx
 there:=fun c ob q hx=>by
  obtain⟨o',e1⟩:=a.there c ob q hx;exact b.there c o' e1 hx
 kZ:=fun c xs q=>b.kZ c xs (a.kZ c xs q)
 jP:=fun c ob xs q=>b.jP c ob xs (a.jP c ob xs q)
 k_:=fun c ps q=>by
  obtain⟨m1,e1⟩:=a.k_ c ps q;obtain⟨m2,e2⟩:=b.k_ c _ e1;exact⟨m1++m2,by rw[e2,Array.append_assoc]⟩
theorem Un.kept (k:∀b u,h.get? b=some u->h'.get? b=some u):Un fs ex H H h h':=
 ⟨fun b ob q _ _ _=>k b ob q,fun b ob q _ _ _=>⟨ob.slots,k b ob q⟩,fun _ _ _ n _=>n,fun b ob q _=>⟨ob,k b ob q⟩,fun _ _ q=>q,fun _ _ _ q=>q,fun _ ps q=>⟨#[],by rw[q];simp⟩⟩
theorem Un.refl:Un fs ex H H h h:=Un.kept fun _ _ q=>q
theorem Un.laid (k:∀b u,h.get? b=some u->h'.get? b=some u)(hp:h.objs.size<=a)(hn:H a=none):Un fs ex H (upd H a o) h h' where
 keep:=fun b u q _ _ _=>k b u q
 slot:=fun b u q _ _ _=>⟨u.slots,k b u q⟩
 free:=fun b u q n _=>by rw[aA (bc (bM (aH q) hp))];exact n
 there:=fun b u q _=>⟨u,k b u q⟩
 kZ:=fun b xs q=>by rw[aA (bf q hn)];exact q
 jP:=fun b u xs q=>by rw[aA (bf q hn)];exact q
 k_:=fun b ps q=>⟨#[],by rw[aA (bf q hn),q];simp⟩
theorem Un.write (mu:Ii (H x))(he:e=x\/H e=some (.own x))(k:∀b u,b≠e->h.get? b=some u->h'.get? b=some u)(HC:∃u,h'.get? e=some u):Un fs ex H (upd H x o) h h':=by
 have hx:∀b,H b=none->b≠x:=fun b n z=>by subst z;rw[n]at mu;exact mu
 have hb:∀b,H b=none->b≠e:=fun b n z=>by
  subst z;rcases he with r|r
  ·exact hx b n r
  ·rw[n]at r;cases r
 have hm:∀b u,H b=some u->¬Ii (some u)->b≠x:=fun b u q nm z=>by subst z;rw[q]at mu;exact nm mu
 refine⟨fun b u q n _ _=>k b u (hb b n) q,fun b u q n _ _=>⟨u.slots,k b u (hb b n) q⟩,fun b u q n _=>by rw[aA (hx b n)];exact n,fun b u q _=>?_,
  fun b xs q=>by rw[aA (hm b _ q fun z=>z)];exact q,fun b u xs q=>by rw[aA (hm b _ q fun z=>z)];exact q,fun b ps q=>⟨#[],by rw[aA (hm b _ q fun z=>z),q];simp⟩⟩
 by_cases Ez:b=e
 ·subst Ez;exact HC
 ·exact⟨u,k b u Ez q⟩
end
def LU(h:Heap)(H:Hp):List Addr:=(List.range h.objs.size).filter fun a=>(H a).isSome
def r9(h:Heap)(H:Hp):Heap:=PySem.W.hideAll h (LU h H)
theorem ym(h:Heap)(H:Hp):(r9 h H).objs.size=h.objs.size:=PySem.W.hideAll_size _ _
theorem zl{h:Heap}{H:Hp}{b:Addr}{o:Obj}(e:h.get? b=some o)(n:H b=none):(r9 h H).get? b=some o:=
 kK _ e fun hm=>by
  have q:(H b).isSome=true:=(List.mem_filter.mp hm).2;rw[n]at q;simp at q
theorem BC{h:Heap}{H:Hp}{b:Addr}{o:Obj}(e:(r9 h H).get? b=some o):h.get? b=some o/\H b=none:=by
 have e':h.get? b=some o:=oh (LU h H) e;refine⟨e',?_⟩;cases q:H b with
 |none=>rfl
 |some x=>
  have hm:b∈LU h H:=List.mem_filter.mpr ⟨List.mem_range.mpr (aH e'),by simp[q]⟩;have z:(r9 h H).get? b=none:=nF (LU h H) hm;rw[z]at e;cases e
end L2
namespace L2
open PySem PySem.Spec PyProof.Rows
structure Mod(K:PySem.W.Frag)(mg:Str->Option Value)(base:Heap):Prop where
 Ik:K.In base
 glob:base.Ns mainGlobals mg
 blt:∃mb,base.Ns builtinsNs mb/\∀x:Str,x≠"__name__"->mb x=bootBuiltins x
 nolimit:base.NoLimit
 bm:∃bm ob,mg "__builtins__"=some (.ref bm)/\bm≠builtinsNs/\bm≠mainGlobals/\base.get? bm=some ob/\ob.cls=.type "module"/\ob.dict=some builtinsNs/\ob.data=.plain
structure Cx where
 prog:Program
 w:World
 K:PySem.W.Frag
 mg:Str->Option Value
 base:Heap
 A:Around
 N:List Str
 eu:Shared
 tV:Hp
 env:Env
 outer:List Env
 stack:List Env
 ex:List Addr
 fn:Str->Bool
 calm:Bool
 pn:List (Addr×Obj)
 xe:Value->Shared->Prop
def la(l:List Env):List Addr:=l.filterMap (·.frame)
abbrev Cx.fs (X:Cx):List Addr:=la X.outer
def LV(sc:Scope)(x:Str):Prop:=sc.names.lookup x=some .local\/sc.names.lookup x=some .cell\/sc.names.lookup x=some .free
def Loc(sc:Scope)(x:Str):Prop:=sc.names.lookup x=some .local\/sc.names.lookup x=some .cell
def Look(env:Env)(h:Heap)(m:Str->Option Value)(x:Str)(u:Value):Prop:=
 (env.kindOf x=some .local/\m x=some u)\/((env.kindOf x=some .cell\/env.kindOf x=some .free)/\∃c,env.cells.lookup x=some c/\h.IsCell c (some u))
structure Cx.Ok (X:Cx):Prop where
 mod:Mod X.K X.mg X.base
 kind:X.env.scope.kind=.function
 glob:X.env.globals=mainGlobals
 blt:X.env.builtins=builtinsNs
 above:X.eu.heap.objs.size<=X.env.locals
 inj:∀x y c,X.env.cells.lookup x=some c->X.env.cells.lookup y=some c->x=y
 has:∀x,(X.env.kindOf x=some .cell\/X.env.kindOf x=some .free)->∃c,X.env.cells.lookup x=some c
 Il:∀x c,X.fn x=true->X.env.cells.lookup x=some c->X.eu.heap.objs.size<=c
 hd:X.calm=true->X.A.handled=none
 frames:X.A.frames=some X.stack
 HD:X.stack=X.outer\/(X.stack=X.env::X.outer/\X.env.frame=some X.env.locals)
 MI:∀b∈X.ex,b≠X.env.locals/\∀x c,X.env.cells.lookup x=some c->c≠b
 bs:∀b o,X.base.get? b=some o->X.eu.heap.get? b=some o/\X.tV b=none
 BD:X.base.objs.size<=X.eu.heap.objs.size
 zm:∀b o,X.base.get? b=some o->b∉X.ex
 zo:∀b∈X.ex,b∉X.fs
 m6:X.eu.heap.FunFrames X.base X.outer
 EA:∀b∈X.fs,X.tV b=none
structure Inv(X:Cx)(pins:List (Addr×Obj))(σ:List (Option V))(H:Hp)(s:Shared):Prop where
 ok:X.Ok
 os:s.os=X.eu.os
 bare:AllBare s.gens
 base:Un X.fs X.ex X.tV H X.eu.heap s.heap
 loc:∃m,s.heap.Ns X.env.locals m/\∀(i:Nat) (x:Str) (v:V),X.N[i]?=some x->σ[i]?=some (some v)->LV X.env.scope x->∃u,RelV v u/\Look X.env s.heap m x u
 cell:∀x c,X.env.cells.lookup x=some c->∃v,s.heap.IsCell c v
 free:H X.env.locals=none
 fU:∀x c,X.env.cells.lookup x=some c->H c=none
 pin:∀p∈X.pn++pins,s.heap.get? p.1=some p.2/\H p.1=none/\p.1≠X.env.locals/\p.1∉X.fs/\∀v,p.2.data≠ .cell v
 bB:j4 X.prog X.w H s.heap
 len:σ.length=X.N.length
section
variable {X:Cx}{pins:List (Addr×Obj)}{σ:List (Option V)}{H H':Hp}{s:Shared}{h':Heap}
theorem Cx.Ok.MJ (ok:X.Ok){b:Addr}{o:Obj}(e:X.base.get? b=some o):b∉X.fs:=fun hb=>by
 have:=(ok.m6.mem hb).1;rw[e]at this;cases this
theorem Inv.bs (I:Inv X pins σ H s):∀b o,X.base.get? b=some o->s.heap.get? b=some o/\H b=none:=fun b o e=>
 ⟨I.base.keep b o (I.ok.bs b o e).1 (I.ok.bs b o e).2 (I.ok.MJ e) (I.ok.zm b o e),I.base.free b o (I.ok.bs b o e).1 (I.ok.bs b o e).2 (I.ok.zm b o e)⟩
theorem Inv.bk (I:Inv X pins σ H s):∀b o,X.base.get? b=some o->s.heap.get? b=some o:=fun b o e=>(I.bs b o e).1
theorem Inv.mod (I:Inv X pins σ H s):Mod X.K X.mg X.base:=I.ok.mod
theorem Inv.r_ (I:Inv X pins σ H s):X.K.In s.heap:=I.ok.mod.Ik.keeps I.bk
theorem Inv.fr (I:Inv X pins σ H s):∃m,Fr X.base X.env.locals s.heap m:=
 let⟨m,hn,_⟩:=I.loc
 ⟨m,hn,I.bk,a6 I.ok.BD I.ok.above⟩
theorem Inv.lt (I:Inv X pins σ H s):X.env.locals<s.heap.objs.size:=let⟨_,hn,_⟩:=I.loc;hn.lt
theorem Inv.sz (I:Inv X pins σ H s):X.eu.heap.objs.size<=s.heap.objs.size:=a6 I.ok.above (iY I.lt)
theorem Inv.MK (I:Inv X pins σ H s){a:Addr}(h:s.heap.objs.size<=a):a∉X.fs:=fun hb=>by
 obtain⟨_,o,ho,_⟩:=I.ok.m6.mem hb;exact absurd (bM (aH ho) (a6 I.sz h)) (cx _)
theorem Inv.EB (I:Inv X pins σ H s):∀x c,X.env.cells.lookup x=some c->c≠X.env.locals:=fun x c e z=>by
 obtain⟨v,o,ho,hd⟩:=I.cell x c e;obtain⟨m,⟨o',es,ep,BE,Im,_⟩,_⟩:=I.loc;rw[z,BE]at ho;cases ho;rw[Im]at hd;cases hd
theorem Inv.m6 (I:Inv X pins σ H s):s.heap.FunFrames X.base X.outer:=by
 have all:∀(l:List Env),(∀b∈la l,b∈X.fs)->X.eu.heap.FunFrames X.base l->s.heap.FunFrames X.base l:=by
  intro l
  induction l with
  |nil=>intro _ _;trivial
  |cons env r ih=>
   intro hs hl;obtain⟨hk,⟨L,o,hf,hn,ho,hd⟩,hr⟩:=hl;have hL:L∈X.fs:=hs L (by unfold la;rw[kD,hf];exact cg);obtain⟨sl,e⟩:=I.base.slot L o ho (I.ok.EA L hL) hL fun z=>I.ok.zo L z hL;exact⟨hk,⟨L,_,hf,hn,e,hd⟩,ih (fun b hb=>hs b (by unfold la;rw[kD,hf];exact bC _ hb)) hr⟩
 exact all X.outer (fun _ hb=>hb) I.ok.m6
theorem Inv.stack (I:Inv X pins σ H s):s.heap.FunFrames X.base X.stack:=by
 rcases I.ok.HD with e|⟨e,hf⟩
 ·rw[e];exact I.m6
 ·rw[e];obtain⟨m,hn,_⟩:=I.loc;refine .cons (by rw[I.ok.kind];decide) hf hn ?_ I.m6
  exact Heap.get?_none_of_le (a6 I.ok.BD I.ok.above)
theorem Inv.vw (I:Inv X pins σ H s):∀b∈la X.stack,b∈X.env.locals::X.fs:=fun b hb=>by
 rcases I.ok.HD with e|⟨e,hf⟩
 ·rw[e]at hb;exact bC _ hb
 ·rw[e]at hb;unfold la at hb;rw[kD,hf]at hb;exact hb
theorem Inv.sd (I:Inv X pins σ H s):∀b∈la X.stack,H b=none:=fun b hb=>by
 rcases aY.mp (I.vw b hb)with e|hb
 ·rw[e];exact I.free
 ·obtain⟨_,o,ho,_⟩:=I.ok.m6.mem hb;exact I.base.free b o ho (I.ok.EA b hb) fun z=>I.ok.zo b z hb
theorem Inv.step {g':Array GenState}{t':Nat}{d':Drawn}{ch:List Addr}(I:Inv X pins σ H s)
  (zh:∀b∈ch,(b∈X.ex\/X.eu.heap.objs.size<=b)/\b≠X.env.locals/\(∀x c,X.env.cells.lookup x=some c->c≠b)/\∀p∈X.pn++pins,p.1≠b)
  (keep:∀b o,b≠X.env.locals->b∉X.fs->b∉ch->s.heap.get? b=some o->H b=none->h'.get? b=some o)
  (slot:∀b o,b≠X.env.locals->b∈X.fs->b∉ch->s.heap.get? b=some o->H b=none->∃sl,h'.get? b=some {o with slots:=sl}) (free:∀b o,b∉ch->s.heap.get? b=some o->H b=none->H' b=none)
  (there:∀b o,b∉ch->s.heap.get? b=some o->∃o',h'.get? b=some o')
  (kZ:∀b xs,H b=some (.tup xs)->H' b=some (.tup xs)) (jP:∀b o u,H b=some (.gp o u)->H' b=some (.gp o u)) (k_:∀b ps,H b=some (.BB ps)->∃more,H' b=some (.BB (ps++more)))
  (ns:∀m,s.heap.Ns X.env.locals m->h'.Ns X.env.locals m) (bB:j4 X.prog X.w H' h') (hg:AllBare g'):
  Inv X pins σ H' {s with heap:=h',gens:=g',drawn:=d',toks:=t'}:=by
 have Pd:∀b o,X.eu.heap.get? b=some o->b≠X.env.locals:=fun b o e=>bc (bM (aH e) I.ok.above);have tW:∀b o,X.eu.heap.get? b=some o->b∉X.ex->b∉ch:=fun b o e hx hb=>by
  rcases(zh b hb).1 with z|z
  ·exact hx z
  ·exact absurd (bM (aH e) z) (cx _)
 have cellK:∀x c,X.env.cells.lookup x=some c->∀v,s.heap.IsCell c v->h'.IsCell c v:=fun x c e v ⟨o,ho,hd⟩=>by
  have Io:c∉ch:=fun z=>(zh c z).2.2.1 x c e rfl;by_cases hc:c∈X.fs
  ·obtain⟨sl,q⟩:=slot c o (I.EB x c e) hc Io ho (I.fU x c e);exact⟨_,q,hd⟩
  ·exact⟨o,keep c o (I.EB x c e) hc Io ho (I.fU x c e),hd⟩
 refine⟨I.ok,I.os,hg,⟨fun b o e n hb hx=>?_,fun b o e n hb hx=>?_,fun b o e n hx=>?_,fun b o e hx=>?_,fun b xs e=>kZ b xs (I.base.kZ b xs e),fun b o xs e=>jP b o xs (I.base.jP b o xs e),fun b ps e=>?_⟩,?_,fun x c e=>?_,?_,fun x c e=>?_,fun p hp=>?_,bB,I.len⟩
 ·exact keep b o (Pd b o e) hb (tW b o e hx) (I.base.keep b o e n hb hx) (I.base.free b o e n hx)
 ·obtain⟨sl,e1⟩:=I.base.slot b o e n hb hx;obtain⟨MH,e2⟩:=slot b _ (Pd b o e) hb (tW b o e hx) e1 (I.base.free b o e n hx);exact⟨MH,e2⟩
 ·obtain⟨o',e1⟩:=I.base.there b o e hx;exact free b o' (tW b o e hx) e1 (I.base.free b o e n hx)
 ·obtain⟨o',e1⟩:=I.base.there b o e hx;exact there b o' (tW b o e hx) e1
 ·obtain⟨m1,e1⟩:=I.base.k_ b ps e;obtain⟨m2,e2⟩:=k_ b _ e1;exact⟨m1++m2,by rw[e2,Array.append_assoc]⟩
 ·obtain⟨m,hn,hl⟩:=I.loc;refine⟨m,ns m hn,fun i x v e1 e2 e3=>?_⟩;obtain⟨u,r,l⟩:=hl i x v e1 e2 e3;refine⟨u,r,?_⟩;rcases l with l|⟨k,c,e,z⟩
  ·exact .inl l
  ·exact .inr ⟨k,c,e,cellK x c e _ z⟩
 ·obtain⟨v,z⟩:=I.cell x c e;exact⟨v,cellK x c e v z⟩
 ·obtain⟨m,⟨o,_,_,ho,_⟩,_⟩:=I.loc;exact free _ o (fun z=>(zh _ z).2.1 rfl) ho I.free
 ·obtain⟨v,o,ho,hd⟩:=I.cell x c e;exact free c o (fun z=>(zh c z).2.2.1 x c e rfl) ho (I.fU x c e)
 ·obtain⟨e,n,ne,nf,d⟩:=I.pin p hp;have Io:p.1∉ch:=fun z=>(zh p.1 z).2.2.2 p hp rfl;exact⟨keep p.1 p.2 ne nf Io e n,free p.1 p.2 Io e n,ne,nf,d⟩
theorem Inv.un {t':Nat}(I:Inv X pins σ H s)(u:Un X.fs [] H H' s.heap h')(bB:j4 X.prog X.w H' h'):Inv X pins σ H' {s with heap:=h',toks:=t'}:=by
 obtain⟨m,⟨o,es,ep,ho,r⟩,_⟩:=id I.loc;obtain⟨sl,hL⟩:=u.any ho I.free (by simp);exact I.step (g':=s.gens) (d':=s.drawn) (ch:=[]) (fun _ z=>nomatch z) (fun b o _ hb _ e n=>u.keep b o e n hb (by simp)) (fun b o _ hb _ e n=>u.slot b o e n hb (by simp)) (fun b o _ e n=>u.free b o e n (by simp)) (fun b o _ e=>u.there b o e (by simp)) u.kZ u.jP u.k_ (fun m' hm=>by
  obtain⟨o',tD,EC,BE,r'⟩:=hm;rw[ho]at BE;cases BE;exact⟨_,tD,EC,hL,r'⟩) bB I.bare
theorem Inv.call {g':Array GenState}{t':Nat}{d':Drawn}{ch:List Addr}(I:Inv X pins σ H s)(u:Un (la X.stack) ch H H' s.heap h')(bB:j4 X.prog X.w H' h')(hg:AllBare g')
  (zh:∀b∈ch,(b∈X.ex\/X.eu.heap.objs.size<=b)/\b≠X.env.locals/\(∀x c,X.env.cells.lookup x=some c->c≠b)/\∀p∈X.pn++pins,p.1≠b):
  Inv X pins σ H' {s with heap:=h',gens:=g',drawn:=d',toks:=t'}:=by
 obtain⟨m,⟨o,es,ep,ho,r⟩,_⟩:=id I.loc;obtain⟨sl,hL⟩:=u.any ho I.free fun z=>(zh _ z).2.1 rfl;exact I.step (ch:=ch) zh (fun b o hL hb hc e n=>u.keep b o e n (fun z=>(aY.mp (I.vw b z)).elim hL hb) hc) (fun b o _ _ hc e n=>u.any e n hc) (fun b o hc e n=>u.free b o e n hc) (fun b o hc e=>u.there b o e hc) u.kZ u.jP u.k_ (fun m' hm=>by
  obtain⟨o',tD,EC,BE,r'⟩:=hm;rw[ho]at BE;cases BE;exact⟨_,tD,EC,hL,r'⟩) bB hg
theorem Inv.turned {t':Nat}{it:Addr}(I:Inv X pins σ H s)(k:∀b o,b≠it->s.heap.get? b=some o->h'.get? b=some o)(hn:H it=none)(hL:it≠X.env.locals)
  (h1:it∈X.ex\/X.eu.heap.objs.size<=it) (h2:∀x c,X.env.cells.lookup x=some c->c≠it) (h3:∀p∈X.pn++pins,p.1≠it):Inv X pins σ H {s with heap:=h',toks:=t'}:=by
 have Pe:∀b u,H b=some u->b≠it:=fun b u e z=>by rw[z,hn]at e;cases e
 refine I.step (g':=s.gens) (d':=s.drawn) (ch:=[it]) (fun b hb=>?_) (fun b o _ _ hc e _=>k b o (fun z=>hc (by simp[z])) e) (fun b o _ _ hc e _=>⟨o.slots,k b o (fun z=>hc (by simp[z])) e⟩) (fun _ _ _ _ n=>n)
  (fun b o hc e=>⟨o,k b o (fun z=>hc (by simp[z])) e⟩) (fun _ _ e=>e) (fun _ _ _ e=>e) (fun b ps e=>⟨#[],by rw[e];simp⟩) (fun m hm=>?_) (fun b u e=>?_) I.bare
 ·have e:b=it:=by simpa using hb
  subst e;exact⟨h1,hL,h2,h3⟩
 ·obtain⟨o,es,ep,ho,r⟩:=hm;exact⟨o,es,ep,k _ o (bt hL) ho,r⟩
 ·refine(I.bB b u e).qm (fun c v hc q=>k c v ?_ q) (fun _ q=>q) fun _ _ q=>q;rcases hc with z|z
  ·rw[z];exact Pe b u e
  ·exact Pe c _ z
theorem Inv.tok (I:Inv X pins σ H s)(t:Nat):Inv X pins σ H {s with toks:=t}:=I.un (h':=s.heap) (t':=t) Un.refl I.bB
theorem Inv.kept {t':Nat}(I:Inv X pins σ H s)(k:∀b u,s.heap.get? b=some u->h'.get? b=some u):Inv X pins σ H {s with heap:=h',toks:=t'}:=I.un (Un.kept k) (I.bB.kept k)
theorem Inv.laid {a:Addr}{o:HO}{t':Nat}(I:Inv X pins σ H s)(k:∀b u,s.heap.get? b=some u->h'.get? b=some u)(hp:s.heap.objs.size<=a)(new:bI X.prog X.w (upd H a o) h' a o):
  Inv X pins σ (upd H a o) {s with heap:=h',toks:=t'}:=I.un (Un.laid k hp (I.bB.fresh hp)) (I.bB.laid k hp new)
theorem Inv.write {x e:Addr}{o:HO}{t':Nat}(I:Inv X pins σ H s)(mu:Ii (H x))(he:e=x\/H e=some (.own x))(k:∀b u,b≠e->s.heap.get? b=some u->h'.get? b=some u)(HC:∃u,h'.get? e=some u)
  (new:bI X.prog X.w (upd H x o) h' x o):Inv X pins σ (upd H x o) {s with heap:=h',toks:=t'}:=I.un (Un.write mu he k HC) (I.bB.write mu he k HC new)
theorem Inv.wR {DJ:List (Addr×Obj)}(I:Inv X pins σ H s)(h:∀p∈DJ,s.heap.get? p.1=some p.2/\H p.1=none/\p.1≠X.env.locals/\p.1∉X.fs/\∀v,p.2.data≠ .cell v):Inv X DJ σ H s:=
 ⟨I.ok,I.os,I.bare,I.base,I.loc,I.cell,I.free,I.fU,fun p hp=>(iV.mp hp).elim (fun z=>I.pin p (n_ _ z)) (h p),I.bB,I.len⟩
theorem tX{N:List Str}(hN:N.Nodup){i j:Nat}{x:Str}(a:N[i]?=some x)(b:N[j]?=some x):i=j:=by
 obtain⟨h1,e1⟩:=cG.mp a;obtain⟨h2,e2⟩:=cG.mp b;exact(List.getElem_inj hN).mp (e1.trans e2.symm)
theorem qK{M:Model}{A:Around}{E:Value->Shared->Prop}{i:Nat}{x:Str}{v:V}{u:Value}{Q:Unit->Shared->Prop}(I:Inv X pins σ H s)(hN:X.N.Nodup)(hi:X.N[i]?=some x)(hx:Loc X.env.scope x)(r:RelV v u)
  (h:∀s',Inv X pins (σ.set i (some v)) H s'->(∃a,Heap.SameBut a s.heap s'.heap/\(a=X.env.locals\/X.env.cells.lookup x=some a))->Q () s') (hf:X.fn x=true\/X.env.scope.names.lookup x=some .local:=by first|exact .inl rfl|exact .inr rfl|assumption):wpAny M A (storeName X.env x u) Q E s:=by
 obtain⟨m,hn,hl⟩:=id I.loc;have BF:(X.env.scope.kind== .class||(X.env.scope.kind== .module&&X.env.locals !=X.env.globals))=false:=by rw[I.ok.kind];rfl
 have Ip:i<σ.length:=by rw[I.len];exact(cG.mp hi).1
 have EB:=I.EB;have tracked:∀{a:Addr} {h':Heap},(∃o,s.heap.get? a=some o/\H a=none)->Heap.SameBut a s.heap h'->j4 X.prog X.w H h':=fun{a h'} ha hs b ob e=>by
  obtain⟨_,_,wU⟩:=ha;refine(I.bB b ob e).qm (fun c w' hc q=>(hs.2 c ?_).trans q) (fun _ q=>q) fun _ _ q=>q
  rintro rfl
  rcases hc with rfl|hc
  ·rw[wU]at e;cases e
  ·rw[wU]at hc;cases hc
 rcases hx with hk|hk
 ·refine wpAny_storeName_local hk hn (fun h' LW hs=>?_) BF;obtain⟨oL,_,_,Iq,_⟩:=id hn;refine h _ ⟨I.ok,I.os,I.bare,⟨fun b o e n hb hx=>?_,fun b o e n hb hx=>?_,I.base.free,fun b o e hx=>?_,I.base.kZ,I.base.jP,I.base.k_⟩,⟨_,LW,fun j y v' e1 e2 e3=>?_⟩,fun y c e=>?_,I.free,I.fU,fun p hp=>?_,tracked ⟨oL,Iq,I.free⟩ hs,by simpa using I.len⟩ ⟨_,hs,.inl rfl⟩
  ·exact(hs.2 b (bc (bM (aH e) I.ok.above))).trans (I.base.keep b o e n hb hx)
  ·obtain⟨sl,e1⟩:=I.base.slot b o e n hb hx;exact⟨sl,(hs.2 b (bc (bM (aH e) I.ok.above))).trans e1⟩
  ·obtain⟨o',e1⟩:=I.base.there b o e hx;exact⟨o',(hs.2 b (bc (bM (aH e) I.ok.above))).trans e1⟩
  ·by_cases hj:j=i
   ·subst hj;rw[hi]at e1;cases e1;rw[fM Ip]at e2;cases e2;exact⟨u,r,.inl ⟨hk,by simp⟩⟩
   ·rw[bV (bt hj)]at e2;obtain⟨u',r',q⟩:=hl j y v' e1 e2 e3;refine⟨u',r',?_⟩;rcases q with⟨k,e⟩|⟨k,c,e,z⟩
    ·refine .inl ⟨k,?_⟩;have:y≠x:=fun e=>hj (tX hN e1 (e▸hi));simp[this,e]
    ·exact .inr ⟨k,c,e,z.sameBut hs (EB y c e)⟩
  ·obtain⟨w',z⟩:=I.cell y c e;exact⟨w',z.sameBut hs (EB y c e)⟩
  ·obtain⟨e,n,ne,nf,d⟩:=I.pin p hp;exact⟨(hs.2 p.1 ne).trans e,n,ne,nf,d⟩
 ·have ML:X.fn x=true:=by
   rcases hf with z|z
   ·exact z
   ·rw[z]at hk;cases hk
  obtain⟨c,hc⟩:=I.ok.has x (.inl hk);obtain⟨w',z⟩:=I.cell x c hc;refine wpAny_storeName_cell I.ok.kind hk hc z (fun h' Ir hs=>?_);obtain⟨oc,Pf,MM⟩:=id z;refine h {s with heap:=h'} ⟨I.ok,I.os,I.bare,⟨fun b o e n hb hx=>?_,fun b o e n hb hx=>?_,I.base.free,fun b o e hx=>?_,I.base.kZ,I.base.jP,I.base.k_⟩,⟨m,hn.sameBut hs (bt (EB x c hc)),fun j y v' e1 e2 e3=>?_⟩,fun y c' e=>?_,I.free,I.fU,fun p hp=>?_,tracked ⟨oc,Pf,I.fU x c hc⟩ hs,by simpa using I.len⟩ ⟨c,hs,.inr hc⟩
  ·exact(hs.2 b (bc (bM (aH e) (I.ok.Il x c ML hc)))).trans (I.base.keep b o e n hb hx)
  ·obtain⟨sl,e1⟩:=I.base.slot b o e n hb hx;exact⟨sl,(hs.2 b (bc (bM (aH e) (I.ok.Il x c ML hc)))).trans e1⟩
  ·obtain⟨o',e1⟩:=I.base.there b o e hx;exact⟨o',(hs.2 b (bc (bM (aH e) (I.ok.Il x c ML hc)))).trans e1⟩
  ·by_cases hj:j=i
   ·subst hj;rw[hi]at e1;cases e1;rw[fM Ip]at e2;cases e2;exact⟨u,r,.inr ⟨.inl hk,c,hc,Ir⟩⟩
   ·rw[bV (bt hj)]at e2;obtain⟨u',r',q⟩:=hl j y v' e1 e2 e3;refine⟨u',r',?_⟩;rcases q with q|⟨k,c',e,z'⟩
    ·exact .inl q
    ·refine .inr ⟨k,c',e,z'.sameBut hs ?_⟩
     rintro rfl
     exact hj (tX hN e1 (I.ok.inj _ _ _ e hc▸hi))
  ·by_cases Pg:c'=c
   ·subst Pg;exact⟨_,Ir⟩
   ·obtain⟨w2,z2⟩:=I.cell y c' e;exact⟨w2,z2.sameBut hs Pg⟩
  ·obtain⟨e,n,ne,nf,d⟩:=I.pin p hp;refine⟨(hs.2 p.1 ?_).trans e,n,ne,nf,d⟩;intro q;rw[q,Pf]at e;have q':oc=p.2:=Option.some.inj e;exact d w' (by rw[<-q'];exact MM)
theorem tY{M:Model}{A:Around}{E:Value->Shared->Prop}{i:Nat}{x:Str}{v:V}{u:Value}{Q:Unit->Shared->Prop}(I:Inv X pins σ H s)(hN:X.N.Nodup)(hi:X.N[i]?=some x)(hx:Loc X.env.scope x)(r:RelV v u)
  (h:∀s',Inv X pins (σ.set i (some v)) H s'->Q () s') (hf:X.fn x=true\/X.env.scope.names.lookup x=some .local:=by first|exact .inl rfl|exact .inr rfl|assumption):wpAny M A (storeName X.env x u) Q E s:=
 qK I hN hi hx r (fun s' I' _=>h s' I') hf
theorem Inv.Iu {s':Shared}{ch:List Addr}(I:Inv X pins σ H s)(ho:s'.os=s.os)(u:Un (la X.stack) ch H H' s.heap s'.heap)(bB:j4 X.prog X.w H' s'.heap)(hg:AllBare s'.gens)
  (zh:∀b∈ch,(b∈X.ex\/X.eu.heap.objs.size<=b)/\b≠X.env.locals/\(∀x c,X.env.cells.lookup x=some c->c≠b)/\∀p∈X.pn++pins,p.1≠b):Inv X pins σ H' s':=by
 obtain⟨h',g',d',t',o'⟩:=s';have e:o'=s.os:=ho;subst e;exact I.call (g':=g') (t':=t') (d':=d') u bB hg zh
end
abbrev XK:=Value->Option Addr->Hp->Prop
abbrev St:=List (Option V)
abbrev VK:=V->Hp->Prop
abbrev TE:=St->Hp->VK->Prop
abbrev TT:=St->Hp->(Bool->Hp->Prop)->Prop
abbrev TA:=St->Hp->(List V->Hp->Prop)->Prop
structure Ends where
 nx:St->Hp->Prop
 rt:VK
 bk:St->Hp->Prop:=fun _ _=>False
 ct:St->Hp->Prop:=fun _ _=>False
abbrev TS:=Ends->St->Hp->Prop
def EP(X:Cx)(pins:List (Addr×Obj))(σ:St)(Q:VK)(u:Value)(s':Shared):Prop:=∃v H',Inv X pins σ H' s'/\RelV v u/\Q v H'
def TP(X:Cx)(pins:List (Addr×Obj))(σ:St)(Q:Bool->Hp->Prop)(b:Bool)(s':Shared):Prop:=∃H',Inv X pins σ H' s'/\Q b H'
def AP(X:Cx)(pins:List (Addr×Obj))(σ:St)(Q:List V->Hp->Prop)(us:List Value)(s':Shared):Prop:=∃vs H',Inv X pins σ H' s'/\Vals vs us/\Q vs H'
def SP(X:Cx)(pins:List (Addr×Obj))(D:Ends)(f:Flow)(s':Shared):Prop:=
 match f with
 |.next=>∃bL H',Inv X pins bL H' s'/\D.nx bL H'
 |.brk=>∃bL H',Inv X pins bL H' s'/\D.bk bL H'
 |.cont=>∃bL H',Inv X pins bL H' s'/\D.ct bL H'
 |.ret u=>∃v bL H',Inv X pins bL H' s'/\RelV v u/\D.rt v H'
def PE(X:Cx)(e:Expr)(t:TE):Prop:=
 ∀(pins:List (Addr×Obj)) (s:Shared) (σ:St) (H:Hp) (Q:VK),Inv X pins σ H s->t σ H Q->wpAny (model X.prog X.w) X.A (eval e X.env) (EP X pins σ Q) X.xe s
def PT(X:Cx)(e:Expr)(t:TT):Prop:=
 ∀(pins:List (Addr×Obj)) (s:Shared) (σ:St) (H:Hp) (Q:Bool->Hp->Prop),Inv X pins σ H s->t σ H Q->wpAny (model X.prog X.w) X.A (isTrue e X.env (eval e X.env)) (TP X pins σ Q) X.xe s
def PW(X:Cx)(e:Expr)(t:TT):Prop:=
 ∀(whole:Sem Value) (pins:List (Addr×Obj)) (s:Shared) (σ:St) (H:Hp) (Q:Bool->Hp->Prop),Inv X pins σ H s->t σ H Q->wpAny (model X.prog X.w) X.A (isTrue e X.env whole) (TP X pins σ Q) X.xe s
theorem PW.pt {X:Cx}{e:Expr}{t:TT}(h:PW X e t):PT X e t:=h _
def PA(X:Cx)(es:List Expr)(t:TA):Prop:=
 ∀(pos:Pos) (pins:List (Addr×Obj)) (s:Shared) (σ:St) (H:Hp) (Q:List V->Hp->Prop),Inv X pins σ H s->t σ H Q->wpAny (model X.prog X.w) X.A (spliced (backTo pos (starEach es X.env))) (AP X pins σ Q) X.xe s
def PS(X:Cx)(st:Stmt)(t:TS):Prop:=
 ∀(pins:List (Addr×Obj)) (s:Shared) (σ:St) (H:Hp) (D:Ends),Inv X pins σ H s->t D σ H->wpAny (model X.prog X.w) X.A (exec st X.env) (SP X pins D) X.xe s
def jQ(X:Cx)(st:List Stmt)(t:TS):Prop:=
 ∀(pins:List (Addr×Obj)) (s:Shared) (σ:St) (H:Hp) (D:Ends),Inv X pins σ H s->t D σ H->wpAny (model X.prog X.w) X.A (execs st X.env) (SP X pins D) X.xe s
theorem cn{α:Type}{t:Sem α}{Q Q':α->Shared->Prop}{M:Model}{A:Around}{E:Value->Shared->Prop}{s:Shared}(h:wpAny M A t Q E s)(hQ:∀a s,Q a s->Q' a s):wpAny M A t Q' E s:=cy h hQ fun _ _ x=>x
end L2
namespace L2
open PySem PySem.Spec PyProof.Rows
section
variable {X:Cx}
def MN(i:Nat):TE:=fun σ H Q=>∃v,σ[i]?=some (some v)/\Q v H
def tC(v:V):TE:=fun _ H Q=>Q v H
theorem ED{i:Nat}{x:Str}{pos:Pos}(hN:X.N[i]?=some x)(hv:LV X.env.scope x)(hd:(x==("__debug__":Str))=false:=by decide) (vx:(x==("__classdict__":Str))=false:=by decide):PE X (.Name x pos) (MN i):=by
 intro pins s σ H Q I h;obtain⟨v,e,h⟩:=h;obtain⟨m,hn,hl⟩:=I.loc;obtain⟨u,r,l⟩:=hl i x v hN e hv;have fin:EP X pins σ Q u s:=⟨v,H,I,r,h⟩;rcases l with⟨hk,hm⟩|⟨hk,c,hc,DK⟩
 ·exact wpAny_Name (wpAny_loadName_local I.ok.kind hk hn hm fin) hd
 ·rcases hk with hk|hk
  ·exact wpAny_Name (wpAny_loadName_cell I.ok.kind hk hc DK fin) hd
  ·exact wpAny_Name (wpAny_loadName_free I.ok.kind hk hc DK fin vx) hd
theorem EE{i j pos}:PE X (.Constant (.int i) j pos) (tC (.int i)):=fun _ _ _ H _ I h=>wpAny_Constant_int ⟨.int i,H,I.tok _,⟨_,rfl⟩,h⟩
theorem Iv{b j pos}:PE X (.Constant (.bool b) j pos) (tC (.bl b)):=fun _ _ _ H _ I h=>Constant_bool ⟨.bl b,H,I,rfl,h⟩
theorem EF{j pos}:PE X (.Constant .none j pos) (tC .a_):=fun _ _ _ H _ I h=>Constant_none ⟨.a_,H,I,rfl,h⟩
theorem EG{x j pos}:PE X (.Constant (.str x) j pos) (tC (.str x)):=fun _ _ _ H _ I h=>Calls.Constant_str ⟨.str x,H,I.tok _,⟨_,rfl⟩,h⟩
def Gl(X:Cx)(x:Str):Prop:=X.env.kindOf x=some .globalImplicit
theorem lb{E:Value->Shared->Prop}{pins:List (Addr×Obj)}{s:Shared}{σ:St}{H:Hp}{x:Str}{u:Value}{pos:Pos}{Q:Value->Shared->Prop}(I:Inv X pins σ H s)(hg:Gl X x)(hm:X.mg x=some u)(h:Q u s)
  (hd:(x==("__debug__":Str))=false:=by decide):wpAny (model X.prog X.w) X.A (eval (.Name x pos) X.env) Q E s:=
 Calls.Name_function_global I.ok.kind hg (Calls.loadGlobal_global (by rw[I.ok.glob];exact I.mod.glob.keeps I.bk) hm h) hd
theorem vy{E:Value->Shared->Prop}{pins:List (Addr×Obj)}{s:Shared}{σ:St}{H:Hp}{x:Str}{u:Value}{pos:Pos}{Q:Value->Shared->Prop}(I:Inv X pins σ H s)(hg:Gl X x)(hm:X.mg x=none)(hv:bootBuiltins x=some u)(h:Q u s)
  (hn:x≠"__name__":=by decide) (hd:(x==("__debug__":Str))=false:=by decide):wpAny (model X.prog X.w) X.A (eval (.Name x pos) X.env) Q E s:=by
 obtain⟨mb,h1,h2⟩:=I.mod.blt;exact Calls.Name_function_global I.ok.kind hg (Calls.loadGlobal_builtin (by rw[I.ok.glob];exact I.mod.glob.keeps I.bk) hm (by rw[I.ok.blt];exact h1.keeps I.bk) ((h2 x hn).trans hv) h) hd
theorem BG{x:Str}{v:V}{u:Value}{pos:Pos}(hg:Gl X x)(hm:X.mg x=some u)(r:RelV v u)(hd:(x==("__debug__":Str))=false:=by decide):PE X (.Name x pos) (tC v):=
 fun _ _ _ H _ I h=>lb I hg hm ⟨v,H,I,r,h⟩ hd
variable {a b:Expr}{ta tb:TE}{pos:Pos}
variable {tA LX:TT}{rest:List Expr}
def MO(t u:TT):TT:=fun σ H Q=>t σ H fun c H1=>if c=true then u σ H1 Q else Q false H1
def Qq(t u:TT):TT:=fun σ H Q=>t σ H fun c H1=>if c=true then Q true H1 else u σ H1 Q
def MP(t:TT):TT:=fun σ H Q=>t σ H fun c H1=>Q (!c) H1
theorem pw_and1(ha:PT X a tA):PW X (.BoolOp .And [a] pos) tA:=by
 intro wh pins s σ H Q I h;refine isTrue_and (cn (ha pins s σ H Q I h) fun c s1 e=>?_);cases c with
 |true=>exact isTrue_and_nil e
 |false=>exact e
theorem pw_or1(ha:PT X a tA):PW X (.BoolOp .Or [a] pos) tA:=by
 intro wh pins s σ H Q I h;refine isTrue_or (cn (ha pins s σ H Q I h) fun c s1 e=>?_);cases c with
 |false=>exact isTrue_or_nil e
 |true=>exact e
theorem pw_and(ha:PT X a tA)(hb:PW X (.BoolOp .And (b::rest) pos) LX):PW X (.BoolOp .And (a::b::rest) pos) (MO tA LX):=by
 intro wh pins s σ H Q I h;refine isTrue_and (cn (ha pins s σ H _ I h) fun c s1 ⟨H1,I1,q1⟩=>?_);cases c with
 |true=>exact hb wh pins s1 σ H1 Q I1 q1
 |false=>exact⟨H1,I1,q1⟩
theorem pw_or(ha:PT X a tA)(hb:PW X (.BoolOp .Or (b::rest) pos) LX):PW X (.BoolOp .Or (a::b::rest) pos) (Qq tA LX):=by
 intro wh pins s σ H Q I h;refine isTrue_or (cn (ha pins s σ H _ I h) fun c s1 ⟨H1,I1,q1⟩=>?_);cases c with
 |true=>exact⟨H1,I1,q1⟩
 |false=>exact hb wh pins s1 σ H1 Q I1 q1
theorem EH(ha:PT X a tA):PT X (.UnaryOp .Not a pos) (MP tA):=by
 intro pins s σ H Q I h;exact isTrue_not (ha pins s σ H (fun c H1=>Q (!c) H1) I h)
def Qr(t:TT)(ta tb:TE):TE:=fun σ H Q=>t σ H fun c H1=>if c=true then ta σ H1 Q else tb σ H1 Q
theorem zp{c:Expr}(hc:PT X c tA)(ha:PE X a ta)(hb:PE X b tb):PE X (.IfExp c a b pos) (Qr tA ta tb):=by
 intro pins s σ H Q I h;refine wpAny_IfExp (cn (hc pins s σ H _ I h) fun d s1 ⟨H1,I1,q1⟩=>?_);cases d with
 |true=>exact ha pins s1 σ H1 Q I1 q1
 |false=>exact hb pins s1 σ H1 Q I1 q1
end
end L2
namespace L2
open PySem PySem.Spec PyProof.Rows
def iF(K:PySem.W.Frag)(H:Hp)(a:Addr)(xs:List V):Prop:=
 Rd H a (.lst xs)\/
  ∃(o:Obj) (aV:Array Value) (n:Nat),K.lookup a=some o/\o.cls=.type "list"/\o.dict=none/\o.data=.seq aV n/\aV.size<=sizeLine/\Vals xs aV.toList
def i6(K:PySem.W.Frag)(H:Hp)(a:Addr)(xs:List V):Prop:=
 Rd H a (.tup xs)\/
  ∃(o:Obj) (aV:Array Value) (n:Nat),K.lookup a=some o/\o.cls=.type "tuple"/\o.data=.seq aV n/\aV.size<=sizeLine/\Vals xs aV.toList
def MQ:Value->Option V
 |.none=>some .a_
 |.bool b=>some (.bl b)
 |.int i _=>some (.int i)
 |.str x _=>some (.str x)
 |.bytes b _=>some (.DI b)
 |.float b _=>some (.Hz b)
 |.ref a=>some (.ref a)
 |.type n=>some (.ty n)
 |_=>none
theorem RelV.abs {x:V}{u:Value}(r:RelV x u):MQ u=some x:=by
 cases x with
 |a_=>cases r;rfl
 |bl _=>cases r;rfl
 |int _=>obtain⟨t,rfl⟩:=r;rfl
 |str _=>obtain⟨t,rfl⟩:=r;rfl
 |DI _=>obtain⟨t,rfl⟩:=r;rfl
 |Hz _=>obtain⟨t,rfl⟩:=r;rfl
 |ref _=>cases r;rfl
 |ty _=>cases r;rfl
theorem RelV.inj {x y:V}{u:Value}(r:RelV x u)(q:RelV y u):x=y:=Option.some.inj (r.abs.symm.trans q.abs)
theorem Vals.inj:∀{xs ys:List V} {us:List Value},Vals xs us->Vals ys us->xs=ys
 |_,_,_,.nil,.nil=>rfl
 |_,_,_,.cons r t,.cons r' t'=>by rw[r.inj r',Vals.inj t t']
section
variable {X:Cx}{pins:List (Addr×Obj)}{σ:St}{H:Hp}{s:Shared}{a:Addr}{xs ys:List V}
theorem iF.of {K:PySem.W.Frag}(h:H a=some (.lst xs)):iF K H a xs:=.inl (.inl h)
theorem Inv.list (I:Inv X pins σ H s)(h:iF X.K H a xs):∃aV:List Value,Vals xs aV/\PlainL s.heap a aV.toArray/\xs.length<=sizeLine:=by
 rcases h with h|⟨o,aV,n,hk,hc,hd,hs,hz,r⟩
 ·obtain⟨z,aV,n,r,e⟩:=h.ok I.bB;exact⟨aV,r,⟨_,n,e,rfl,rfl,rfl⟩,z⟩
 ·refine⟨aV.toList,r,⟨o,n,I.r_ a o hk,hc,hd,by simpa using hs⟩,?_⟩;have e:=r.length;simp only[bW]at e;omega
theorem Inv.tuple (I:Inv X pins σ H s)(h:i6 X.K H a xs):∃aV:List Value,Vals xs aV/\IsTup s.heap a aV.toArray/\xs.length<=sizeLine:=by
 rcases h with h|⟨o,aV,n,hk,hc,hs,hz,r⟩
 ·obtain⟨z,aV,r,p⟩:=h.ok I.bB;exact⟨aV,r,p.tup,z⟩
 ·refine⟨aV.toList,r,⟨o,I.r_ a o hk,hc,n,by simpa using hs⟩,?_⟩;have e:=r.length;simp only[bW]at e;omega
theorem Inv.zq (I:Inv X pins σ H s)(h:iF X.K H a xs)(h':iF X.K H a ys):xs=ys:=by
 obtain⟨aV,r,⟨o,n,e,_,_,d⟩,_⟩:=I.list h;obtain⟨t4,r',⟨o',n',e',_,_,d'⟩,_⟩:=I.list h';rw[e]at e';cases e';rw[d]at d';injection d' with d1 _
 have:aV=t4:=by simpa using bE Array.toList d1
 subst this;exact r.inj r'
theorem Inv.qL (I:Inv X pins σ H s)(h:i6 X.K H a xs)(h':i6 X.K H a ys):xs=ys:=by
 obtain⟨aV,r,⟨o,e,_,n,d⟩,_⟩:=I.tuple h;obtain⟨t4,r',⟨o',e',_,n',d'⟩,_⟩:=I.tuple h';rw[e]at e';cases e';rw[d]at d';injection d' with d1 _
 have:aV=t4:=by simpa using bE Array.toList d1
 subst this;exact r.inj r'
end
abbrev Cx.qq (X:Cx)(E:Value->Shared->Prop):Cx:={X with xe:=E}
abbrev Cx.zi (X:Cx):Cx:=X.qq fun _ _=>False
theorem Cx.Ok.qq {X:Cx}(ok:X.Ok)(E:Value->Shared->Prop):(X.qq E).Ok:=
 ⟨ok.mod,ok.kind,ok.glob,ok.blt,ok.above,ok.inj,ok.has,ok.Il,ok.hd,ok.frames,ok.HD,ok.MI,ok.bs,ok.BD,ok.zm,ok.zo,ok.m6,ok.EA⟩
theorem Cx.Ok.i7 {X:Cx}{E:Value->Shared->Prop}(ok:(X.qq E).Ok):X.Ok:=
 ⟨ok.mod,ok.kind,ok.glob,ok.blt,ok.above,ok.inj,ok.has,ok.Il,ok.hd,ok.frames,ok.HD,ok.MI,ok.bs,ok.BD,ok.zm,ok.zo,ok.m6,ok.EA⟩
section
variable {X:Cx}{pins:List (Addr×Obj)}{σ:St}{H:Hp}{s:Shared}{E:Value->Shared->Prop}
theorem Inv.qq (I:Inv X pins σ H s)(E:Value->Shared->Prop):Inv (X.qq E) pins σ H s:=⟨I.ok.qq E,I.os,I.bare,I.base,I.loc,I.cell,I.free,I.fU,I.pin,I.bB,I.len⟩
theorem Inv.i7 (I:Inv (X.qq E) pins σ H s):Inv X pins σ H s:=⟨I.ok.i7,I.os,I.bare,I.base,I.loc,I.cell,I.free,I.fU,I.pin,I.bB,I.len⟩
theorem SP.i7 {D:Ends}{f:Flow}{s':Shared}(h:SP (X.qq E) pins D f s'):SP X pins D f s':=by
 cases f with
 |next=>obtain⟨bL,H',I,q⟩:=h;exact⟨bL,H',I.i7,q⟩
 |brk=>obtain⟨bL,H',I,q⟩:=h;exact⟨bL,H',I.i7,q⟩
 |cont=>obtain⟨bL,H',I,q⟩:=h;exact⟨bL,H',I.i7,q⟩
 |ret u=>obtain⟨v,bL,H',I,r,q⟩:=h;exact⟨v,bL,H',I.i7,r,q⟩
theorem jQ.zi {st:List Stmt}{t:TS}(h:jQ X.zi st t):jQ X st t:=fun pins s σ H D I hw=>
 cy (h pins s σ H D (I.qq _) hw) (fun _ _ q=>q.i7) fun _ _ z=>False.elim z
end
section
variable {X:Cx}{st:Stmt}{rest:List Stmt}{t u:TS}{e:Expr}{te:TE}{pos:Pos}
def Iw:TS:=fun D σ H=>D.nx σ H
def MR(t u:TS):TS:=fun D σ H=>t {D with nx:=u D} σ H
theorem wV:jQ X [] Iw:=fun _ _ σ H _ I h=>wpAny_execs_nil ⟨σ,H,I,h⟩
theorem t6(h1:PS X st t)(h2:jQ X rest u):jQ X (st::rest) (MR t u):=by
 intro pins s σ H D I h;refine wpAny_execs_cons (cn (h1 pins s σ H {D with nx:=u D} I h) fun f s1 q=>?_);cases f with
 |next=>
  obtain⟨bL,H',I',q⟩:=q;exact h2 pins s1 bL H' D I' q
 |ret v=>exact q
 |brk=>exact q
 |cont=>exact q
theorem wW(h1:PS X st t):jQ X [st] t:=by
 intro pins s σ H D I h;refine wpAny_execs_cons (cn (h1 pins s σ H D I h) fun f s1 q=>?_);cases f with
 |next=>exact wpAny_execs_nil q
 |ret v=>exact q
 |brk=>exact q
 |cont=>exact q
theorem Inv.quiet {pins:List (Addr×Obj)}{σ:St}{H:Hp}{s:Shared}(I:Inv X pins σ H s):interactive X.env=false:=by simp[interactive,I.ok.kind]
def Iy(te:TE):TS:=fun D σ H=>te σ H fun _ H1=>D.nx σ H1
theorem BH(he:PE X e te)(hs:swapsWith e none pos.line X.env=pure false:=by rfl):PS X (.Expr e pos) (Iy te):=by
 intro pins s σ H D I h;exact wpAny_Expr_any (cn (he pins s σ H _ I h) fun v s1 ⟨x,H1,I1,r1,q1⟩=>⟨σ,H1,I1,q1⟩) I.quiet hs
def MS(te:TE):TS:=fun D σ H=>te σ H D.rt
theorem zr(he:PE X e te):PS X (.Return (some e) pos) (MS te):=by
 intro pins s σ H D I h;exact wpAny_Return_some (cn (he pins s σ H _ I h) fun v s1 ⟨x,H1,I1,r1,q1⟩=>⟨x,σ,H1,I1,r1,q1⟩)
def Iz:TS:=fun D _ H=>D.rt .a_ H
theorem BI:PS X (.Return none pos) Iz:=fun _ _ σ H _ I h=>wpAny_Return_none ⟨.a_,σ,H,I,rfl,h⟩
def MT(c:TT)(t u:TS):TS:=fun D σ H=>c σ H fun b H1=>if b=true then t D σ H1 else u D σ H1
theorem DL{c:Expr}{a b:List Stmt}{tc:TT}(hc:PT X c tc)(ha:jQ X a t)(hb:jQ X b u):PS X (.If c a b pos) (MT tc t u):=by
 intro pins s σ H D I h;refine wpAny_If (cn (hc pins s σ H _ I h) fun d s1 ⟨H1,I1,q1⟩=>?_);cases d with
 |true=>exact ha pins s1 σ H1 D I1 q1
 |false=>exact hb pins s1 σ H1 D I1 q1
end
abbrev TG:=V->St->Hp->(St->Hp->Prop)->Prop
abbrev EI:=List V->St->Hp->(St->Hp->Prop)->Prop
def PG(X:Cx)(target:Expr)(t:TG):Prop:=
 ∀(pins:List (Addr×Obj)) (s:Shared) (σ:St) (H:Hp) (v:V) (u:Value) (Q:St->Hp->Prop),Inv X pins σ H s->RelV v u->t v σ H Q->
  wpAny (model X.prog X.w) X.A (assign target X.env u) (fun _ s'=>∃bL H',Inv X pins bL H' s'/\Q bL H') X.xe s
def BJ(X:Cx)(ts:List Expr)(t:EI):Prop:=
 ∀(pins:List (Addr×Obj)) (s:Shared) (σ:St) (H:Hp) (vs:List V) (us:List Value) (Q:St->Hp->Prop),Inv X pins σ H s->Vals vs us->t vs σ H Q->
  wpAny (model X.prog X.w) X.A (assignInOrder ((assignEach ts X.env).map (·.2)) us) (fun _ s'=>∃bL H',Inv X pins bL H' s'/\Q bL H') X.xe s
section
variable {X:Cx}{pos:Pos}
def DM(i:Nat):TG:=fun v σ H Q=>Q (σ.set i (some v)) H
theorem wX{i:Nat}{x:Str}(hN:X.N.Nodup)(hi:X.N[i]?=some x)(hx:Loc X.env.scope x)(hf:X.fn x=true\/X.env.scope.names.lookup x=some .local:=by first|exact .inl rfl|exact .inr rfl|assumption):PG X (.Name x pos) (DM i):=by
 intro pins s σ H v u Q I r h;exact wpAny_assign_Name (tY I hN hi hx r (fun s' I'=>⟨_,H,I',h⟩) hf)
def MU:EI:=fun vs σ H Q=>vs=[]/\Q σ H
def IA(t:TG)(u:EI):EI:=fun vs σ H Q=>∃v r,vs=v::r/\t v σ H fun bL H'=>u r bL H' Q
theorem BK:BJ X [] MU:=by
 intro pins s σ H vs us Q I r h;obtain⟨e,h⟩:=h;subst e;cases r;exact assignInOrder_nil ⟨σ,H,I,h⟩
theorem zt{e:Expr}{es:List Expr}{t:TG}{u:EI}(h1:PG X e t)(h2:BJ X es u)
  (hs:(assignEach (e::es) X.env).map (·.2)=assign e X.env::(assignEach es X.env).map (·.2):=by rfl):BJ X (e::es) (IA t u):=by
 intro pins s σ H vs us Q I r h;obtain⟨v,vr,e1,h⟩:=h;subst e1;cases r with
 |cons r rr=>
  rw[hs];refine assignInOrder_cons (cn (h1 pins s σ H _ _ _ I r h) fun _ s1 ⟨Qs,H1,I1,q1⟩=>?_);exact h2 pins s1 Qs H1 _ _ Q I1 rr q1
def MV(K:PySem.W.Frag)(n:Nat)(t:EI):TG:=fun v σ H Q=>∃a xs,v=.ref a/\i6 K H a xs/\xs.length=n/\t xs σ H Q
theorem EJ{es:List Expr}{k:Nat}{t:EI}{n:Nat}(hc:X.calm=true)(h:BJ X es t)
  (hn:(assignEach es X.env).length=n:=by rfl) (bx:(assignEach es X.env).findIdx? (·.1)=none:=by rfl):PG X (.Tuple es k pos) (MV X.K n t):=by
 intro pins s σ H v u Q I r hw;obtain⟨a,xs,e1,hq,hl,hw⟩:=hw;subst e1;cases r;obtain⟨aV,rv,ht,hz⟩:=I.tuple hq;refine assign_Tuple_tuple (I.ok.hd hc) ht (by simp[hn,<-hl,rv.length]) bx fun h' hx=>?_
 have I1:Inv X pins σ H {s with heap:=h'}:=I.kept (t':=s.toks) fun b o e=>hx b o (bc (aH e)) e;exact h pins _ σ H xs _ Q I1 (by simpa using rv) hw
def IB(te:TE)(g:TG):TS:=fun D σ H=>te σ H fun x H1=>g x σ H1 D.nx
theorem EK{tg e:Expr}{te:TE}{g:TG}(he:PE X e te)(hg:PG X tg g)(hs:swapsWithSole [tg] e pos.line X.env=pure false:=by rfl) (hw:swappedStores [tg] e X.env=pure none:=by rfl)
  (h1:(assignEach [tg] X.env).map (·.2)=[assign tg X.env]:=by rfl):PS X (.Assign [tg] e pos) (IB te g):=by
 intro pins s σ H D I h;refine wpAny_Assign_stores (cn (he pins s σ H _ I h) fun v s1 ⟨x,H1,I1,r1,q1⟩=>?_) hs hw;rw[h1];exact cn (hg pins s1 σ H1 x v _ I1 r1 q1) fun _ s2 q=>q
theorem zu{i:Nat}{x:Str}{e:Expr}{te:TE}{pos':Pos}(hN:X.N.Nodup)(hi:X.N[i]?=some x)(hx:Loc X.env.scope x)(he:PE X e te)(hs:swapsWith e (some (.Name x pos')) pos.line X.env=pure false:=by rfl) (hf:X.fn x=true\/X.env.scope.names.lookup x=some .local:=by first|exact .inl rfl|exact .inr rfl|assumption):
  PS X (.Assign [.Name x pos'] e pos) (IB te (DM i)):=by
 intro pins s σ H D I h;refine wpAny_Assign_Name (cn (he pins s σ H _ I h) fun v s1 ⟨y,H1,I1,r1,q1⟩=>?_) hs;exact tY I1 hN hi hx r1 (fun s2 I2=>⟨_,H1,I2,q1⟩) hf
end
structure It where
 go:Nat->Hp->Prop
 zv:Nat->Hp->V->Hp->Prop
 stop:Nat->Hp->Prop
def l9(X:Cx)(pins:List (Addr×Obj))(H:Hp)(b:Addr):Prop:=
 H b=none/\b≠X.env.locals/\b∉X.fs/\(b∈X.ex\/X.eu.heap.objs.size<=b)/\(∀x c,X.env.cells.lookup x=some c->c≠b)/\∀p∈X.pn++pins,p.1≠b
theorem Inv.yn {X:Cx}{pins:List (Addr×Obj)}{σ:St}{H H':Hp}{s:Shared}{b:Addr}(I:Inv X pins σ H s)(hb:s.heap.objs.size<=b)(hn:H' b=none):l9 X pins H' b:=by
 refine⟨hn,gr (bM I.lt hb),I.MK hb,.inr (a6 I.sz hb),fun x c e z=>?_,fun p hp z=>?_⟩
 ·obtain⟨v,q⟩:=I.cell x c e;exact absurd (bM q.lt (by rw[z];exact hb)) (cx _)
 ·exact absurd (bM (aH (I.pin p hp).1) (by rw[z];exact hb)) (cx _)
structure Turn(P:Program)(w:World)(K:PySem.W.Frag)(tg:Expr)(J:It)(fp:List Addr)(it:Addr)(tn:Nat->Heap->Prop):Prop where
 mem:it∈fp
 obj:∀i h,tn i h->∀b∈fp,∃o,h.get? b=some o/\∀v,o.data≠ .cell v
 keep:∀i h h',tn i h->(∀b∈fp,∀o,h.get? b=some o->h'.get? b=some o)->tn i h'
 item:∀(X:Cx),X.prog=P->X.w=w->X.K=K->X.calm=true->∀(i:Nat) (pins:List (Addr×Obj)) (s:Shared) (σ:St) (H:Hp) (E:Value->Shared->Prop),Inv X pins σ H s->(∀b∈fp,l9 X pins H b)->tn i s.heap->J.go i H->
  wpAny (model P w) X.A (pyNext (.ref it)) (fun r s1=>∃u,r=some u/\
   wpAny (model P w) X.A (letOwnedTupleGo tg (.ref it) u) (fun _ s2=>∃x H',Inv X pins σ H' s2/\RelV x u/\J.zv i H x H'/\tn (i+1) s2.heap/\∀b∈fp,H' b=none) E s1) E s
 done:∀(X:Cx),X.prog=P->X.w=w->X.K=K->X.calm=true->∀(i:Nat) (pins:List (Addr×Obj)) (s:Shared) (σ:St) (H:Hp) (E:Value->Shared->Prop),Inv X pins σ H s->(∀b∈fp,l9 X pins H b)->tn i s.heap->J.stop i H->
  wpAny (model P w) X.A (pyNext (.ref it)) (fun r s1=>r=none/\Inv X pins σ H s1) E s
 self:∀(A:Around) (i:Nat) (s:Shared) (Q:Value->Shared->Prop) (E:Value->Shared->Prop),tn i s.heap->Q (.ref it) s->wpAny (model P w) A (pyIter (.ref it)) Q E s
abbrev TI:=St->Hp->(It->Hp->Prop)->Prop
def LY(X:Cx)(pins:List (Addr×Obj))(σ:St)(tg:Expr)(R:It->Hp->Prop)(L0:Value)(s2:Shared):Prop:=
 ∃(it:Addr) (fp:List Addr) (tn:Nat->Heap->Prop) (J:It) (H':Hp),L0=.ref it/\Inv X pins σ H' s2/\Turn X.prog X.w X.K tg J fp it tn/\tn 0 s2.heap/\(∀b∈fp,l9 X pins H' b)/\R J H'
def PI(X:Cx)(tg iter:Expr)(wi:TI):Prop:=
 ∀(pins:List (Addr×Obj)) (s:Shared) (σ:St) (H:Hp) (R:It->Hp->Prop),Inv X pins σ H s->wi σ H R->
  wpAny (model X.prog X.w) X.A (eval iter X.env) (fun v s1=>wpAny (model X.prog X.w) X.A (pyIter v) (LY X pins σ tg R) X.xe s1) X.xe s
theorem qM{M:Model}{A:Around}{E:Value->Shared->Prop}{s:Shared}{tg:Expr}{it:Addr}{u:Value}{o:Obj}{n:String}{vs:Array Value}{Q:Unit->Shared->Prop}(ho:s.heap.get? it=some o)(hc:o.cls=.type n)(hd:o.data=.fields vs)
  (hn:["enumerate","zip","dict_itemiterator","dict_reverseitemiterator","odict_iterator","itertools.zip_longest","itertools.pairwise"].contains n=false) (hQ:Q () s):wpAny M A (letOwnedTupleGo tg (.ref it) u) Q E s:=by
 unfold letOwnedTupleGo;cases tg<;>first
  |exact ak hQ
  |(cases u<;>first
    |exact ak hQ
    |(refine ab (wpAny_load ho ?_)
      rw[hc,hd];show wpAny M A (if(["enumerate","zip","dict_itemiterator","dict_reverseitemiterator","odict_iterator","itertools.zip_longest","itertools.pairwise"].contains n&&vs[0]?==some (rawInt _))=true then _ else _) Q E s;rw[ai (by intro h;rw[hn,Bool.false_and]at h;cases h)];exact ak hQ))
def Ph(K:PySem.W.Frag)(a:Addr):It:=
 ⟨fun i H=>∃xs x,iF K H a xs/\xs[i]?=some x,fun i H x H'=>H'=H/\∀xs,iF K H a xs->xs[i]?=some x,fun i H=>∃xs,iF K H a xs/\xs.length<=i⟩
def Pj(K:PySem.W.Frag)(a:Addr):It:=
 ⟨fun i H=>∃xs x,i6 K H a xs/\xs[i]?=some x,fun i H x H'=>H'=H/\∀xs,i6 K H a xs->xs[i]?=some x,fun i H=>∃xs,i6 K H a xs/\xs.length<=i⟩
def L1(lo:Int)(n:Nat):It:=⟨fun i _=>i<n,fun i H x H'=>H'=H/\x=.int (lo+i),fun i _=>n<=i⟩
theorem yo{P:Program}{w:World}{K:PySem.W.Frag}{tg:Expr}(a it:Addr):Turn P w K tg (Ph K a) [it] it (fun i h=>h.IsListIter it a i) where
 mem:=by simp
 obj:=fun i h st b hb=>by
  have e:b=it:=by simpa using hb
  subst e;obtain⟨o,e,c,d⟩:=st;exact⟨o,e,fun v z=>by rw[d]at z;cases z⟩
 keep:=fun i h h' st k=>st.at fun o e=>k it (by simp) o e
 item:=by
  intro X hP hw hK hc i pins s σ H E I hf st hg;subst hP hw hK;obtain⟨xs,x,hq,hx⟩:=hg;obtain⟨aV,rv,p,hz⟩:=I.list hq;obtain⟨u,hu,ru⟩:=rv.get hx;obtain⟨f0,f1,f2,f3,f4,f5⟩:=hf it (by simp);refine wpAny_pyNext_list_item st p.isList (x:=u) (by simpa using hu) fun h' tH sb=>?_
  have I1:Inv X pins σ H {s with heap:=h'}:=I.turned (t':=s.toks) (fun b o hb e=>(sb.2 b hb).trans e) f0 f1 f3 f4 f5;obtain⟨o,e,c,d⟩:=id tH;exact⟨u,rfl,qM (s:={s with heap:=h'}) e c d (by decide) ⟨x,H,I1,ru,⟨rfl,fun ys hy=>by rw[I.zq hy hq];exact hx⟩,tH,fun b hb=>(hf b hb).1⟩⟩
 done:=by
  intro X hP hw hK hc i pins s σ H E I hf st hg;subst hP hw hK;obtain⟨xs,hq,hx⟩:=hg;obtain⟨aV,rv,p,hz⟩:=I.list hq;obtain⟨f0,f1,f2,f3,f4,f5⟩:=hf it (by simp);have hl:=rv.length;exact wpAny_pyNext_list_end (I.ok.hd hc) st p.isList (by simp;omega) fun h' eb=>⟨rfl,I.turned (t':=s.toks) (fun b o hb e=>eb b o hb e) f0 f1 f3 f4 f5⟩
 self:=fun _ _ _ _ _ st h=>wpAny_pyIter_listiter st h
theorem vz{P:Program}{w:World}{K:PySem.W.Frag}{tg:Expr}(a it:Addr):Turn P w K tg (Pj K a) [it] it (fun i h=>h.IsTupleIter it a i) where
 mem:=by simp
 obj:=fun i h st b hb=>by
  have e:b=it:=by simpa using hb
  subst e;obtain⟨o,e,c,d⟩:=st;exact⟨o,e,fun v z=>by rw[d]at z;cases z⟩
 keep:=fun i h h' st k=>st.at fun o e=>k it (by simp) o e
 item:=by
  intro X hP hw hK hc i pins s σ H E I hf st hg;subst hP hw hK;obtain⟨xs,x,hq,hx⟩:=hg;obtain⟨aV,rv,p,hz⟩:=I.tuple hq;obtain⟨u,hu,ru⟩:=rv.get hx;obtain⟨f0,f1,f2,f3,f4,f5⟩:=hf it (by simp);refine wpAny_pyNext_tuple_item st (show s.heap.IsTuple a aV.toArray from p) (x:=u) (by simpa using hu) fun h' tH sb=>?_
  have I1:Inv X pins σ H {s with heap:=h'}:=I.turned (t':=s.toks) (fun b o hb e=>(sb.2 b hb).trans e) f0 f1 f3 f4 f5;obtain⟨o,e,c,d⟩:=id tH;exact⟨u,rfl,qM (s:={s with heap:=h'}) e c d (by decide) ⟨x,H,I1,ru,⟨rfl,fun ys hy=>by rw[I.qL hy hq];exact hx⟩,tH,fun b hb=>(hf b hb).1⟩⟩
 done:=by
  intro X hP hw hK hc i pins s σ H E I hf st hg;subst hP hw hK;obtain⟨xs,hq,hx⟩:=hg;obtain⟨aV,rv,p,hz⟩:=I.tuple hq;obtain⟨f0,f1,f2,f3,f4,f5⟩:=hf it (by simp);have hl:=rv.length;exact wpAny_pyNext_tuple_end (I.ok.hd hc) st (show s.heap.IsTuple a aV.toArray from p) (by simp;omega) fun h' eb=>⟨rfl,I.turned (t':=s.toks) (fun b o hb e=>eb b o hb e) f0 f1 f3 f4 f5⟩
 self:=fun _ _ _ _ _ st h=>wpAny_pyIter_tupleiter st h
theorem vA{P:Program}{w:World}{K:PySem.W.Frag}{tg:Expr}(it:Addr)(lo:Int)(n:Nat):Turn P w K tg (L1 lo n) [it] it (fun i h=>IsRangeIter h it (lo+(i:Nat)*1) ((n:Int) - (i:Nat)) 1) where
 mem:=by simp
 obj:=fun i h st b hb=>by
  have e:b=it:=by simpa using hb
  subst e;exact⟨_,st,fun v z=>by
   have z':Data.fields _=Data.cell v:=z;cases z'⟩
 keep:=fun i h h' st k=>k it (by simp) _ st
 item:=by
  intro X hP hw hK hc i pins s σ H E I hf st hg;subst hP hw hK;obtain⟨f0,f1,f2,f3,f4,f5⟩:=hf it (by simp);have W:=Walks.range (prog:=X.prog) (w:=X.w) (I.ok.hd hc) it lo 1 n;refine W.item i s _ _ hg st fun v h' tk hv tH kk=>?_
  obtain⟨t,rfl⟩:=hv;have I1:Inv X pins σ H {s with heap:=h',toks:=tk}:=I.turned (fun b o hb e=>kk b o (by simpa using hb) e) f0 f1 f3 f4 f5;refine⟨_,rfl,qM (s:={s with heap:=h',toks:=tk}) (n:="range_iterator") tH rfl rfl (by decide) ⟨.int (lo+i),H,I1,⟨t,?_⟩,⟨rfl,rfl⟩,tH,fun b hb=>(hf b hb).1⟩⟩;rw[Int.mul_one]
 done:=by
  intro X hP hw hK hc i pins s σ H E I hf st hg;subst hP hw hK;obtain⟨f0,f1,f2,f3,f4,f5⟩:=hf it (by simp);exact wpAny_pyNext_range_end (I.ok.hd hc) st (by have:n<=i:=hg;omega) fun h' eb=>⟨rfl,I.turned (t':=s.toks) (fun b o hb e=>eb b o hb e) f0 f1 f3 f4 f5⟩
 self:=fun _ _ _ _ _ st h=>wpAny_pyIter_rangeiter st h
end L2
namespace L2
open PySem PySem.Spec PyProof.Rows
section
variable {X:Cx}{tg:Expr}
theorem zw{pins:List (Addr×Obj)}{σ:St}{H:Hp}{s:Shared}{R:It->Hp->Prop}{E:Value->Shared->Prop}{lo hi:Int}{t u v:Tok}{tk:Nat}(I:Inv X pins σ H s)(h1:-(2 ^62)<=lo)(h2:lo<2 ^62)(h3:-(2 ^62)<=hi)(h4:hi<2 ^62)
  (q:R (L1 lo (hi - lo).toNat) H):wpAny (model X.prog X.w) X.A (pyIter (.ref s.heap.objs.size)) (LY X pins σ tg R) E {s with heap:=s.heap.push {cls:=.type "range",data:=.fields #[.int lo t,.int hi u,.int 1 v]},toks:=tk}:=by
 refine wpAny_pyIter_range (IsRange.new ..) (small_one h1 h2 h3 h4) ?_
 have I1:Inv X pins σ H {s with heap:=s.heap.push {cls:=.type "range",data:=.fields #[.int lo t,.int hi u,.int 1 v]},toks:=tk}:=I.kept fun b o e=>aQ _ e;refine⟨(s.heap.push {cls:=.type "range",data:=.fields #[.int lo t,.int hi u,.int 1 v]}).objs.size,[(s.heap.push {cls:=.type "range",data:=.fields #[.int lo t,.int hi u,.int 1 v]}).objs.size],_,_,H,rfl,
  I1.kept (t':=tk) fun b o e=>aQ _ e,vA _ lo (hi - lo).toNat,?_,fun b hb=>?_,q⟩
 ·have e1:lo+((0:Nat):Int)*1=lo:=by simp
  have e2:(((hi - lo).toNat:Nat):Int) - ((0:Nat):Int)=Builtin.Range.rangeSize lo hi 1:=by rw[rangeSize_one];split<;>omega
  show IsRangeIter _ _ (lo+((0:Nat):Int)*1) ((((hi - lo).toNat:Nat):Int) - ((0:Nat):Int)) 1;rw[e1,e2];exact bg _ rfl
 ·have e:b=(s.heap.push {cls:=.type "range",data:=.fields #[.int lo t,.int hi u,.int 1 v]}).objs.size:=by simpa using hb
  subst e;exact I1.yn (aB _) (I1.bB.fresh (aB _))
def IC(ta:TA):TI:=fun σ H R=>ta σ H fun vs H1=>∃j:Int,vs=[.int j]/\-(2 ^62)<=j/\j<2 ^62/\R (L1 0 j.toNat) H1
theorem yp{a:Expr}{ta:TA}{p pos:Pos}(hg:Gl X "range")(hm:X.mg "range"=none)(ha:PA X [a] ta)(hs:starEach [a] X.env=[(false,eval a X.env)]:=by rfl):PI X tg (.Call (.Name "range" p) [a] [] pos) (IC ta):=by
 intro pins s σ H R I h;refine Call_ (vy I hg hm boot_range (tM (cn (ha pos pins s σ H _ I h) fun us s1 ⟨vs,H1,I1,r1,q1⟩=>?_) hs rfl));obtain⟨j,e,q1,q2,q⟩:=q1;subst e;cases r1 with
 |cons r rr=>
  cases rr;obtain⟨t,rfl⟩:=r;exact call_range_1 (zw I1 (by omega) (by omega) q1 q2 (by simpa using q))
def MW(wi:TI)(g:TG)(tb:TS):TS:=fun D σ H=>wi σ H fun J H1=>∃W:Nat->Nat->St->Hp->Prop,(∃m,W 0 m σ H1)/\∀i m σ H,W i m σ H->
 (J.stop i H/\D.nx σ H)\/(J.go i H/\∃N:St->Hp->Prop,(∀bL H',N bL H'->∃m',m'<m/\W (i+1) m' bL H')/\∀x H',J.zv i H x H'->g x σ H' fun wY H2=>tb {D with nx:=N,ct:=N,bk:=D.nx} wY H2)
def oO(fp:List Addr)(h:Heap):List (Addr×Obj):=fp.filterMap fun b=>(h.get? b).map fun o=>(b,o)
theorem h_{fp:List Addr}{h:Heap}{b:Addr}{o:Obj}(hb:b∈fp)(e:h.get? b=some o):(b,o)∈oO fp h:=oj.mpr ⟨b,hb,by rw[e];rfl⟩
theorem yq{fp:List Addr}{h:Heap}{p:Addr×Obj}(hp:p∈oO fp h):p.1∈fp/\h.get? p.1=some p.2:=by
 obtain⟨b,hb,e⟩:=oj.mp hp;cases q:h.get? b with
 |none=>rw[q]at e;cases e
 |some o=>
  rw[q]at e;have e':(b,o)=p:=Option.some.inj e;subst e';exact⟨hb,q⟩
theorem Inv.pinned {pins:List (Addr×Obj)}{σ:St}{H:Hp}{s:Shared}{fp:List Addr}(I:Inv X pins σ H s)(hf:∀b∈fp,l9 X pins H b)(ho:∀b∈fp,∃o,s.heap.get? b=some o/\∀v,o.data≠ .cell v):Inv X (pins++oO fp s.heap) σ H s:=
 I.wR fun p hp=>(iV.mp hp).elim (fun z=>I.pin p (dR _ z)) fun z=>by
   obtain⟨hb,e⟩:=yq z;obtain⟨f0,f1,f2,_⟩:=hf p.1 hb;obtain⟨o,e',d⟩:=ho p.1 hb;rw[e]at e';cases e';exact⟨e,f0,f1,f2,d⟩
theorem Inv.lh {pins pl:List (Addr×Obj)}{σ:St}{H:Hp}{s:Shared}(I:Inv X (pins++pl) σ H s):Inv X pins σ H s:=I.wR fun p hp=>I.pin p (dR _ (n_ _ hp))
theorem EL{iter:Expr}{body:List Stmt}{wi:TI}{g:TG}{tb:TS}{pos:Pos}(hp:PassesOwn (model X.prog X.w) X.A X.env X.xe)(hc:X.calm=true)(hi:PI X tg iter wi)(hg:PG X tg g)(hb:jQ X body tb)
  (hs:∀x,foldedSetIterable iter X.env x=pure x:=by intro _;rfl):PS X (.For tg iter body [] pos) (MW wi g tb):=by
 intro pins s σ H D I h;refine wpAny_For (cn (hi pins s σ H _ I h) fun v s1 h1=>cn h1 fun L0 s2 h2=>?_) hs;obtain⟨it,fp,tn,J,H2,e,I2,T,BL,f2,W,⟨m0,w0⟩,turn⟩:=h2;subst e;have vB:∀{H':Hp},(∀b∈fp,H' b=none)->∀b∈fp,l9 X pins H' b:=fun hn b hb=>⟨hn b hb,(f2 b hb).2⟩;refine codeAny_forLoop_any (fun n s'=>∃i bL H',Inv X pins bL H' s'/\tn i s'.heap/\(∀b∈fp,H' b=none)/\W i n bL H') ?_ m0 ⟨0,σ,H2,I2,BL,fun b hb=>(f2 b hb).1,w0⟩
 rintro n s3 ⟨i,EM,H3,I3,Pk,Pl,w3⟩
 rcases turn i n EM H3 w3 with⟨stop,qn⟩|⟨go,N,hN,step⟩
 ·refine iW hp (cn (T.done X rfl rfl rfl hc i pins s3 EM H3 X.xe I3 (vB Pl) Pk stop) fun r s4 ⟨hr,I4⟩=>?_);subst hr;exact wpAny_execs_nil ⟨EM,H3,I4,qn⟩
 ·refine iW hp (cn (T.item X rfl rfl rfl hc i pins s3 EM H3 X.xe I3 (vB Pl) Pk go) fun r s4 ⟨u,hr,h4⟩=>?_);subst hr;refine iW hp (cn h4 fun _ s5 ⟨x,H5,I5,r5,y5,HE,L3⟩=>?_);have Qt:=I5.pinned (vB L3) (T.obj _ _ HE);refine iW hp (cn (hg _ s5 EM H5 x u _ Qt r5 (step x H5 y5)) fun _ s6 ⟨Qu,H6,I6,q6⟩=>?_);refine iW hp (cn (hb _ s6 Qu H6 _ I6 q6) fun f s7 q7=>?_);have again:∀{zx:St} {H7:Hp},Inv X (pins++oO fp s5.heap) zx H7 s7->N zx H7->∃m,m<n/\∃i bL H',Inv X pins bL H' s7/\tn i s7.heap/\(∀b∈fp,H' b=none)/\W i m bL H':=fun{zx H7} I7 n7=>by
   obtain⟨m',hm,w7⟩:=hN zx H7 n7;refine⟨m',hm,i+1,zx,H7,I7.lh,T.keep _ _ _ HE fun b hb o e=>(I7.pin (b,o) (dR _ (dR _ (h_ hb e)))).1,fun b hb=>?_,w7⟩;obtain⟨o,e,d⟩:=T.obj _ _ HE b hb;exact(I7.pin (b,o) (dR _ (dR _ (h_ hb e)))).2.1
  cases f with
  |next=>obtain⟨zx,H7,I7,n7⟩:=q7;exact again I7 n7
  |cont=>obtain⟨zx,H7,I7,n7⟩:=q7;exact again I7 n7
  |brk=>obtain⟨zx,H7,I7,q7⟩:=q7;exact⟨zx,H7,I7.lh,q7⟩
  |ret v=>obtain⟨x7,zx,H7,I7,r7,q7⟩:=q7;exact⟨x7,zx,H7,I7.lh,r7,q7⟩
end
end L2
namespace L2
open PySem PySem.Spec PyProof.Rows
abbrev R2:=V->V->Hp->VK->Prop
def l8(X:Cx)(f:Value->Value->Sem Value)(r:R2):Prop:=
 ∀(pins:List (Addr×Obj)) (s:Shared) (σ:St) (H:Hp) (x y:V) (v u:Value) (Q:VK),Inv X pins σ H s->RelV x v->RelV y u->r x y H Q->
  wpAny (model X.prog X.w) X.A (f v u) (EP X pins σ Q) X.xe s
def MX(X:Cx)(f:Value->Sem Value)(r:V->Hp->VK->Prop):Prop:=
 ∀(pins:List (Addr×Obj)) (s:Shared) (σ:St) (H:Hp) (x:V) (v:Value) (Q:VK),Inv X pins σ H s->RelV x v->r x H Q->
  wpAny (model X.prog X.w) X.A (f v) (EP X pins σ Q) X.xe s
def cV(X:Cx)(f:Value)(r:List V->Hp->VK->Prop):Prop:=
 ∀(pins:List (Addr×Obj)) (s:Shared) (σ:St) (H:Hp) (xs:List V) (us:List Value) (Q:VK),Inv X pins σ H s->Vals xs us->r xs H Q->
  wpAny (model X.prog X.w) X.A (call f us) (EP X pins σ Q) X.xe s
def MY(X:Cx)(r:V->Hp->(Bool->Hp->Prop)->Prop):Prop:=
 ∀(pins:List (Addr×Obj)) (s:Shared) (σ:St) (H:Hp) (x:V) (v:Value) (Q:Bool->Hp->Prop),Inv X pins σ H s->RelV x v->r x H Q->
  wpAny (model X.prog X.w) X.A (truthy v) (TP X pins σ Q) X.xe s
def EN(r:R2)(ta tb:TE):TE:=fun σ H Q=>ta σ H fun x H1=>tb σ H1 fun y H2=>r x y H2 Q
def Qv(r:V->Hp->VK->Prop)(ta:TE):TE:=fun σ H Q=>ta σ H fun x H1=>r x H1 Q
def rI(C:Int->Int->Prop)(g:Int->Int->V):R2:=fun x y H Q=>∃i j,x=.int i/\y=.int j/\C i j/\Q (g i j) H
def EO(g:Int->Int->V):R2:=fun x y H Q=>∃i j,x=.int i/\y=.int j/\Q (g i j) H
def rU(g:Int->V):V->Hp->VK->Prop:=fun x H Q=>∃i,x=.int i/\Q (g i) H
section
variable {X:Cx}{a b c:Expr}{ta tb tc:TE}{pos:Pos}
theorem ER(ha:PE X a ta)(hb:PE X b tb){pins:List (Addr×Obj)}{s:Shared}{σ:St}{H:Hp}{R:V->V->Hp->Prop}(I:Inv X pins σ H s)
  (h:ta σ H fun x H1=>tb σ H1 fun y H2=>R x y H2) {Q:Value->Shared->Prop} {f:Value->Value->Sem Value}
  (hf:∀v u s2 x y H2,Inv X pins σ H2 s2->RelV x v->RelV y u->R x y H2->wpAny (model X.prog X.w) X.A (f v u) Q X.xe s2):
  wpAny (model X.prog X.w) X.A (eval a X.env) (fun v ba=>wpAny (model X.prog X.w) X.A (eval b X.env) (fun u l_=>wpAny (model X.prog X.w) X.A (f v u) Q X.xe l_) X.xe ba) X.xe s:=by
 refine cn (ha pins s σ H _ I h) fun v s1 ⟨x,H1,I1,r1,q1⟩=>?_
 refine cn (hb pins s1 σ H1 _ I1 q1) fun u s2 ⟨y,H2,I2,r2,q2⟩=>?_
 exact hf v u s2 x y H2 I2 r1 r2 q2
theorem ID{op:Operator}{r:R2}(ho:l8 X (binaryOp op) r)(ha:PE X a ta)(hb:PE X b tb):PE X (.BinOp a op b pos) (EN r ta tb):=by
 intro pins s σ H Q I h;exact wpAny_BinOp (ER ha hb I h fun v u s2 x y H2 I2 rx ry q=>ho pins s2 σ H2 x y v u Q I2 rx ry q)
theorem IE{op:UnaryOp}{r:V->Hp->VK->Prop}(ho:MX X (unaryOp op) r)(ha:PE X a ta):PE X (.UnaryOp op a pos) (Qv r ta):=by
 intro pins s σ H Q I h;exact UnaryOp_ (cn (ha pins s σ H _ I h) fun v s1 ⟨x,H1,I1,r1,q1⟩=>ho pins s1 σ H1 x v Q I1 r1 q1)
theorem Pm{f:Value->Value->Sem Value}{C:Int->Int->Prop}{g:Int->Int->Int}
  (rule:∀(i j:Int) (t u:Tok) (s:Shared) (Q:Value->Shared->Prop) (E:Value->Shared->Prop),C i j->Q (.int (g i j) s.toks) {s with toks:=s.toks+1}->wpAny (model X.prog X.w) X.A (f (.int i t) (.int j u)) Q E s):
  l8 X f (rI C fun i j=>.int (g i j)):=by
 intro pins s σ H x y v u Q I rx ry h;obtain⟨i,j,rfl,rfl,hc,q⟩:=h;obtain⟨t,rfl⟩:=rx;obtain⟨t',rfl⟩:=ry;exact rule i j t t' s _ _ hc ⟨.int (g i j),H,I.tok _,⟨_,rfl⟩,q⟩
theorem IF{f:Value->Value->Sem Value}{g:Int->Int->Int}
  (rule:∀(i j:Int) (t u:Tok) (s:Shared) (Q:Value->Shared->Prop) (E:Value->Shared->Prop),Q (.int (g i j) s.toks) {s with toks:=s.toks+1}->wpAny (model X.prog X.w) X.A (f (.int i t) (.int j u)) Q E s):
  l8 X f (EO fun i j=>.int (g i j)):=by
 intro pins s σ H x y v u Q I rx ry h;obtain⟨i,j,rfl,rfl,q⟩:=h;obtain⟨t,rfl⟩:=rx;obtain⟨t',rfl⟩:=ry;exact rule i j t t' s _ _ ⟨.int (g i j),H,I.tok _,⟨_,rfl⟩,q⟩
theorem ES{f:Value->Value->Sem Value}{g:Int->Int->Bool}
  (rule:∀(i j:Int) (t u:Tok) (s:Shared) (Q:Value->Shared->Prop) (E:Value->Shared->Prop),Q (.bool (g i j)) s->wpAny (model X.prog X.w) X.A (f (.int i t) (.int j u)) Q E s):
  l8 X f (EO fun i j=>.bl (g i j)):=by
 intro pins s σ H x y v u Q I rx ry h;obtain⟨i,j,rfl,rfl,q⟩:=h;obtain⟨t,rfl⟩:=rx;obtain⟨t',rfl⟩:=ry;exact rule i j t t' s _ _ ⟨.bl (g i j),H,I,rfl,q⟩
def zy(i j:Int):Prop:=(-(2 ^64)<i/\i<2 ^64)\/(-(2 ^64)<j/\j<2 ^64)
theorem zy.ok {i j:Int}(h:zy i j):IntMulOk i j:=by
 rcases h with⟨h1,h2⟩|⟨h1,h2⟩
 ·exact .of_left (intBits_le_64 h1 h2)
 ·exact .of_right (intBits_le_64 h1 h2)
theorem ET:l8 X (binaryOp .Add) (EO fun i j=>.int (i+j)):=IF fun _ _ _ _ _ _ _ q=>add_int q
theorem EU:l8 X (binaryOp .Sub) (EO fun i j=>.int (i - j)):=IF fun _ _ _ _ _ _ _ q=>sub_int q
theorem EV:l8 X (binaryOp .Mult) (rI zy fun i j=>.int (i*j)):=Pm fun _ _ _ _ _ _ _ hc q=>mul_int q hc.ok
theorem EW:l8 X (binaryOp .Mod) (rI (fun _ j=>0<j) fun i j=>.int (i % j)):=Pm fun i j _ _ _ _ _ hc q=>by
 have h1:(0:Int)<j:=hc;exact mod_int' (by omega) (by rw[Int.fmod_eq_emod_of_nonneg i (by omega)];exact q)
theorem Qw{f:Value->Sem Value}{g:Int->Int}
  (rule:∀(i:Int) (t:Tok) (s:Shared) (Q:Value->Shared->Prop) (E:Value->Shared->Prop),Q (.int (g i) s.toks) {s with toks:=s.toks+1}->wpAny (model X.prog X.w) X.A (f (.int i t)) Q E s):
  MX X f (rU fun i=>.int (g i)):=by
 intro pins s σ H x v Q I rx h;obtain⟨i,rfl,q⟩:=h;obtain⟨t,rfl⟩:=rx;exact rule i t s _ _ ⟨.int (g i),H,I.tok _,⟨_,rfl⟩,q⟩
theorem EY:MX X (unaryOp .USub) (rU fun i=>.int (-i)):=Qw fun _ _ _ _ _ q=>neg_int q
end
section
variable {X:Cx}{a b c:Expr}{ta tb tc:TE}{pos:Pos}
theorem j5{pins:List (Addr×Obj)}{σ:St}{H:Hp}{s:Shared}{Q:VK}{k k':Bool}(I:Inv X pins σ H s)(q:Q (.bl k) H)(e:k=k'):EP X pins σ Q (.bool k') s:=by
 subst e;exact⟨.bl k,H,I,rfl,q⟩
theorem IG:l8 X (compareOp .Lt) (EO fun i j=>.bl (decide (i<j))):=ES fun _ _ _ _ _ _ _ q=>lt_int q
theorem IH:l8 X (compareOp .Gt) (EO fun i j=>.bl (decide (j<i))):=ES fun _ _ _ _ _ _ _ q=>gt_int q
theorem II:l8 X (compareOp .GtE) (EO fun i j=>.bl (decide (j<=i))):=ES fun _ _ _ _ _ _ _ q=>ge_int q
theorem yr:l8 X (compareOp .Lt) (fun x y H Q=>∃i j,x=.str i/\y=.str j/\Q (.bl (decide (i.cps.toList<j.cps.toList))) H):=by
 intro pins s σ H x y v u Q I rx ry h;obtain⟨i,j,rfl,rfl,q⟩:=h;obtain⟨t,rfl⟩:=rx;obtain⟨t',rfl⟩:=ry;exact lt_str (j5 I q rfl)
theorem yt:l8 X (compareOp .In) (fun x y H Q=>∃i j,x=.str i/\y=.str j/\Q (.bl (!(Builtin.Str.occurrences j i 0 j.length 1).isEmpty)) H):=by
 intro pins s σ H x y v u Q I rx ry h;obtain⟨i,j,rfl,rfl,q⟩:=h;obtain⟨t,rfl⟩:=rx;obtain⟨t',rfl⟩:=ry;exact in_str (j5 I q rfl)
theorem EZ:l8 X (compareOp .Is) (fun x y H Q=>y=.a_/\Q (.bl (decide (x=.a_))) H):=by
 intro pins s σ H x y v u Q I rx ry h;obtain⟨rfl,q⟩:=h;cases ry;refine is_none_gen (j5 I q ?_);cases x<;>first
  |(cases rx;rfl)
  |(obtain⟨t,rfl⟩:=rx;rfl)
theorem BM:l8 X (compareOp .IsNot) (fun x y H Q=>y=.a_/\Q (.bl (!decide (x=.a_))) H):=by
 intro pins s σ H x y v u Q I rx ry h;obtain⟨rfl,q⟩:=h;cases ry;refine isnot_none_gen (j5 I q ?_);cases x<;>first
  |(cases rx;rfl)
  |(obtain⟨t,rfl⟩:=rx;rfl)
theorem se:l8 X (compareOp .NotIn) (fun x y H Q=>∃i j,x=.str i/\y=.str j/\Q (.bl (!(!(Builtin.Str.occurrences j i 0 j.length 1).isEmpty))) H):=by
 intro pins s σ H x y v u Q I rx ry h;obtain⟨i,j,rfl,rfl,q⟩:=h;obtain⟨t,rfl⟩:=rx;obtain⟨t',rfl⟩:=ry;exact notIn_str (j5 I q rfl)
theorem sf(b:Expr){op:CmpOp}(h:op≠ .In:=by decide) (h2:op≠ .NotIn:=by decide):behindInMarks op b=false:=by
 have e1:(op==CmpOp.In)=false:=by cases op<;>first|rfl|exact absurd rfl h
 have e2:(op==CmpOp.NotIn)=false:=by cases op<;>first|rfl|exact absurd rfl h2
 cases b<;>simp[behindInMarks,e1,e2]
theorem BN{op:CmpOp}{r:R2}(ho:l8 X (compareOp op) r)(ha:PE X a ta)(hb:PE X b tb)(hm:behindInMarks op b=false):PE X (.Compare a [op] [b] pos) (EN r ta tb):=by
 intro pins s σ H Q I h;exact wpAny_Compare1 (ER ha hb I h fun v u s2 x y H2 I2 rx ry q=>ho pins s2 σ H2 x y v u Q I2 rx ry q) hm
def IJ(t:TE):TT:=fun σ H Q=>t σ H fun x H'=>∃k,x=.bl k/\Q k H'
theorem BO{op:CmpOp}{r:R2}(ho:l8 X (compareOp op) r)(ha:PE X a ta)(hb:PE X b tb)(hm:behindInMarks op b=false):PT X (.Compare a [op] [b] pos) (IJ (EN r ta tb)):=by
 intro pins s σ H Q I h;refine wpAny_isTrue_Compare1 (cn (ha pins s σ H _ I h) fun v s1 ⟨x,H1,I1,r1,q1⟩=>cn (hb pins s1 σ H1 _ I1 q1) fun u s2 ⟨y,H2,I2,r2,q2⟩=>
  cn (ho pins s2 σ H2 x y v u _ I2 r1 r2 q2) fun c s3 ⟨z,H3,I3,r3,k,e,q3⟩=>?_) hm
 subst e;cases r3;exact oK ⟨H3,I3,q3⟩
def BP(K:PySem.W.Frag)(x:V)(H:Hp)(k:Bool):Prop:=
 match x with
 |.a_=>k=false
 |.bl b=>k=b
 |.int i=>k=(i !=0)
 |.str y=>y.length<=sizeLine/\k=((y.length:Int) !=0)
 |.DI y=>y.size<=sizeLine/\k=((y.size:Int) !=0)
 |.ref p=>(∃xs,iF K H p xs/\k=!xs.isEmpty)\/(∃xs,i6 K H p xs/\k=!xs.isEmpty)\/∃ah,Rd H p (.dK ah)/\k=!ah.isEmpty
 |_=>False
theorem vC{κ:Type}{ah:List (κ×V)}{vs:List (κ×Value)}(r:KV ah vs):(!vs.isEmpty)=!ah.isEmpty:=by
 cases r<;>rfl
theorem oP{xs:List V}{aV:List Value}(r:Vals xs aV):(!aV.toArray.isEmpty)=!xs.isEmpty:=by
 cases r<;>simp
theorem oQ:(sizeLine:Nat)<2 ^63:=by rw[cX];decide
theorem E1:MY X (fun x H Q=>∃k,BP X.K x H k/\Q k H):=by
 intro pins s σ H x v Q I rx h;obtain⟨k,e,q⟩:=h;have hl:=oQ;have hs:sizeLine=16777216:=cX;cases x with
 |a_=>
  cases rx;have e':k=false:=e;subst e';exact truthy_none ⟨H,I,q⟩
 |bl b=>
  cases rx;have e':k=b:=e;subst e';exact oK ⟨H,I,q⟩
 |int i=>
  obtain⟨t,rfl⟩:=rx;have e':k=(i !=0):=e;subst e';exact PySem.P.truthy_int ⟨H,I,q⟩
 |str y=>
  obtain⟨t,rfl⟩:=rx;obtain⟨hy,e'⟩:y.length<=sizeLine/\k=((y.length:Int) !=0):=e;subst e';exact PySem.P.truthy_str (by omega) ⟨H,I.tok _,q⟩
 |DI y=>
  obtain⟨t,rfl⟩:=rx;obtain⟨hy,e'⟩:y.size<=sizeLine/\k=((y.size:Int) !=0):=e;subst e';exact PySem.W.truthy_bytes (by omega) ⟨H,I.tok _,q⟩
 |ref p=>
  cases rx;have e':(∃xs,iF X.K H p xs/\k=!xs.isEmpty)\/(∃xs,i6 X.K H p xs/\k=!xs.isEmpty)\/∃ah,Rd H p (.dK ah)/\k=!ah.isEmpty:=e;rcases e' with⟨xs,hx,e'⟩|⟨xs,hx,e'⟩|⟨ah,hx,e'⟩
  ·subst e';obtain⟨aV,r,pl,hz⟩:=I.list hx;have hlen:=r.length;exact wpAny_truthy_list pl.isList (by simp only[a7];omega) ⟨H,I.tok _,by rw[oP r];exact q⟩
  ·subst e';obtain⟨aV,r,pl,hz⟩:=I.tuple hx;have hlen:=r.length;exact truthy_tuple pl (by simp only[a7];omega) ⟨H,I.tok _,by rw[oP r];exact q⟩
  ·subst e';obtain⟨hz,hS,vs,r,m⟩:ah.length<=sizeLine/\(p==sysModules)=false/\∃vs,KV ah vs/\s.heap.DictOf (aO X.prog X.w) p vs:=hx.ok I.bB;have hlen:ah.length=vs.length:=Paired.length r;exact wpAny_truthy_dict hS m (by omega) ⟨H,I.tok _,by rw[vC r];exact q⟩
 |_=>exact(show False from e).elim
theorem zz(ha:PE X a ta)(he:∀whole,isTrue a X.env whole=(do let v<-whole;standAt a.pos;holding [v] (truthy v))):
  PT X a (fun σ H Q=>ta σ H fun x H'=>∃k,BP X.K x H' k/\Q k H'):=by
 intro pins s σ H Q I h;exact isTrue_plain (cn (ha pins s σ H _ I h) fun v s1 ⟨x,H1,I1,r1,q1⟩=>E1 pins s1 σ H1 x v Q I1 r1 q1) (he _)
theorem vD:l8 X (binaryOp .Add) (fun x y H Q=>∃i j,x=.str i/\y=.str j/\i.length+j.length<=sizeLine/\Q (.str (i++j)) H):=by
 intro pins s σ H x y v u Q I rx ry h;obtain⟨i,j,rfl,rfl,hz,q⟩:=h;obtain⟨t,rfl⟩:=rx;obtain⟨t',rfl⟩:=ry;exact add_str (fun t' tk=>⟨.str (i++j),H,I.tok _,⟨_,rfl⟩,q⟩) hz
theorem vals1{x:V}{us:List Value}(r:Vals [x] us):∃u,us=[u]/\RelV x u:=by
 cases r with
 |cons r1 r2=>cases r2;exact⟨_,rfl,r1⟩
theorem vals2{x y:V}{us:List Value}(r:Vals [x,y] us):∃u w',us=[u,w']/\RelV x u/\RelV y w':=by
 cases r with
 |cons r1 r2=>
  cases r2 with
  |cons r3 r4=>cases r4;exact⟨_,_,rfl,r1,r3⟩
theorem yu(hc:X.calm=true):cV X (.builtin "max") (fun xs H Q=>∃i j,xs=[.int i,.int j]/\Q (.int (if j>i then j else i)) H):=by
 intro pins s σ H xs us Q I r h;obtain⟨i,j,rfl,q⟩:=h;obtain⟨u,w',rfl,⟨t,rfl⟩,⟨t',rfl⟩⟩:=vals2 r;refine max_two_ints (I.ok.hd hc) fun h' tk k=>⟨_,H,I.kept k,?_,q⟩;by_cases hj:j>i
 ·rw[ae hj,ae hj];exact⟨_,rfl⟩
 ·rw[ai hj,ai hj];exact⟨_,rfl⟩
theorem sg:cV X (.type "str") (fun xs H Q=>∃i,xs=[.int i]/\i.natAbs.log2<1920/\Q (.str (toString i)) H):=by
 intro pins s σ H xs us Q I r h;obtain⟨i,rfl,hz,q⟩:=h;obtain⟨u,rfl,t,rfl⟩:=vals1 r;exact PySem.P.str_of_int hz ⟨.str _,H,I.tok _,⟨_,rfl⟩,q⟩
def MZ(K:PySem.W.Frag)(x:V)(H:Hp)(n:Nat):Prop:=
 match x with
 |.str y=>y.length<=sizeLine/\n=y.length
 |.DI y=>y.size<=sizeLine/\n=y.size
 |.ref p=>(∃xs,iF K H p xs/\n=xs.length)\/∃xs,i6 K H p xs/\n=xs.length
 |_=>False
theorem lj:cV X (.builtin "len") (fun xs H Q=>∃x n,xs=[x]/\MZ X.K x H n/\Q (.int n) H):=by
 intro pins s σ H xs us Q I r h;obtain⟨x,n,rfl,e,q⟩:=h;obtain⟨u,rfl,rx⟩:=vals1 r;have hl:=oQ;have hs:sizeLine=16777216:=cX;cases x with
 |str y=>
  obtain⟨t,rfl⟩:=rx;obtain⟨hy,e'⟩:y.length<=sizeLine/\n=y.length:=e;subst e';exact len_str (by omega) ⟨.int _,H,I.tok _,⟨_,rfl⟩,q⟩
 |DI y=>
  obtain⟨t,rfl⟩:=rx;obtain⟨hy,e'⟩:y.size<=sizeLine/\n=y.size:=e;subst e';exact PySem.W.len_bytes (by omega) ⟨.int _,H,I.tok _,⟨_,rfl⟩,q⟩
 |ref p=>
  cases rx;have e':(∃xs,iF X.K H p xs/\n=xs.length)\/∃xs,i6 X.K H p xs/\n=xs.length:=e;rcases e' with⟨xs,hx,e'⟩|⟨xs,hx,e'⟩
  ·subst e';obtain⟨aV,r',pl,hz⟩:=I.list hx;have hlen:=r'.length;exact Calls.call_len_list pl.isList (by simp only[a7];omega) ⟨.int xs.length,H,I.tok _,⟨_,by simp only[a7];rw[hlen]⟩,q⟩
  ·subst e';obtain⟨aV,r',pl,hz⟩:=I.tuple hx;have hlen:=r'.length;exact len_tuple pl (by simp only[a7];omega) ⟨.int xs.length,H,I.tok _,⟨_,by simp only[a7];rw[hlen]⟩,q⟩
 |_=>exact(show False from e).elim
end
end L2
namespace L2
open PySem PySem.Spec PyProof.Rows
structure vE(h:Heap)(x dx C:Addr)(mA:Str->Option Value):Prop where
 obj:h.get? x=some (PySem.W.instObj C dx)
 ns:h.Ns1 dx mA
 ne:dx≠x
theorem yv{h:Heap}{dx:Addr}{mA:Str->Option Value}(n:h.Ns1 dx mA):∃od,h.get? dx=some od/\∀name,PySem.W.lookIn name od=some (mA name):=by
 obtain⟨o,es,ep,ho,hd,hk,_,hm⟩:=n;refine⟨o,ho,fun name=>?_⟩;have e:=hm name;unfold nsFind findBy at e;rw[<-Array.find?_toList]at e;unfold PySem.W.lookIn;rw[hd];dsimp only;split
 ·rename_i y q;rw[q]at e;exact bE some e
 ·rename_i q;rw[q]at e;have a:es.toList.any (·.refKey)=false:=by
   rw[List.any_eq_false];intro y hy;obtain⟨z,t,zA⟩:=hk y (Array.mem_toList_iff.mp hy);simp[DictEntry.refKey,zA]
  have a':¬es.toList.any (·.refKey)=true:=by rw[a];exact dU
  rw[ai a'];exact bE some e
theorem vE.look {h:Heap}{x dx C:Addr}{mA:Str->Option Value}(I:vE h x dx C mA):∃od,PySem.W.InstAt h x (PySem.W.instObj C dx) C (some od)/\∀name,PySem.W.lookIn name od=some (mA name):=
 let⟨od,ho,hl⟩:=yv I.ns
 ⟨od,⟨I.obj,rfl,rfl,ho⟩,hl⟩
section
variable {prog:Program}{w:World}{A:Around}{E:Value->Shared->Prop}{s:Shared}{K:PySem.W.Frag}{x dx C f:Addr}{mA:Str->Option Value}{name:Str}{v:Value}
theorem get_map{expr:Bool}{Q:Value->Shared->Prop}(X:K.In s.heap)(I:vE s.heap x dx C mA)(hg:PySem.W.plainGet K C name=true)(hh:PySem.W.hasDictIn K C=true)
  (ha:PySem.W.findIn K (.ref C) name=some none) (hv:mA name=some v) (E2:PySem.W.handedIn v=true) (h:Q v {s with toks:=s.toks+1}):
  wpAny (model prog w) A (getAttr (.ref x) name expr) Q E s:=by
 obtain⟨od,J,hl⟩:=I.look;exact PySem.W.get_value X J (oa hg).1 (PySem.W.findObj_own hh ha rfl (by rw[hl,hv])) E2 h
theorem zB{pl:Sem Bool}{Q:Value×List Value->Shared->Prop}(X:K.In s.heap)(I:vE s.heap x dx C mA)(hg:PySem.W.plainGet K C name=true)
  (hf:PySem.W.findIn K (.ref C) name=some (some (.ref f))) (ht:PySem.W.isFn K (.ref f)=true) (hv:mA name=none) (h:Q (.ref f,[.ref x]) s):
  wpAny (model prog w) A (getMethod (.ref x) name pl) Q E s:=by
 obtain⟨od,J,hl⟩:=I.look;exact PySem.W.method_fn X J (oa hg).1 (oa hg).2 hf (eZ.mp ht) (by show(PySem.W.lookIn name od).map (·.isSome)=some false;rw[hl,hv];rfl) h
theorem BQ{ns:List Str}{Q:Unit->Shared->Prop}(X:K.In s.heap)(I:vE s.heap x dx C mA)
  (hs:PySem.W.findIn K (.ref C) "__setattr__"=some (some (.builtin "object.__setattr__"))) (hp:PySem.W.plainOver K C=true) (ht:PySem.W.takerIn K C name=some none) (hh:PySem.W.hasDictIn K C=true)
  (hw:PySem.Within mA ns) (hsz:ns.length<=sizeLine)
  (h:∀h',vE h' x dx C (fun y=>if y=name then some v else mA y)->Heap.SameBut dx s.heap h'->Q () {s with heap:=h',toks:=s.toks+2}):
  wpAny (model prog w) A (setAttr (.ref x) name v) Q E s:=by
 obtain⟨od,J,hl⟩:=I.look;refine PySem.W.set_plain X J hs (PySem.W.osa_open (s:={s with toks:=s.toks+1}) (r:=none) X J hp ht fun b=>?_);obtain⟨cd,hc,Im⟩:=PySem.W.any_some hh;have hx:s.heap.get? x=some ⟨.ref C,some dx,.plain,#[]⟩:=I.obj;refine ab (ak (ab (ab (wpAny_loadPart hx (ab (PySem.W.Looks.here (s:={s with toks:=s.toks+1}) (PySem.W.looks_clsIn X hc) ?_))))));rw[Im];refine ak (a:=some dx) (ab (ak (ab ?_)));refine wpAny_nsSet1 (s:={s with toks:=s.toks+1}) I.ns fun h' HF HG=>?_
 obtain⟨oD,Sx,Sy,Qx,Qy,Qz⟩:=HF.count (PySem.Within.cons name v hw);refine ab (wpAny_lookBehind Qx (by rw[Qy];exact pastItsLine_dict (a6 Qz (by rw[a5];omega))) ?_);exact ak (h _ ⟨(HG.2 _ (bt I.ne)).trans I.obj,HF,I.ne⟩ HG)
theorem zC{R:Result->Shared->Prop}{vs:List Value}{kw:List (Str×Value)}(X:K.In s.heap)(hm:PySem.W.makesIn K C=true)
  (hi:PySem.W.findIn K (.ref C) "__init__"=some (some (.ref f))) (hf:PySem.W.typeIn K (.ref f)=some (.type "function"))
  (h:codeAny (model prog w) (A.under (.builtin "type.__call__" ⟨.ref C::vs,kw⟩)) (.call (.ref f) ⟨.ref (s.heap.objs.size+1)::vs,kw⟩) (PySem.W.InitBack (s.heap.objs.size+1) R)
   {s with heap:=(s.heap.push PySem.W.emptyDict).push (PySem.W.instObj C s.heap.objs.size)}):
  codeAny (model prog w) A (.call (.ref C) ⟨vs,kw⟩) R s:=by
 obtain⟨hh,g,d,t,os⟩:=s;exact PySem.W.make_core (PySem.W.makes_of X hm) (PySem.W.looks_findIn X hi) (fun self=>PySem.W.bind_fn X self hf) (.inl rfl) h
end
def gs(f:Str)(v:V):List (Str×V)->List (Str×V)
 |[]=>[(f,v)]
 |(g,x)::r=>if g=f then(g,v)::r else(g,x)::gs f v r
theorem mF(f g:Str)(v:V):∀fs:List (Str×V),(gs f v fs).lookup g=if g=f then some v else fs.lookup g
 |[]=>by
  show List.lookup g [(f,v)]=_;by_cases h:g=f
  ·have hb:(g==f)=true:=eZ.mpr h;simp only[List.lookup,hb,ae h]
  ·have hb:(g==f)=false:=gV.mpr h;simp only[List.lookup,hb,ai h]
 |(k,x)::r=>by
  have ih:=mF f g v r;rw[show gs f v ((k,x)::r)=(if k=f then(k,v)::r else(k,x)::gs f v r)from rfl];by_cases hk:k=f
  ·rw[ae hk];by_cases h:g=k
   ·have hb:(g==k)=true:=eZ.mpr h;simp only[List.lookup,hb,ae (h.trans hk)]
   ·have hb:(g==k)=false:=gV.mpr h;simp only[List.lookup,hb,ai (fun e:g=f=>h (e.trans hk.symm))]
  ·rw[ai hk];by_cases h:g=k
   ·have hb:(g==k)=true:=eZ.mpr h;simp only[List.lookup,hb,ai (fun e:g=f=>hk (h.symm.trans e))]
   ·have hb:(g==k)=false:=gV.mpr h;simp only[List.lookup,hb];exact ih
theorem md(f:Str)(v:V):∀fs:List (Str×V),f∈(gs f v fs).map (·.1)/\∀g,g∈fs.map (·.1)->g∈(gs f v fs).map (·.1)
 |[]=>⟨by simp[gs],fun g h=>by simp at h⟩
 |(k,x)::r=>by
  obtain⟨i1,i2⟩:=md f v r;rw[show gs f v ((k,x)::r)=(if k=f then(k,v)::r else(k,x)::gs f v r)from rfl];by_cases hk:k=f
  ·rw[ae hk];subst hk;exact⟨by simp,fun g h=>by simpa using h⟩
  ·rw[ai hk];refine⟨?_,fun g h=>?_⟩
   ·rw[aK];exact bC _ i1
   ·rw[aK]at h⊢;rcases aY.mp h with e|e
    ·exact aY.mpr (.inl e)
    ·exact bC _ (i2 g e)
theorem mG(f:Str)(v:V):∀fs:List (Str×V),(gs f v fs).length<=fs.length+1
 |[]=>by simp[gs]
 |(k,x)::r=>by
  have ih:=mG f v r;rw[show gs f v ((k,x)::r)=(if k=f then(k,v)::r else(k,x)::gs f v r)from rfl];by_cases hk:k=f
  ·rw[ae hk,a5,a5];omega
  ·rw[ai hk,a5,a5];omega
theorem iQ.some_of {v:V}{o:Option Value}(r:iQ (some v) o):∃u,o=some u/\RelV v u:=by
 cases o with
 |none=>exact(show False from r).elim
 |some u=>exact⟨u,rfl,r⟩
theorem iQ.none_of {o:Option Value}(r:iQ none o):o=none:=by
 cases o with
 |none=>rfl
 |some u=>exact(show False from r).elim
theorem yw{v:V}{u:Value}(r:RelV v u):PySem.W.handedIn u=true:=by
 cases v with
 |a_=>cases(show u=Value.none from r);rfl
 |bl b=>cases(show u=Value.bool b from r);rfl
 |int i=>obtain⟨t,e⟩:=(show∃t,u=Value.int i t from r);cases e;rfl
 |str x=>obtain⟨t,e⟩:=(show∃t,u=Value.str x t from r);cases e;rfl
 |DI b=>obtain⟨t,e⟩:=(show∃t,u=Value.bytes b t from r);cases e;rfl
 |Hz b=>obtain⟨t,e⟩:=(show∃t,u=Value.float b t from r);cases e;rfl
 |ref a=>cases(show u=Value.ref a from r);rfl
 |ty n=>cases(show u=Value.type n from r);rfl
section
variable {P:Program}{w:World}{H H':Hp}{h h':Heap}{a C dx:Addr}{fs Qp:List (Str×V)}
theorem sj(bB:j4 P w H h)(e:H a=some (.ins C dx fs)):∃mA,vE h a dx C mA/\(∀f,iQ (fs.lookup f) (mA f))/\PySem.Within mA (fs.map (·.1))/\fs.length<=1000/\H dx=some (.own a):=by
 obtain⟨d,z,ne,ob,mA,n,r,q⟩:=(show bI P w H h a (.ins C dx fs)from bB a _ e);exact⟨mA,⟨ob,n,ne⟩,r,q,z,d⟩
end
structure yx(K:PySem.W.Frag)(C:Addr):Prop where
 pg:PySem.W.plainGet K C Str.empty=true
 hd:PySem.W.hasDictIn K C=true
 po:PySem.W.plainOver K C=true
 sa:PySem.W.findIn K (.ref C) "__setattr__"=some (some (.builtin "object.__setattr__"))
theorem yx.get {K:PySem.W.Frag}{C:Addr}(c:yx K C)(f:Str):PySem.W.plainGet K C f=true:=c.pg
def j6(K:PySem.W.Frag)(C:Addr)(f:Str):Prop:=PySem.W.findIn K (.ref C) f=some none
theorem j6.IK {K:PySem.W.Frag}{C:Addr}{f:Str}(n:j6 K C f):PySem.W.takerIn K C f=some none:=by
 unfold PySem.W.takerIn;rw[show PySem.W.findIn K (.ref C) f=some none from n]
 rfl
structure Meth(K:PySem.W.Frag)(C:Addr)(m:Str)(f:Addr):Prop where
 at_:PySem.W.findIn K (.ref C) m=some (some (.ref f))
 fn:PySem.W.isFn K (.ref f)=true
 kp:PySem.W.keepIn K (.ref f)=true
section
variable {X:Cx}{pins:List (Addr×Obj)}{σ:St}{H:Hp}{s:Shared}{a C dx:Addr}{fs:List (Str×V)}{f:Str}{v:V}{A:Around}{E:Value->Shared->Prop}
theorem vF{b:Bool}{Q:Value->Shared->Prop}(I:Inv X pins σ H s)(e:H a=some (.ins C dx fs))(c:yx X.K C)(n:j6 X.K C f)(l:fs.lookup f=some v)
  (h:∀u s',Inv X pins σ H s'->RelV v u->Q u s'):wpAny (model X.prog X.w) A (getAttr (.ref a) f b) Q E s:=by
 obtain⟨mA,O,r,_,_,_⟩:=sj I.bB e;obtain⟨u,hu,ru⟩:=iQ.some_of (v:=v) (o:=mA f) (by rw[<-l];exact r f);exact get_map I.r_ O (c.get f) c.hd n hu (yw ru) (h u _ (I.tok _) ru)
theorem oR{m:Str}{g:Addr}{pl:Sem Bool}{Q:Value×List Value->Shared->Prop}(I:Inv X pins σ H s)(e:H a=some (.ins C dx fs))(c:yx X.K C)(k:Meth X.K C m g)(l:fs.lookup m=none)
  (h:Q (.ref g,[.ref a]) s):wpAny (model X.prog X.w) A (getMethod (.ref a) m pl) Q E s:=by
 obtain⟨mA,O,r,_,_,_⟩:=sj I.bB e;have hn:mA m=none:=iQ.none_of (by rw[<-l];exact r m);exact zB I.r_ O (c.get m) k.at_ k.fn hn h
theorem vG{y:V}{u:Value}{Q:Unit->Shared->Prop}(I:Inv X pins σ H s)(e:H a=some (.ins C dx fs))(c:yx X.K C)(n:j6 X.K C f)(hl:fs.length<1000)(ry:RelV y u)
  (h:∀s',Inv X pins σ (upd H a (.ins C dx (gs f y fs))) s'->Q () s'):wpAny (model X.prog X.w) A (setAttr (.ref a) f u) Q E s:=by
 obtain⟨mA,O,r,wi,_,ho⟩:=sj I.bB e;have hz:(fs.map (·.1)).length<=sizeLine:=by rw[aE,cX];omega
 refine BQ I.r_ O c.sa c.po n.IK c.hd wi hz fun h' O' sb=>h _ ?_
 have hd:∃o,h'.get? dx=some o:=let⟨o,_,_,e',_⟩:=O'.ns;⟨o,e'⟩
 refine I.write (x:=a) (e:=dx) (by rw[e];exact True.intro) (.inr ho) (fun b q hb z=>(sb.2 b hb).trans z) hd ?_
 refine⟨by rw[aA O.ne];exact ho,?_,O.ne,O'.obj,_,O'.ns,fun g=>?_,fun g hg=>?_⟩
 ·have:=mG f y fs;omega
 ·show iQ ((gs f y fs).lookup g) (if g=f then some u else mA g);rw[mF];by_cases q:g=f
  ·rw[ae q,ae q];exact ry
  ·rw[ai q,ai q];exact r g
 ·by_cases q:g=f
  ·rw[q];exact(md f y fs).1
  ·refine(md f y fs).2 g (wi g fun z=>hg ?_);show(if g=f then some u else mA g)=none;rw[ai q];exact z
theorem Inv.made (I:Inv X pins σ H s):Inv X pins σ (upd (upd H s.heap.objs.size (.own (s.heap.objs.size+1))) (s.heap.objs.size+1) (.ins C s.heap.objs.size []))
  {s with heap:=(s.heap.push PySem.W.emptyDict).push (PySem.W.instObj C s.heap.objs.size)}:=by
 have e1:(s.heap.push PySem.W.emptyDict).get? s.heap.objs.size=some PySem.W.emptyDict:=bg s.heap rfl;have e2:((s.heap.push PySem.W.emptyDict).push (PySem.W.instObj C s.heap.objs.size)).get? (s.heap.objs.size+1)=some (PySem.W.instObj C s.heap.objs.size):=by
  have:=bg (s.heap.push PySem.W.emptyDict) (o:=PySem.W.instObj C s.heap.objs.size) rfl;rwa[hU]at this
 have e3:(s.heap.push PySem.W.emptyDict).Ns s.heap.objs.size (fun _=>none):=⟨PySem.W.emptyDict,#[],_,e1,rfl,(fun e he=>absurd he (by simp)),fun _=>rfl⟩;have I1:=I.laid (a:=s.heap.objs.size) (o:=.own (s.heap.objs.size+1)) (h':=s.heap.push PySem.W.emptyDict) (t':=s.toks) (fun b u q=>aQ _ q) (aB _) ⟨_,e1⟩;refine I1.laid (a:=s.heap.objs.size+1) (o:=.ins C s.heap.objs.size []) (t':=s.toks) (fun b u q=>aQ _ q) (Nat.le_of_eq (hU _ _)) ?_
 have ne:s.heap.objs.size≠s.heap.objs.size+1:=bc (kJ _);refine⟨by rw[aA ne,aP],bZ _,ne,e2,fun _=>none,(Heap.Ns1.of_empty e3).at fun o q=>aQ _ q,fun _=>True.intro,fun y hy=>absurd rfl hy⟩
theorem BR{prog:Program}{w:World}{env:Env}{e:Expr}{f:Str}{pos:Pos}{s:Shared}{Q:Value->Shared->Prop}(hb:attributeBase e f env (eval e env)=eval e env)
  (h:wpAny (model prog w) A (eval e env) (fun o ba=>wpAny (model prog w) A (getAttr o f true) Q E ba) E s):wpAny (model prog w) A (eval (.Attribute e f pos) env) Q E s:=
 Attribute_any_ h (by rw[arm_eval_Attribute,hb])
end
def M0(K:PySem.W.Frag)(ta:TE)(f:Str):TE:=fun σ H Q=>ta σ H fun x H1=>∃a C dx fs v,x=.ref a/\H1 a=some (.ins C dx fs)/\yx K C/\j6 K C f/\fs.lookup f=some v/\Q v H1
def M1(K:PySem.W.Frag)(ta tv:TE)(f:Str):TS:=fun D σ H=>tv σ H fun y H1=>ta σ H1 fun x H2=>∃a C dx fs,x=.ref a/\H2 a=some (.ins C dx fs)/\yx K C/\j6 K C f/\fs.length<1000/\
 D.nx σ (upd H2 a (.ins C dx (gs f y fs)))
section
variable {X:Cx}{o e value:Expr}{f:Str}{pos pos' qv:Pos}{ta tv:TE}
theorem zD(he:PE X e ta)(hb:attributeBase e f X.env (eval e X.env)=eval e X.env):PE X (.Attribute e f pos) (M0 X.K ta f):=by
 intro pins s σ H Q I h;refine BR hb (cn (he pins s σ H _ I h) fun u s1 ⟨x,H1,I1,rx,a,C,dx,fs,v,ex,ea,c,n,l,q⟩=>?_);subst ex;obtain rfl:u=Value.ref a:=rx;exact vF I1 ea c n l fun u' s2 I2 ru=>⟨v,H1,I2,ru,q⟩
theorem E3(ha:PE X o ta)(hv:PE X value tv)(hs:swapsWith value (some (.Attribute o f pos')) pos.line X.env=pure false):PS X (.Assign [.Attribute o f pos'] value pos) (M1 X.K ta tv f):=by
 intro pins s σ H D I h;refine plainObj_wpAny_Assign_Attribute (cn (hv pins s σ H _ I h) fun u s1 ⟨y,H1,I1,ry,q⟩=>cn (ha pins s1 σ H1 _ I1 q) fun ov s2 ⟨x,H2,I2,rx,a,C,dx,fs,ex,ea,c,n,l,q2⟩=>?_) hs;subst ex;obtain rfl:ov=Value.ref a:=rx;exact vG I2 ea c n l ry fun s3 I3=>⟨σ,_,I3,q2⟩
end
end L2
namespace L2
open PySem PySem.Spec PyProof.Rows
structure bq(k:Nat)(A:Around):Prop where
 hd:A.handled=none
 dp:A.depth+3*k+5<recursionLimit
 un:A.units+16*k+200<cLine
theorem bq.mono {j k:Nat}{A:Around}(r:bq k A)(h:j<=k):bq j A:=⟨r.hd,by have:=r.dp;omega,by have:=r.un;omega⟩
theorem bq.deeper {k:Nat}{A:Around}(r:bq (k+1) A)(env:Env):bq k (A.deeper env):=
 ⟨r.hd,by have:=r.dp;show A.depth+1+3*k+5<_;omega,by have:=r.un;show A.units+3+16*k+200<_;omega⟩
theorem vH{A:Around}{C:Addr}{us:List Value}{kw:List (Str×Value)}:(A.under (.builtin "type.__call__" ⟨.ref C::us,kw⟩)).depth=A.depth+1:=by
 first|rfl|simp[Around.under,Code.weight,Code.isCreation,Code.isGuard,Code.isCaller,Code.frames,Code.isFrame,guardIds]
theorem vI{A:Around}{C:Addr}{us:List Value}{kw:List (Str×Value)}:(A.under (.builtin "type.__call__" ⟨.ref C::us,kw⟩)).units=A.units+1:=by
 first|rfl|simp[Around.under,Code.cUnits,Code.frames,Code.isFrame]
theorem bq.make {k:Nat}{A:Around}(r:bq (k+1) A)(C:Addr)(us:List Value)(kw:List (Str×Value)):bq k (A.under (.builtin "type.__call__" ⟨.ref C::us,kw⟩)):=
 ⟨r.hd,by have:=r.dp;rw[vH];omega,by have:=r.un;rw[vI];omega⟩
theorem bq.depth {k:Nat}{A:Around}(r:bq k A):A.depth<recursionLimit:=by have:=r.dp;omega
theorem bq.units {k:Nat}{A:Around}(r:bq k A):A.units+64<cLine:=by have:=r.un;omega
def E4:TA:=fun _ H Q=>Q [] H
def IL(ta:TE)(tr:TA):TA:=fun σ H Q=>ta σ H fun x H1=>tr σ H1 fun xs H2=>Q (x::xs) H2
section
variable {X:Cx}{e:Expr}{es:List Expr}{te:TE}{t:TA}{pos:Pos}
theorem sk:PA X [] E4:=fun _ _ _ _ H Q I h=>Calls.spliced_nil ⟨[],H,I,.nil,h⟩
theorem nG(ha:PE X e te)(hr:PA X es t)(hs:starEach (e::es) X.env=(false,eval e X.env)::starEach es X.env:=by rfl):PA X (e::es) (IL te t):=by
 intro pos pins s σ H Q I h;rw[hs];show wpAny _ _ (spliced ((false,eval e X.env)::backTo pos (starEach es X.env))) _ _ s;refine oH (cn (ha pins s σ H _ I h) fun u s1 ⟨x,H1,I1,r1,q1⟩=>?_);exact cn (hr pos pins s1 σ H1 _ I1 q1) fun us s2 ⟨xs,H2,I2,r2,q2⟩=>⟨x::xs,H2,I2,.cons r1 r2,q2⟩
def M3(t:TA):TE:=fun σ H Q=>t σ H fun xs H1=>xs.length<=sizeLine/\∀p,H1 p=none->Q (.ref p) (upd H1 p (.tup xs))
def M4(t:TA):TE:=fun σ H Q=>t σ H fun xs H1=>xs.length<=sizeLine/\∀p,H1 p=none->Q (.ref p) (upd H1 p (.lst xs))
theorem E5{x1}(h:PA X es t):PE X (.Tuple es x1 pos) (M3 t):=by
 intro pins s σ H Q I hq;refine wpAny_Tuple_spliced (cn (h pos pins s σ H _ I hq) fun us s1 ⟨xs,H1,I1,r,z,q⟩=>⟨by rw[<-r.length];exact z,?_⟩);have hf:H1 s1.heap.objs.size=none:=I1.bB.fresh (aB _);refine⟨.ref s1.heap.objs.size,upd H1 s1.heap.objs.size (.tup xs),I1.laid (t':=s1.toks) (fun b u e=>aQ _ e) (aB _) ?_,rfl,q _ hf⟩;exact⟨z,us,r,⟨_,bg _ rfl,rfl,_,rfl,rfl⟩⟩
theorem E6(h:PA X es t):PE X (.List es pos) (M4 t):=by
 intro pins s σ H Q I hq;refine wpAny_List_spliced (cn (h pos pins s σ H _ I hq) fun us s1 ⟨xs,H1,I1,r,z,q⟩=>⟨by rw[<-r.length];exact z,?_⟩);have hf:H1 s1.heap.objs.size=none:=I1.bB.fresh (aB _);refine⟨.ref s1.heap.objs.size,upd H1 s1.heap.objs.size (.lst xs),I1.laid (t':=s1.toks) (fun b u e=>aQ _ e) (aB _) ?_,rfl,q _ hf⟩;exact⟨z,us,0,r,bg _ rfl⟩
end
abbrev Sp:=List V->Hp->VK->XK->Prop
abbrev t7:=List Env->Hp->Shared->XK->Value->Shared->Prop
structure vJ(P:Program)(w:World)(K:PySem.W.Frag)(mg:Str->Option Value)(base:Heap)(A:Around)(outer:List Env)(s:Shared)(H:Hp):Prop where
 frames:A.frames=some outer
 mod:Mod K mg base
 bs:∀b o,base.get? b=some o->s.heap.get? b=some o/\H b=none
 BD:base.objs.size<=s.heap.objs.size
 m6:s.heap.FunFrames base outer
 EA:∀b∈la outer,H b=none
 bB:j4 P w H s.heap
 bare:AllBare s.gens
def CE(outer:List Env)(P:Program)(w:World)(H:Hp)(s:Shared)(Q:VK)(u:Value)(s':Shared):Prop:=
 ∃v H',s'.os=s.os/\AllBare s'.gens/\Un (la outer) [] H H' s.heap s'.heap/\j4 P w H' s'.heap/\RelV v u/\Q v H'
def CR(CX:t7)(outer:List Env)(P:Program)(w:World)(H:Hp)(s:Shared)(Q:VK)(E:XK)(r:Result)(s':Shared):Prop:=
 match r with
 |.ok (.ret u)=>CE outer P w H s Q u s'
 |.ok _=>False
 |.error e=>CX outer H s E e s'
structure cf(P:Program)(w:World)(K:PySem.W.Frag)(mg:Str->Option Value)(base:Heap)(CX:t7)(k:Nat)(f:Addr)(fd:FuncData)(ps:List Str)(sp:Sp):Prop where
 len:∀vs H Q E,sp vs H Q E->vs.length=ps.length
 run:∀(A:Around) (outer:List Env) (s:Shared) (H:Hp) (args:Args) (us:List Value) (vs:List V) (Q:VK) (E:XK),bq k A->vJ P w K mg base A outer s H->BindsTo s fd args (ps.zip us)->Vals vs us->sp vs H Q E->
  codeAny (model P w) A (.call (.ref f) args) (CR CX outer P w H s Q E) s
theorem cf.mono {P:Program}{w:World}{K:PySem.W.Frag}{mg:Str->Option Value}{base:Heap}{CX:t7}{j k:Nat}{f:Addr}{fd:FuncData}{ps:List Str}{sp:Sp}(F:cf P w K mg base CX j f fd ps sp)(h:j<=k):
  cf P w K mg base CX k f fd ps sp:=⟨F.len,fun A outer s H args us vs Q E hr=>F.run A outer s H args us vs Q E (hr.mono h)⟩
theorem vJ.make {P:Program}{w:World}{K:PySem.W.Frag}{mg:Str->Option Value}{base:Heap}{A:Around}{outer:List Env}{s:Shared}{H:Hp}(e:vJ P w K mg base A outer s H)(C:Addr)(us:List Value)(kw:List (Str×Value)):
  vJ P w K mg base (A.under (.builtin "type.__call__" ⟨.ref C::us,kw⟩)) outer s H:=⟨by first|exact e.frames|(simpa[Around.under,Code.envs,Code.isFrame,pushEnvs]using e.frames),e.mod,e.bs,e.BD,e.m6,e.EA,e.bB,e.bare⟩
section
variable {X:Cx}{pins:List (Addr×Obj)}{σ:St}{H:Hp}{s s':Shared}
theorem Inv.IM (I:Inv X pins σ H s):vJ X.prog X.w X.K X.mg X.base X.A X.stack s H:=
 ⟨I.ok.frames,I.ok.mod,I.bs,a6 I.ok.BD I.sz,I.stack,I.sd,I.bB,I.bare⟩
theorem Inv.after {Q:VK}{u:Value}(I:Inv X pins σ H s)(h:CE X.stack X.prog X.w H s Q u s'):EP X pins σ Q u s':=by
 obtain⟨v,H',os,bare,un,bB,r,q⟩:=h;obtain⟨hh,g,d,t,QC⟩:=s';obtain rfl:QC=s.os:=os;exact⟨v,H',I.call (h':=hh) (g':=g) (d':=d) (t':=t) (ch:=[]) un bB bare (fun b z=>absurd z (by simp)),r,q⟩
end
def DN(sp:Sp)(oS:List V)(E:XK)(t:TA):TE:=fun σ H Q=>t σ H fun vs H1=>sp (vs++oS) H1 Q E
def DO(C:Addr)(m:Str)(sp:Sp)(oS:List V)(E:XK)(ta:TE)(t:TA):TE:=fun σ H Q=>ta σ H fun x H1=>∃a dx fs,x=.ref a/\H1 a=some (.ins C dx fs)/\fs.lookup m=none/\
 t σ H1 fun vs H2=>sp (x::(vs++oS)) H2 Q E
def DP(C:Addr)(sp:Sp)(oS:List V)(E:XK)(t:TA):TE:=fun σ H Q=>t σ H fun vs H1=>∀x dx,H1 x=none->H1 dx=none->dx≠x->
 sp (.ref x::(vs++oS)) (upd (upd H1 dx (.own x)) x (.ins C dx [])) (fun v H2=>v=.a_/\Q (.ref x) H2) E
def Binds(K:PySem.W.Frag)(fd:FuncData)(ps:List Str)(ds:List Value):Prop:=
 ∀(s:Shared) (us:List Value),K.In s.heap->(us++ds).length=ps.length->BindsTo s fd ⟨us,[]⟩ (ps.zip (us++ds))
theorem Binds.all {K:PySem.W.Frag}{fd:FuncData}{ps:List Str}(h:∀us:List Value,us.length=ps.length->bindArgs fd ⟨us,[]⟩=pure (ps.zip us)):Binds K fd ps []:=fun s us _ hl=>by
 rw[dY]at hl⊢;exact .of_eq (h us hl)
def Passes(CX:t7)(X:Cx)(E:XK):Prop:=∀(pins:List (Addr×Obj)) (σ:St) (H:Hp) (s:Shared) (e:Value) (s':Shared),Inv X pins σ H s->CX X.stack H s E e s'->X.xe e s'
section
variable {X:Cx}{CX:t7}{k:Nat}{f C:Addr}{fd:FuncData}{ps:List Str}{sp:Sp}{oS:List V}{ds:List Value}{E:XK}{x m:Str}{p pos apos:Pos}{e o:Expr}{es:List Expr}{ta:TE}{t:TA}
theorem vK{pins:List (Addr×Obj)}{σ:St}{H:Hp}{s:Shared}{Q:VK}{us:List Value}{vs:List V}(F:cf X.prog X.w X.K X.mg X.base CX k f fd ps sp)(hr:bq k X.A)(hb:Binds X.K fd ps ds)(hd:Vals oS ds)(hx:Passes CX X E)
  (I:Inv X pins σ H s) (r:Vals vs us) (h:sp (vs++oS) H Q E):wpAny (model X.prog X.w) X.A (call (.ref f) us) (EP X pins σ Q) X.xe s:=by
 have r2:Vals (vs++oS) (us++ds):=r.append hd;have hl:(us++ds).length=ps.length:=by rw[<-r2.length];exact F.len _ _ _ _ h
 refine wpAny_call (hX (F.run X.A X.stack s H ⟨us,[]⟩ (us++ds) (vs++oS) Q E hr I.IM (hb s us I.r_ hl) r2 h) fun r s' hq=>?_);cases r with
 |error e=>exact hx pins σ H s e s' I hq
 |ok fl=>
  cases fl with
  |ret u=>exact I.after hq
  |next=>exact False.elim hq
  |brk=>exact False.elim hq
  |cont=>exact False.elim hq
theorem wZ(F:cf X.prog X.w X.K X.mg X.base CX k f fd ps sp)(hr:bq k X.A)(hg:Gl X x)(hm:X.mg x=some (.ref f))(hk:PySem.W.keepIn X.K (.ref f)=true)(hb:Binds X.K fd ps ds)(hd:Vals oS ds)(hx:Passes CX X E)
  (ha:PA X (e::es) t) (dG:(x==("__debug__":Str))=false:=by decide) (he:starEach (e::es) X.env=(false,eval e X.env)::starEach es X.env:=by rfl) (jF:(backTo pos (starEach es X.env)).any (·.1)=false:=by rfl):
  PE X (.Call (.Name x p) (e::es) [] pos) (DN sp oS E t):=by
 intro pins s σ H Q I h;refine kH (lb I hg hm ?_ dG);refine om (h₀:=X.base) I.ok.mod.Ik hk (cn (ha pos pins s σ H _ I h) fun us s1 ⟨vs,H1,I1,r,q⟩=>⟨I1.r_,?_⟩) he jF;exact vK F hr hb hd hx I1 r q
theorem w4{pl:Sem Bool}(he:PE X o ta)(c:yx X.K C)(hm:Meth X.K C m f)(F:cf X.prog X.w X.K X.mg X.base CX k f fd ps sp)(hr:bq k X.A)(hb:Binds X.K fd ps ds)(hd:Vals oS ds)(hx:Passes CX X E)(ha:PA X (e::es) t)
  (bx:starEach (e::es) X.env=(false,eval e X.env)::starEach es X.env:=by rfl) (jF:(backTo pos (starEach es X.env)).any (·.1)=false:=by rfl)
  (ht:eval (.Call (.Attribute o m apos) (e::es) [] pos) X.env=(do
   let ov<-eval o X.env
   standAt apos.atName
   let(f,first)<-holding [ov] (getMethod ov m pl)
   callWith pos f first (backTo pos (starEach (e::es) X.env)) (backToKw pos (keywordEach [] X.env))):=by rfl):
  PE X (.Call (.Attribute o m apos) (e::es) [] pos) (DO C m sp oS E ta t):=by
 intro pins s σ H Q I h;refine PySem.W.methodCall_KW (pl:=pl) (cn (he pins s σ H _ I h) fun u s1 ⟨x,H1,I1,rx,a,dx,fs,ex,ea,l,q⟩=>?_) ht;subst ex;obtain rfl:u=Value.ref a:=rx;refine oR I1 ea c hm l ?_
 refine om (first:=[.ref a]) (h₀:=X.base) I.ok.mod.Ik hm.kp (cn (ha pos pins s1 σ H1 _ I1 q) fun us s2 ⟨vs,H2,I2,r,q2⟩=>⟨I2.r_,?_⟩) bx jF;exact vK (us:=.ref a::us) (vs:=.ref a::vs) F hr hb hd hx I2 (.cons rfl r) q2
theorem t9{pl:Sem Bool}(he:PE X o ta)(c:yx X.K C)(hm:Meth X.K C m f)(F:cf X.prog X.w X.K X.mg X.base CX k f fd ps sp)(hr:bq k X.A)(hb:Binds X.K fd ps ds)(hd:Vals oS ds)(hx:Passes CX X E)
  (ht:eval (.Call (.Attribute o m apos) [] [] pos) X.env=(do
   let ov<-eval o X.env
   standAt apos.atName
   let(f,first)<-holding [ov] (getMethod ov m pl)
   callWith pos f first (backTo pos (starEach [] X.env)) (backToKw pos (keywordEach [] X.env))):=by rfl):
  PE X (.Call (.Attribute o m apos) [] [] pos) (DO C m sp oS E ta E4):=by
 intro pins s σ H Q I h;refine PySem.W.methodCall_KW (pl:=pl) (cn (he pins s σ H _ I h) fun u s1 ⟨x,H1,I1,rx,a,dx,fs,ex,ea,l,q⟩=>?_) ht;subst ex;obtain rfl:u=Value.ref a:=rx;refine oR I1 ea c hm l ?_
 exact PySem.W.callWith_K0 (first:=[.ref a]) I1.r_ hm.kp (vK (us:=[.ref a]) (vs:=[.ref a]) F hr hb hd hx I1 (.cons rfl .nil) q)
structure Mk(K:PySem.W.Frag)(C f:Addr):Prop where
 makes:PySem.W.makesIn K C=true
 init:PySem.W.findIn K (.ref C) "__init__"=some (some (.ref f))
 fn:PySem.W.isFn K (.ref f)=true
 kp:PySem.W.keepIn K (.ref C)=true
theorem t_{pins:List (Addr×Obj)}{σ:St}{H:Hp}{s:Shared}{Q:VK}{us:List Value}{vs:List V}(M:Mk X.K C f)(F:cf X.prog X.w X.K X.mg X.base CX k f fd ps sp)(hr:bq (k+1) X.A)(hb:Binds X.K fd ps ds)(hd:Vals oS ds)
  (hx:Passes CX X E) (I:Inv X pins σ H s) (r:Vals vs us)
  (h:∀x dx,H x=none->H dx=none->dx≠x->sp (.ref x::(vs++oS)) (upd (upd H dx (.own x)) x (.ins C dx [])) (fun v H2=>v=.a_/\Q (.ref x) H2) E):
  wpAny (model X.prog X.w) X.A (call (.ref C) us) (EP X pins σ Q) X.xe s:=by
 have hq:=h (s.heap.objs.size+1) s.heap.objs.size (I.bB.fresh (kY _)) (I.bB.fresh (aB _)) (bc (kJ _));have I2:=Inv.made (C:=C) I;have r2:Vals (V.ref (s.heap.objs.size+1)::(vs++oS)) (Value.ref (s.heap.objs.size+1)::(us++ds)):=.cons rfl (r.append hd);have hl:(Value.ref (s.heap.objs.size+1)::us++ds).length=ps.length:=by
  have e:=r2.length;rw[F.len _ _ _ _ hq]at e;exact e.symm
 refine wpAny_call (zC (f:=f) I.r_ M.makes M.init (eZ.mp M.fn) (hX (F.run _ X.stack _ _ ⟨Value.ref (s.heap.objs.size+1)::us,[]⟩ (Value.ref (s.heap.objs.size+1)::(us++ds)) _ _ E (hr.make C us [])
  (I2.IM.make C us []) (hb _ (Value.ref (s.heap.objs.size+1)::us) I2.r_ hl) r2 hq) fun r s' IP=>?_))
 cases r with
 |error e=>exact hx pins σ _ _ e s' I2 IP
 |ok fl=>
  cases fl with
  |ret u=>
   obtain⟨v,H',I3,rv,ev,q3⟩:=I2.after IP;subst ev;exact⟨rv,⟨V.ref (s.heap.objs.size+1),H',I3,rfl,q3⟩⟩
  |next=>exact False.elim IP
  |brk=>exact False.elim IP
  |cont=>exact False.elim IP
theorem BS(M:Mk X.K C f)(F:cf X.prog X.w X.K X.mg X.base CX k f fd ps sp)(hr:bq (k+1) X.A)(hg:Gl X x)(hm:X.mg x=some (.ref C))(hb:Binds X.K fd ps ds)(hd:Vals oS ds)(hx:Passes CX X E)
  (ha:PA X (e::es) t) (dG:(x==("__debug__":Str))=false:=by decide) (he:starEach (e::es) X.env=(false,eval e X.env)::starEach es X.env:=by rfl) (jF:(backTo pos (starEach es X.env)).any (·.1)=false:=by rfl):
  PE X (.Call (.Name x p) (e::es) [] pos) (DP C sp oS E t):=by
 intro pins s σ H Q I h;refine kH (lb I hg hm ?_ dG);refine om (h₀:=X.base) I.ok.mod.Ik M.kp (cn (ha pos pins s σ H _ I h) fun us s1 ⟨vs,H1,I1,r,q⟩=>⟨I1.r_,?_⟩) he jF;exact t_ M F hr hb hd hx I1 r q
theorem zE(M:Mk X.K C f)(F:cf X.prog X.w X.K X.mg X.base CX k f fd ps sp)(hr:bq (k+1) X.A)(hg:Gl X x)(hm:X.mg x=some (.ref C))(hb:Binds X.K fd ps ds)(hd:Vals oS ds)(hx:Passes CX X E)
  (dG:(x==("__debug__":Str))=false:=by decide):PE X (.Call (.Name x p) [] [] pos) (DP C sp oS E E4):=by
 intro pins s σ H Q I h;refine kH (lb I hg hm ?_ dG);exact PySem.W.callWith_K0 I.r_ M.kp (t_ (us:=[]) M F hr hb hd hx I .nil h)
end
structure cY(N P:List Str)(sc:Scope):Prop where
 kind:sc.kind=.function
 co:sc.isCoroutine=false
 gen:sc.isGenerator=false
 nd:N.Nodup
 pre:N.take P.length=P
 par:∀x∈P,sc.names.lookup x=some .local\/sc.names.lookup x=some .cell
 E7:∀y∈sc.names,y.2≠ .free
theorem qN{kindOf:Str->Option NameKind}{x:Str}:∀{binds:List (Str×Value)} {m:Str->Option Value},(∀v,(x,v)∉binds)->bindL kindOf binds m x=m x
 |[],_,_=>rfl
 |(n,v)::r,m,h=>by
  unfold bindL;rw[qN fun w hw=>h w (bC _ hw)];split
  ·have:x≠n:=by rintro rfl;exact h v cg
   simp[this]
  ·rfl
theorem qO{kindOf:Str->Option NameKind}{x:Str}:∀{binds:List (Str×Value)} {m:Str->Option Value},(∀v,(x,v)∉binds)->bindC kindOf binds m x=m x
 |[],_,_=>rfl
 |(n,v)::r,m,h=>by
  unfold bindC;rw[qO fun w hw=>h w (bC _ hw)];split
  ·rfl
  ·have:x≠n:=by rintro rfl;exact h v cg
   simp[this]
theorem qP{kindOf:Str->Option NameKind}{x:Str}{v:Value}:∀{P:List Str} {vs:List Value} {i:Nat} {m:Str->Option Value},P.Nodup->P[i]?=some x->vs[i]?=some v->kindOf x=some .local->
  bindL kindOf (P.zip vs) m x=some v
 |[],_,_,_,_,h,_,_=>by simp at h
 |_::_,[],_,_,_,_,h,_=>by simp at h
 |p::P,w::vs,0,m,nd,h1,h2,hk=>by
  simp at h1 h2;subst h1;subst h2;show bindL kindOf ((p,w)::P.zip vs) m p=_;unfold bindL;rw[qN fun v hv=>(kR.mp nd).1 (oI hv).1,ae hk];simp
 |p::P,w::vs,i+1,m,nd,h1,h2,hk=>by
  show bindL kindOf ((p,w)::P.zip vs) m x=_;unfold bindL;exact qP (i:=i) (kR.mp nd).2 (by simpa using h1) (by simpa using h2) hk
theorem qQ{kindOf:Str->Option NameKind}{x:Str}{v:Value}:∀{P:List Str} {vs:List Value} {i:Nat} {m:Str->Option Value},P.Nodup->P[i]?=some x->vs[i]?=some v->kindOf x≠some .local->
  bindC kindOf (P.zip vs) m x=some v
 |[],_,_,_,_,h,_,_=>by simp at h
 |_::_,[],_,_,_,_,h,_=>by simp at h
 |p::P,w::vs,0,m,nd,h1,h2,hk=>by
  simp at h1 h2;subst h1;subst h2;show bindC kindOf ((p,w)::P.zip vs) m p=_;unfold bindC;rw[qO fun v hv=>(kR.mp nd).1 (oI hv).1,ai hk];simp
 |p::P,w::vs,i+1,m,nd,h1,h2,hk=>by
  show bindC kindOf ((p,w)::P.zip vs) m x=_;unfold bindC;exact qQ (i:=i) (kR.mp nd).2 (by simpa using h1) (by simpa using h2) hk
def start(N:List Str)(vs:List V):St:=vs.map some++List.replicate (N.length - vs.length) none
def iR(CX:t7)(P:Program)(w:World)(K:PySem.W.Frag)(mg:Str->Option Value)(base:Heap)(N:List Str)(qual:Str)(scope:Scope)(f:Addr)(cd:Value)(A:Around)(outer:List Env)(s:Shared)(H:Hp)(E:XK):Cx where
 prog:=P
 w:=w
 K:=K
 mg:=mg
 base:=base
 A:=A.deeper (envOfC qual scope s.heap.objs.size f cd)
 N:=N
 eu:=s
 tV:=H
 env:=envOfC qual scope s.heap.objs.size f cd
 outer:=outer
 stack:=envOfC qual scope s.heap.objs.size f cd::outer
 ex:=[]
 calm:=true
 fn:=fun _=>true
 pn:=[]
 xe:=fun e s'=>wpAny (model P w) (A.deeper (envOfC qual scope s.heap.objs.size f cd)) (leaving (envOfC qual scope s.heap.objs.size f cd) e) (fun _ E8=>CX outer H s E e E8) (fun e' E8=>CX outer H s E e' E8) s'
theorem ua{sc:Scope}{n:Nat}{x:Str}(h:sc.names.lookup x=some .cell):∃c,(cellsFrom n sc.names []).lookup x=some c:=by
 have q:=PySem.W.cellsFrom_some sc.names n [] (.inl h);exact Option.isSome_iff_exists.mp q
theorem yy{CX:t7}{P:Program}{w:World}{K:PySem.W.Frag}{mg:Str->Option Value}{base:Heap}{N ps:List Str}{qual:Str}{scope:Scope}{f:Addr}{cd:Value}{A:Around}{outer:List Env}{s s1:Shared}{H:Hp}{E:XK}{us:List Value}{vs:List V}
  (S:cY N ps scope) (hd:A.handled=none) (e0:vJ P w K mg base A outer s H) (hl:vs.length=ps.length) (r:Vals vs us)
  (x:InCallC s s.heap.objs.size (bindL (envOfC qual scope s.heap.objs.size f cd).kindOf (ps.zip us) fun _=>none) (cellsFrom (s.heap.objs.size+1) scope.names []) (bindC (envOfC qual scope s.heap.objs.size f cd).kindOf (ps.zip us) fun _=>none) s1):
  Inv (iR CX P w K mg base N qual scope f cd A outer s H E) [] (start N vs) H s1:=by
 have jF:ps.length<=N.length:=by have:=bE List.length S.pre;rw[kP]at this;omega
 obtain⟨h1,tk,rfl,hk⟩:=x.done;have HH:∀b:Addr,b∉(iR CX P w K mg base N qual scope f cd A outer s H E).ex:=fun b z=>absurd (show b∈([]:List Addr)from z) (by simp);refine⟨⟨e0.mod,S.kind,rfl,rfl,aB _,fun y z c h1 h2=>?_,fun y hy=>?_,fun y c _ h=>?_,fun _=>hd,Around.frames_deeper e0.frames,.inr ⟨rfl,rfl⟩,fun b z=>absurd z (HH b),e0.bs,e0.BD,fun b _ _=>HH b,fun b z=>absurd z (HH b),e0.m6,e0.EA⟩,
  rfl,e0.bare,Un.kept hk,⟨_,x.toInCall.ns,fun i y v h1 h2 h3=>?_⟩,fun y c h=>⟨_,x.cell y c h⟩,e0.bB.fresh (aB _),fun y c h=>?_,fun p hp=>absurd (show p∈([]:List (Addr×Obj))from hp) (by simp),e0.bB.kept hk,?_⟩
 ·exact name_of_addr x.apart (fO h1) (fO h2)
 ·have hy:scope.names.lookup y=some .cell\/scope.names.lookup y=some .free:=hy;rcases hy with hy|hy
  ·exact ua hy
  ·exact absurd rfl (S.E7 _ (fO hy))
 ·exact iY (x.above y c (fO h))
 ·have hi:i<vs.length:=by
   unfold start at h2;by_cases hi:i<vs.length
   ·exact hi
   ·rw[gU (by simpa using hi)]at h2;rw[nV]at h2;split at h2<;>cases h2
  have ha:vs[i]?=some v:=by
   unfold start at h2;rw[dn (by simpa using hi),bb]at h2;cases e:vs[i]? with
   |none=>rw[e]at h2;cases h2
   |some a=>rw[e]at h2;cases h2;rfl
  obtain⟨u,hu,rv⟩:=r.get ha;have hp:ps[i]?=some y:=by
   rw[<-S.pre,List.getElem?_take_of_lt (by omega)];exact h1
  have Pn:ps.Nodup:=by rw[<-S.pre];exact S.nd.sublist (List.take_sublist _ _)
  refine⟨u,rv,?_⟩;rcases S.par y (dS hp)with k|k
  ·exact .inl ⟨k,qP Pn hp hu k⟩
  ·obtain⟨c,e⟩:=ua (n:=s.heap.objs.size+1) k;refine .inr ⟨.inl k,c,e,?_⟩;have q:=x.cell y c e;rw[qQ Pn hp hu (by show scope.names.lookup y≠_;rw[k];decide)]at q;exact q
 ·exact e0.bB.fresh (iY (x.above y c (fO h)))
 ·unfold start;show _=N.length;rw[bP,aE,kA];omega
theorem DQ{CX:t7}{P:Program}{w:World}{K:PySem.W.Frag}{mg:Str->Option Value}{base:Heap}{k:Nat}{f:Addr}{name qual:Str}{params:Arguments}{body:List Stmt}{scope:Scope}{dV kV doc pm cC ct oc:Value}{an od:Option Addr}
  {zF:Array (Option Value)} {N ps:List Str} {sp:Sp} (lk:K.lookup f=some ⟨oc,od,.func (PySem.W.fnOf name qual params body scope dV kV doc pm an cC ct),zF⟩) (vx:PySem.W.codeIn K cC qual=true) (S:cY N ps scope)
  (len:∀vs H Q E,sp vs H Q E->vs.length=ps.length)
  (fm:∀(A:Around) (outer:List Env) (s:Shared) (H:Hp) (vs:List V) (Q:VK) (E:XK),bq k (A.deeper (envOfC qual scope s.heap.objs.size f cC))->sp vs H Q E->
   ∃t,jQ (iR CX P w K mg base N qual scope f cC A outer s H E) body t/\t {nx:=fun _ H'=>Q .a_ H',rt:=Q} (start N vs) H):
  cf P w K mg base CX (k+1) f (PySem.W.fnOf name qual params body scope dV kV doc pm an cC ct) ps sp:=by
 refine⟨len,fun A outer s H args us vs Q E hr e0 hb r DR=>?_⟩;have hl:=len _ _ _ _ DR;have KX:K.In s.heap:=e0.mod.Ik.keeps fun b o e=>(e0.bs b o e).1;have lim:s.heap.NoLimit:=e0.mod.nolimit.keeps fun b o e=>(e0.bs b o e).1;have IQ:∀y∈ps.zip us,scope.names.lookup y.1=some .local\/(scope.names.lookup y.1=some .cell/\((cellsFrom (s.heap.objs.size+1) scope.names []).lookup y.1).isSome=true):=fun⟨n,v⟩ hy=>by
  rcases S.par n (oI hy).1 with q|q
  ·exact .inl q
  ·exact .inr ⟨q,PySem.W.cellsFrom_some _ _ _ (.inl q)⟩
 refine codeAny_call_function hr.depth (KX _ _ lk) rfl S.co S.gen rfl (PySem.W.codeRec_of KX vx) (hb _ _ _ _ ?_);refine wpAny_newFunctionEnv_cells S.kind IQ fun env he s1 x=>?_
 subst he;refine⟨lim.keeps x.toInCall.keep,codeAny_func ?_⟩;obtain⟨t,ht,hq⟩:=fm A outer s H vs Q E (hr.deeper _) DR;have I:Inv (iR CX P w K mg base N qual scope f cC A outer s H E) [] (start N vs) H s1:=yy S hr.hd e0 hl r x;refine cy (ht [] s1 (start N vs) H _ I hq) (fun fl s' hs=>?_) fun e s' hs=>hs;have fin:∀{bL:St} {H':Hp} {v:V} {u:Value},Inv (iR CX P w K mg base N qual scope f cC A outer s H E) [] bL H' s'->RelV v u->Q v H'->CE outer P w H s Q u s':=
  fun{bL H' v u} J rv q=>⟨v,H',J.os,J.bare,J.base,J.bB,rv,q⟩
 cases fl with
 |ret u=>
  obtain⟨v,bL,H',J,rv,q⟩:=hs;exact fin J rv q
 |next=>
  obtain⟨bL,H',J,q⟩:=hs;exact fin (v:=V.a_) (u:=Value.none) J rfl q
 |brk=>
  obtain⟨_,_,_,q⟩:=hs;exact False.elim q
 |cont=>
  obtain⟨_,_,_,q⟩:=hs;exact False.elim q
end L2
namespace L2
open PySem PySem.Spec PyProof.Rows
section
variable {X:Cx}{x:Str}{p pos:Pos}{e:Expr}{es:List Expr}{t:TA}{id T:String}{r:List V->Hp->VK->Prop}
def M5(r:List V->Hp->VK->Prop)(t:TA):TE:=fun σ H Q=>t σ H fun vs H1=>r vs H1 Q
theorem ub(hc:cV X (.builtin id) r)(hg:Gl X x)(hm:X.mg x=none)(hv:bootBuiltins x=some (.builtin id))(ha:PA X (e::es) t)(hn:x≠"__name__":=by decide) (dG:(x==("__debug__":Str))=false:=by decide)
  (he:starEach (e::es) X.env=(false,eval e X.env)::starEach es X.env:=by rfl) (jF:(backTo pos (starEach es X.env)).any (·.1)=false:=by rfl):PE X (.Call (.Name x p) (e::es) [] pos) (M5 r t):=by
 intro pins s σ H Q I h;refine kH (vy I hg hm hv ?_ hn dG);exact PyProof.Rows.callWith_builtin1 (cn (ha pos pins s σ H _ I h) fun us s1 ⟨vs,H1,I1,r1,q1⟩=>hc pins s1 σ H1 vs us Q I1 r1 q1) he jF
theorem mf(hc:cV X (.type T) r)(hg:Gl X x)(hm:X.mg x=none)(hv:bootBuiltins x=some (.type T))(ha:PA X (e::es) t)(hn:x≠"__name__":=by decide) (dG:(x==("__debug__":Str))=false:=by decide)
  (he:starEach (e::es) X.env=(false,eval e X.env)::starEach es X.env:=by rfl) (jF:(backTo pos (starEach es X.env)).any (·.1)=false:=by rfl):PE X (.Call (.Name x p) (e::es) [] pos) (M5 r t):=by
 intro pins s σ H Q I h;refine kH (vy I hg hm hv ?_ hn dG);exact tM (cn (ha pos pins s σ H _ I h) fun us s1 ⟨vs,H1,I1,r1,q1⟩=>hc pins s1 σ H1 vs us Q I1 r1 q1) he jF
end
end L2
namespace HT
open PySem PyProof.Rows
section
open PySem.SeqAt
open PySem.AutoSeq1 (wpAny_loadPart')
open PySem.MeetsSeq PySem.MeetsSeq2 PySem.MeetsSeq3
end
section
variable {prog:Program}{w:World}{A:Around}{E:Value->Shared->Prop}{s:Shared}
theorem BU{t b:Addr}{vs ws:List Value}{Q:Value->Shared->Prop}(ht:IsTup s.heap t vs.toArray)(hb:IsTup s.heap b ws.toArray)(hv:vs≠[])
  (h1:ws=[]->Q (.ref t) s) (h2:ws≠[]->Q (.ref s.heap.objs.size) {s with heap:=s.heap.push {cls:=.type "tuple",data:=.seq (vs++ws).toArray}})
  (hsz:vs.length+ws.length<=sizeLine):wpAny (model prog w) A (binaryOp .Add (.ref t) (.ref b)) Q E s:=by
 obtain⟨⟨cls,dd,data,sl⟩,ho,hc,n,hd⟩:=id ht;obtain⟨⟨QH,HI,data2,L4⟩,L5,Po,n2,hd2⟩:=id hb;simp only at hc hd Po hd2;subst hc hd Po hd2;have e:vs.toArray++ws.toArray=(vs++ws).toArray:=by simp
 by_cases hw:ws=[]
 ·exact concat_meets ⟨_,ho,rfl⟩ ⟨_,L5,rfl⟩ noFill_tuple_add seq_tuple_add nZ nW (nU _ _)
   (tuple_addW1 t b vs.toArray ws.toArray n n2 dd HI sl L4 (by simpa using hv) (by simp[hw])) ⟨ho,L5,h1 hw⟩
 ·refine concat_meets ⟨_,ho,rfl⟩ ⟨_,L5,rfl⟩ noFill_tuple_add seq_tuple_add nZ nW (nU _ _)
   (tuple_addW2 t b vs.toArray ws.toArray n n2 dd HI sl L4 (by simpa using hv) (by simpa using hw) (by rw[a7,a7];exact hsz)) ⟨ho,L5,?_⟩
  rw[e];exact h2 hw
def cU(n d:Nat):Option Int->Nat
 |none=>d
 |some v=>if v<0 then(v+(n:Int)).toNat else min v.toNat n
theorem w6(n d k:Nat):cU n d (some (k:Int))=min k n:=by
 show(if(k:Int)<0 then((k:Int)+(n:Int)).toNat else min (k:Int).toNat n)=min k n;rw[ai (by omega),eW]
theorem E9(n d:Nat)(hd:d<=n)(o:Option Int):cU n d o<=n:=by
 cases o with
 |none=>exact hd
 |some v=>
  show(if v<0 then(v+(n:Int)).toNat else min v.toNat n)<=n;by_cases hv:v<0
  ·rw[ae hv];omega
  ·rw[ai hv];exact Nat.min_le_right _ _
theorem sq(v:Int)(n d:Nat):(if v<0 then max (v+(n:Int)) 0 else min v (n:Int))=((cU n d (some v):Nat):Int):=by
 show(if v<0 then max (v+(n:Int)) 0 else min v (n:Int))=(((if v<0 then(v+(n:Int)).toNat else min v.toNat n):Nat):Int);by_cases hv:v<0
 ·simp only[ae hv];omega
 ·simp only[ai hv];omega
theorem vL(lo hi:Option Int)(n:Nat):Builtin.Slice.sliceAdjust lo hi 1 (n:Int)=(((cU n 0 lo:Nat):Int),((cU n n hi:Nat):Int)):=by
 have h1:¬((1:Int)<0):=by omega
 unfold Builtin.Slice.sliceAdjust;simp only[h1,i4];refine Prod.ext ?_ ?_
 ·cases lo with
  |none=>rfl
  |some v=>exact sq v n 0
 ·cases hi with
  |none=>rfl
  |some v=>exact sq v n n
theorem vM(i j:Nat):Builtin.Slice.slicePlaces (i:Int) (j:Int) 1=j - i:=by
 unfold Builtin.Slice.slicePlaces;have h1:(1:Int)>0:=by omega
 simp only[h1,if_true,Int.ediv_one];split<;>omega
theorem oU{v:Value}{o:Option Int}{Q:Option Int->Shared->Prop}(p:IsPart v o)(h:Q o s):wpAny (model prog w) A (Builtin.Slice.slicePartIndex v) Q E s:=by
 cases p with
 |none=>exact slicePart_none h
 |int i t=>exact slicePart_int h
theorem gu{sl:Addr}{vl vu:Value}{lo hi:Option Int}{n:Nat}{Q:Int×Int×Nat->Shared->Prop}(hs:s.heap.IsSliceOf sl vl vu .none)(pl:IsPart vl lo)(pu:IsPart vu hi)
  (h:Q (((cU n 0 lo:Nat):Int),1,cU n n hi - cU n 0 lo) s):wpAny (model prog w) A (Builtin.Slice.sliceApplied (.ref sl) (pure (n:Int))) Q E s:=by
 obtain⟨os,E_,L6,IS⟩:=id hs;unfold Builtin.Slice.sliceApplied Builtin.Slice.sliceFields;refine ab (ab (wpAny_field E_ IS (x:=vl) rfl (ab (wpAny_field E_ IS (x:=vu) rfl (ab (wpAny_field E_ IS (x:=.none) rfl (ak ?_)))))));refine ab (slicePart_none ?_);show wpAny _ _ (if((1:Int)==0)=true then _ else _) _ _ s;rw[ai (by decide)];refine ab (oU pl (ab (oU pu (ab (ak ?_)))));show wpAny _ _ (match Builtin.Slice.sliceAdjust lo hi 1 (n:Int)with|(lo,hi)=>pure (lo,(1:Int),Builtin.Slice.slicePlaces lo hi 1)) _ _ s;rw[vL lo hi n];show wpAny _ _ (pure (((cU n 0 lo:Nat):Int),(1:Int),Builtin.Slice.slicePlaces ((cU n 0 lo:Nat):Int) ((cU n n hi:Nat):Int) 1)) _ _ s;rw[vM];exact ak h
theorem zG(xs:Array Value)(i k:Nat):((List.range k).filterMap fun(m:Nat)=>xs[((i:Int)+(m:Int)*1).toNat]?).toArray=((xs.toList.drop i).take k).toArray:=by
 have e:(fun(m:Nat)=>xs[((i:Int)+(m:Int)*1).toNat]?)=fun m=>xs[i+m]? :=by
  funext m;have:((i:Int)+(m:Int)*1).toNat=i+m:=by omega
  rw[this]
 rw[e];have:=pick_run xs i k;rw[List.filterMap_map]at this;have e2:((fun x=>xs[x]?)∘fun x=>i+x)=fun m=>xs[i+m]? :=rfl
 rw[e2]at this;rw[this]
theorem ll{t sl:Addr}{items:Array Value}{vl vu:Value}{lo hi:Option Int}{Q:Value->Shared->Prop}(ht:IsTup s.heap t items)(hs:s.heap.IsSliceOf sl vl vu .none)(pl:IsPart vl lo)(pu:IsPart vu hi)
  (hw:¬(cU items.size 0 lo=0/\cU items.size items.size hi=items.size))
  (h:Q (.ref s.heap.objs.size) {s with heap:=s.heap.push {cls:=.type "tuple",data:=.seq ((items.toList.drop (cU items.size 0 lo)).take (cU items.size items.size hi - cU items.size 0 lo)).toArray}})
  (hsz:items.size<=sizeLine):wpAny (model prog w) A (getItem (.ref t) (.ref sl)) Q E s:=by
 have w8:sizeOk (.seq ((items.toList.drop (cU items.size 0 lo)).take (cU items.size items.size hi - cU items.size 0 lo)).toArray):=by
  show((items.toList.drop (cU items.size 0 lo)).take (cU items.size items.size hi - cU items.size 0 lo)).toArray.size<=sizeLine;rw[a7,kP,oA,bW];omega
 have hj:cU items.size items.size hi<=items.size:=E9 _ _ (aB _) hi;obtain⟨os,E_,L6,IS⟩:=id hs;have M6:s.TypeIs (.ref sl) "slice":=⟨os,E_,L6⟩;unfold getItem
 try with_reducible refine d3 ?_
 first|refine ab (ak ?_)|skip
 refine ab (wpAny_sequenceKey ht.typeIs (by decide) ?_);refine ab (nD (name:=Str.ofString "__getitem__") ht.typeIs gS
  (g9 gS ht.typeIs entry_tuple_getitem ?_ (args_tuple_getitem _ _)))
 show wpAny _ _ (Builtin.Tuple.tupleItemsOf (.ref t)>>=_) _ _ s;refine ab (tupleItemsOf_ ht ?_);refine ab (hZ M6 ?_);rw[ae (by decide)];refine ab (gu hs pl pu ?_);have M7:¬((((cU items.size 0 lo:Nat):Int)==0&&(1:Int)==1&&(cU items.size items.size hi - cU items.size 0 lo)==items.size)=true):=by
  intro q;rw[a3,a3]at q;have q1:((cU items.size 0 lo:Nat):Int)=0:=eq_of_beq q.1.1;have q2:cU items.size items.size hi - cU items.size 0 lo=items.size:=eq_of_beq q.2;exact hw ⟨by omega,by omega⟩
 show wpAny _ _ (if(((cU items.size 0 lo:Nat):Int)==0&&(1:Int)==1&&(cU items.size items.size hi - cU items.size 0 lo)==items.size)=true then _ else _) _ _ s;rw[ai M7,zG]
 first
  |exact ab (m:=Builtin.Tuple.tupleExact _) (dX (ak ⟨_,rfl,ak h⟩) w8)
  |exact ab (m:=Builtin.Tuple.tupleExact _) (dX (ab (ak (ak ⟨_,rfl,ak h⟩))) w8)
  |exact ab (ab (m:=Builtin.Tuple.tupleExact _) (dX (ak (ak ⟨_,rfl,ak h⟩)) w8))
  |exact ab (ab (m:=Builtin.Tuple.tupleExact _) (dX (ak ⟨_,rfl,ak h⟩) w8))
end
end HT
namespace L2
open PySem PySem.Spec PyProof.Rows
abbrev TO:=St->Hp->(Option Int->Hp->Prop)->Prop
def PO(X:Cx)(e:Option Expr)(t:TO):Prop:=
 ∀(pins:List (Addr×Obj)) (s:Shared) (σ:St) (H:Hp) (Q:Option Int->Hp->Prop),Inv X pins σ H s->t σ H Q->
  wpAny (model X.prog X.w) X.A (evalPart e X.env) (fun u s'=>∃o H',Inv X pins σ H' s'/\IsPart u o/\Q o H') X.xe s
def BV:TO:=fun _ H Q=>Q none H
def IT(t:TE):TO:=fun σ H Q=>t σ H fun x H1=>∃i,x=.int i/\Q (some i) H1
section
variable {X:Cx}{e:Expr}{te:TE}{lo hi:Option Expr}{tl th:TO}{pos p2:Pos}
theorem BW:PO X none BV:=by
 intro pins s σ H Q I h;rw[evalPart_none];exact ak ⟨none,H,I,.none,h⟩
theorem BX(h:PE X e te):PO X (some e) (IT te):=by
 intro pins s σ H Q I hw;rw[evalPart_some];refine cn (h pins s σ H _ I hw) fun u s1 ⟨x,H1,I1,r1,q1⟩=>?_
 obtain⟨i,rfl,q⟩:=q1;obtain⟨t,rfl⟩:=r1;exact⟨some i,H1,I1,.int i t,q⟩
def HJ(X:Cx)(r:V->Option Int->Option Int->Hp->VK->Prop):Prop:=
 ∀(pins:List (Addr×Obj)) (s:Shared) (σ:St) (H:Hp) (x:V) (v vl vu:Value) (lo hi:Option Int) (sl:Addr) (Q:VK),Inv X pins σ H s->RelV x v->s.heap.IsSliceOf sl vl vu .none->IsPart vl lo->IsPart vu hi->r x lo hi H Q->
  ∃T id,typeLookup (.type T) "__getitem__"=pure (some (.builtin id))/\s.TypeIs v T/\wpAny (model X.prog X.w) X.A (getItem v (.ref sl)) (EP X pins σ Q) X.xe s
def QK(r:V->Option Int->Option Int->Hp->VK->Prop)(te:TE)(tl th:TO):TE:=fun σ H Q=>te σ H fun x H1=>tl σ H1 fun l H2=>th σ H2 fun u H3=>r x l u H3 Q
theorem zH{r:V->Option Int->Option Int->Hp->VK->Prop}(hr:HJ X r)(he:PE X e te)(hl:PO X lo tl)(hu:PO X hi th):PE X (.Subscript e (.Slice lo hi none p2) pos) (QK r te tl th):=by
 intro pins s σ H Q I h;refine Subscript_ (cn (he pins s σ H _ I h) fun v s1 ⟨x,H1,I1,r1,q1⟩=>?_);refine wpAny_Slice (cn (hl pins s1 σ H1 _ I1 q1) fun vl s2 ⟨l,H2,I2,pl,q2⟩=>cn (hu pins s2 σ H2 _ I2 q2) fun vu s3 ⟨u,H3,I3,pu,q3⟩=>?_);rw[evalPart_none];refine ak ?_
 have I4:Inv X pins σ H3 {s3 with heap:=s3.heap.push {cls:=.type "slice",data:=.fields #[vl,vu,.none]}}:=I3.kept (t':=s3.toks) fun b ob q=>aQ _ q;obtain⟨T,id,hT,ht,hg⟩:=hr pins {s3 with heap:=s3.heap.push {cls:=.type "slice",data:=.fields #[vl,vu,.none]}} σ H3 x v vl vu l u s3.heap.objs.size Q I4 r1 (Heap.IsSliceOf.new ..) pl pu q3;show wpAny (model X.prog X.w) X.A (subscriptTail e (.Slice lo hi none p2) v (.ref s3.heap.objs.size)) (EP X pins σ Q) X.xe {s3 with heap:=s3.heap.push {cls:=.type "slice",data:=.fields #[vl,vu,.none]}};exact tail_any (ops:=[.ref s3.heap.objs.size,v]) ht hT hg (by with_unfolding_all rfl)
def uc(xs:List V)(lo hi:Option Int):List V:=(xs.drop (HT.cU xs.length 0 lo)).take (HT.cU xs.length xs.length hi - HT.cU xs.length 0 lo)
theorem mH(xs:List V)(lo hi:Option Int):(uc xs lo hi).length<=xs.length:=by
 unfold uc;rw[kP,oA];omega
def M8(K:PySem.W.Frag):V->Option Int->Option Int->Hp->VK->Prop:=fun x lo hi H Q=>∃a xs,x=.ref a/\i6 K H a xs/\
 ¬(HT.cU xs.length 0 lo=0/\HT.cU xs.length xs.length hi=xs.length)/\∀p,H p=none->Q (.ref p) (upd H p (.tup (uc xs lo hi)))
theorem Fb:HJ X (M8 X.K):=by
 intro pins s σ H x v vl vu lo hi sl Q I rx hs pl pu h;obtain⟨a,xs,rfl,hx,hw,q⟩:=h;cases rx;obtain⟨aV,r,ht,hz⟩:=I.tuple hx;have hlen:aV.toArray.size=xs.length:=by rw[a7];exact r.length.symm
 refine⟨"tuple",_,gS.lookup,ht.typeIs,?_⟩;refine HT.ll ht hs pl pu (by rw[hlen];exact hw) ?_ (by rw[hlen];exact hz)
 rw[hlen];refine⟨.ref s.heap.objs.size,_,I.laid (t':=s.toks) (o:=.tup (uc xs lo hi)) (fun b ob q=>aQ _ q) (aB _) ?_,rfl,q _ (I.bB.fresh (aB _))⟩;exact⟨a6 (mH xs lo hi) hz,_,(r.drop (HT.cU xs.length 0 lo)).take (HT.cU xs.length xs.length hi - HT.cU xs.length 0 lo),i5.new _ _⟩
def IU(K:PySem.W.Frag):R2:=fun x y H Q=>∃a b xs ys,x=.ref a/\y=.ref b/\i6 K H a xs/\i6 K H b ys/\xs≠[]/\xs.length+ys.length<=sizeLine/\
 (ys=[]->Q (.ref a) H)/\(ys≠[]->∀p,H p=none->Q (.ref p) (upd H p (.tup (xs++ys))))
theorem Vals.sr {xs:List V}{us:List Value}(r:Vals xs us):us=[]↔xs=[]:=by
 cases r with
 |nil=>simp
 |cons _ _=>simp
theorem BY:l8 X (binaryOp .Add) (IU X.K):=by
 intro pins s σ H x y v u Q I rx ry h;obtain⟨a,b,xs,ys,rfl,rfl,ha,hb,hx,hz,q1,q2⟩:=h;cases rx;cases ry;obtain⟨aV,r1,p1,_⟩:=I.tuple ha;obtain⟨BZ,r2,p2,_⟩:=I.tuple hb;refine HT.BU p1 p2 (fun z=>hx (r1.sr.mp z)) (fun z=>⟨.ref a,H,I,rfl,q1 (r2.sr.mp z)⟩) (fun z=>?_) (by rw[<-r1.length,<-r2.length];exact hz);refine⟨.ref s.heap.objs.size,_,I.laid (t':=s.toks) (o:=.tup (xs++ys)) (fun b ob q=>aQ _ q) (aB _) ?_,rfl,q2 (fun w=>z (r2.sr.mpr w)) _ (I.bB.fresh (aB _))⟩;exact⟨by rw[bP];exact hz,_,r1.append r2,i5.new _ _⟩
end
end L2
namespace L2
open PySem PySem.Spec PyProof.Rows
def DT(n:Nat)(i:Int):Option Nat:=if 0<=i then(if i<n then some i.toNat else none)else if-(n:Int)<=i then some (i+n).toNat else none
def lp{α:Type}(xs:List α)(i:Int):Option α:=(DT xs.length i).bind fun j=>xs[j]?
theorem B5{n:Nat}{i:Int}{j:Nat}(h:DT n i=some j):seqIndex? i n=some j/\j<n/\-(n:Int)<=i/\i<n:=by
 unfold DT at h;by_cases h0:0<=i
 ·rw[ae h0]at h;by_cases h1:i<n
  ·rw[ae h1]at h;have e:i.toNat=j:=Option.some.inj h;exact⟨by rw[seqIndex_of h0 h1,e],by omega,by omega,h1⟩
  ·rw[ai h1]at h;cases h
 ·rw[ai h0]at h;by_cases h1:-(n:Int)<=i
  ·rw[ae h1]at h;have e:(i+n).toNat=j:=Option.some.inj h;exact⟨by rw[seqIndex_neg (by omega) h1,e],by omega,h1,by omega⟩
  ·rw[ai h1]at h;cases h
theorem sv{α:Type}{xs:List α}{i:Int}{v:α}(h:lp xs i=some v):∃j,seqIndex? i xs.length=some j/\xs[j]?=some v/\j<xs.length/\-(xs.length:Int)<=i/\i<xs.length:=by
 unfold lp at h;cases e:DT xs.length i with
 |none=>rw[e]at h;cases h
 |some j=>
  rw[e]at h;obtain⟨h1,h2,h3,h4⟩:=B5 e;exact⟨j,h1,h,h2,h3,h4⟩
theorem nH{α:Type}{xs:List α}{j:Nat}{v:α}(h:xs[j]?=some v):lp xs (j:Int)=some v:=by
 have hj:j<xs.length:=(cG.mp h).1;have e:DT xs.length (j:Int)=some j:=by
  unfold DT;rw[ae (by omega),ae (by omega)];simp
 unfold lp;rw[e];exact h
def fV(b:Expr):Prop:=∀o i,subscripted b false o i=operate [o,i] (getItem o i)
def HK(X:Cx)(r:R2):Prop:=
 ∀(value slice:Expr) (pins:List (Addr×Obj)) (s:Shared) (σ:St) (H:Hp) (x y:V) (v u:Value) (Q:VK),Inv X pins σ H s->RelV x v->RelV y u->r x y H Q->
  subscripted slice false v u=operate [v,u] (getItem v u)->wpAny (model X.prog X.w) X.A (subscriptTail value slice v u) (EP X pins σ Q) X.xe s
def HL(X:Cx)(id:String)(r:V->List V->Hp->VK->Prop):Prop:=
 ∀(pins:List (Addr×Obj)) (s:Shared) (σ:St) (H:Hp) (x:V) (xs:List V) (v:Value) (us:List Value) (Q:VK),Inv X pins σ H s->RelV x v->Vals xs us->r x xs H Q->
  wpAny (model X.prog X.w) X.A (call (.builtin id) (v::us)) (EP X pins σ Q) X.xe s
section
variable {X:Cx}{a b:Expr}{ta tb:TE}{pos:Pos}
theorem w_{r:R2}(hr:HK X r)(ha:PE X a ta)(hb:PE X b tb)(hs:fV b):PE X (.Subscript a b pos) (EN r ta tb):=by
 intro pins s σ H Q I h;exact Subscript_ (ER ha hb I h fun v u s2 x y H2 I2 rx ry q=>hr a b pins s2 σ H2 x y v u Q I2 rx ry q (hs _ _))
def M9(K:PySem.W.Frag):R2:=fun x y H Q=>∃p xs i v,x=.ref p/\y=.int i/\iF K H p xs/\lp xs i=some v/\Q v H
def M_(K:PySem.W.Frag):R2:=fun x y H Q=>∃p xs i v,x=.ref p/\y=.int i/\i6 K H p xs/\lp xs i=some v/\Q v H
def M':R2:=fun x y H Q=>∃z i c,x=.str z/\y=.int i/\z.length<=sizeLine/\lp z.cps.toList i=some c/\Q (.str ⟨#[c]⟩) H
theorem xa:HK X (M9 X.K):=by
 intro value slice pins s σ H x y v u Q I rx ry h hs;obtain⟨p,xs,i,z,rfl,rfl,hq,he,q⟩:=h;cases rx;obtain⟨t,rfl⟩:=ry;obtain⟨aV,r,pl,hz⟩:=I.list hq;obtain⟨j,h1,h2,h3,h4,h5⟩:=sv he;obtain⟨w,ew,j7⟩:=r.get h2;have hl:=r.length;have hn:=oQ;have fin:EP X pins σ Q w s:=⟨z,H,I,j7,q⟩;by_cases h0:0<=i
 ·have hj:i.toNat=j:=by
   rw[seqIndex_of h0 h5]at h1;exact Option.some.inj h1
  exact item_listR pl.isList h0 (by omega) (by rw[hj];simpa using ew) fin hs
 ·have hj:(i+(aV.toArray.size:Int)).toNat=j:=by
   rw[seqIndex_neg (by omega) h4]at h1;rw[a7,<-hl];exact Option.some.inj h1
  exact subscriptTail_builtinR (x:=w) pl.isList.typeIs slot_list_getitem.lookup
   (wpAny_getItem_list_neg (Q:=fun r s'=>r=w/\EP X pins σ Q r s') pl.isList (by omega) (by rw[a7]<;>omega) (by omega) (by rw[hj];simpa using ew) ⟨rfl,fin⟩) hs
theorem zI:HK X (M_ X.K):=by
 intro value slice pins s σ H x y v u Q I rx ry h hs;obtain⟨p,xs,i,z,rfl,rfl,hq,he,q⟩:=h;cases rx;obtain⟨t,rfl⟩:=ry;obtain⟨aV,r,pl,hz⟩:=I.tuple hq;obtain⟨j,h1,h2,h3,h4,h5⟩:=sv he;obtain⟨w,ew,j7⟩:=r.get h2;have hl:=r.length;have hn:=oQ;have fin:EP X pins σ Q w s:=⟨z,H,I,j7,q⟩;exact subscriptTail_builtinR (x:=w) pl.typeIs gS.lookup
  (getItem_tuple (j:=j) (Q:=fun r s'=>r=w/\EP X pins σ Q r s') pl (by omega) (by omega) (by rw[a7,<-hl];exact h1) (by simpa using ew) ⟨rfl,fin⟩) hs
theorem Fc:HK X M':=by
 intro value slice pins s σ H x y v u Q I rx ry h hs;obtain⟨z,i,c,rfl,rfl,hz,he,q⟩:=h;obtain⟨t,rfl⟩:=rx;obtain⟨t',rfl⟩:=ry;obtain⟨j,h1,h2,h3,h4,h5⟩:=sv he;have hl:z.cps.toList.length=z.length:=by simp[Str.length]
 rw[hl]at h1 h4 h5;have hn:=oQ;exact tail_any (typeIs_str s z t) slot_str_getitem.lookup (getItem_str (c:=c) (by
  have e1:decide (i< -(2 ^63:Int))=false:=cw (by omega);have e2:decide (i>=2 ^63)=false:=cw (by omega);rw[e1,e2,kX]) (by rw[h1];simpa using h2) ⟨.str ⟨#[c]⟩,H,I.tok _,⟨_,rfl⟩,q⟩) hs
theorem DU(v:Int)(n d:Nat):max 0 (min (if v<0 then v+n else v) (n:Int))=((HT.cU n d (some v):Nat):Int):=by
 rw[<-HT.sq];by_cases hv:v<0
 ·rw[ae hv,ae hv];omega
 ·rw[ai hv,ai hv];omega
theorem sx(lo hi:Option Int)(n:Nat):(sliceBounds lo hi none n).1=((HT.cU n 0 lo:Nat):Int)/\(sliceBounds lo hi none n).2.1=((HT.cU n n hi:Nat):Int)/\(sliceBounds lo hi none n).2.2=1:=by
 refine⟨?_,?_,rfl⟩
 ·cases lo with
  |none=>rfl
  |some i=>exact(DU i n 0)
 ·cases hi with
  |none=>rfl
  |some i=>exact(DU i n n)
theorem qw(aV:List Value)(lo hi:Option Int):slicePick aV.toArray lo hi none=((aV.drop (HT.cU aV.length 0 lo)).take (HT.cU aV.length aV.length hi - HT.cU aV.length 0 lo)).toArray:=by
 obtain⟨h1,h2,h3⟩:=sx lo hi aV.toArray.size;unfold slicePick;rw[h1,h2,h3];simp only[sliceRange_one,pick_run,a7]<;>rfl
def Na(K:PySem.W.Frag):V->Option Int->Option Int->Hp->VK->Prop:=fun x lo hi H Q=>∃a xs,x=.ref a/\iF K H a xs/\∀p,H p=none->Q (.ref p) (upd H p (.lst (uc xs lo hi)))
theorem B6:HJ X (Na X.K):=by
 intro pins s σ H x v vl vu lo hi sl Q I rx hs pl pu h;obtain⟨a,xs,rfl,hx,q⟩:=h;cases rx;obtain⟨aV,r,ht,hz⟩:=I.list hx;have hlen:=r.length;refine⟨"list",_,slot_list_getitem.lookup,ht.isList.typeIs,?_⟩;refine wpAny_getItem_list_slice ht.isList hs pl pu .none (by simp) ?_ (by rw[a7]<;>omega)
 rw[qw,<-hlen];refine⟨.ref s.heap.objs.size,_,I.laid (t':=s.toks) (o:=.lst (uc xs lo hi)) (fun b ob q=>aQ _ q) (aB _) ?_,rfl,q _ (I.bB.fresh (aB _))⟩;exact⟨a6 (mH xs lo hi) hz,_,0,(r.drop (HT.cU xs.length 0 lo)).take (HT.cU xs.length xs.length hi - HT.cU xs.length 0 lo),bg _ rfl⟩
theorem cV.or {f:Value}{r r':List V->Hp->VK->Prop}(h:cV X f r)(h':cV X f r'):cV X f (fun xs H Q=>r xs H Q\/r' xs H Q):=by
 intro pins s σ H xs us Q I rs q;rcases q with q|q
 ·exact h pins s σ H xs us Q I rs q
 ·exact h' pins s σ H xs us Q I rs q
theorem lq:cV X (.type "list") (fun xs H Q=>∃p ys,xs=[.ref p]/\(iF X.K H p ys\/i6 X.K H p ys)/\∀l,H l=none->Q (.ref l) (upd H l (.lst ys))):=by
 intro pins s σ H xs us Q I r h;obtain⟨p,ys,rfl,hq,q⟩:=h;obtain⟨u,rfl,rx⟩:=vals1 r;cases rx;have fin:∀(aV:List Value),Vals ys aV->ys.length<=sizeLine->∀(h':Heap) (c':Nat),(∀b o',s.heap.get? b=some o'->h'.get? b=some o')->
   h'.get? s.heap.objs.size=some {cls:=.type "list",dict:=none,data:=.seq aV.toArray c',slots:=#[]}->EP X pins σ Q (.ref s.heap.objs.size) {s with heap:=h'}:=fun aV r' hz h' c' kp e=>
  ⟨.ref s.heap.objs.size,_,I.laid (t':=s.toks) kp (aB _) (show bI X.prog X.w _ h' _ (.lst ys)from⟨hz,aV,c',r',e⟩),rfl,q _ (I.bB.fresh (aB _))⟩
 rcases hq with hq|hq
 ·obtain⟨aV,r',pl,hz⟩:=I.list hq;have hlen:=r'.length;obtain⟨o,ho,hc,n,hd⟩:=pl.isList;exact call_list_seq p (.inl rfl) ho hc hd (fun h' c' kp e=>fin aV r' hz h' c' kp e) (by simp only[a7]<;>omega)
 ·obtain⟨aV,r',pl,hz⟩:=I.tuple hq;have hlen:=r'.length;obtain⟨o,ho,hc,n,hd⟩:=pl;exact call_list_seq p (.inr rfl) ho hc hd (fun h' c' kp e=>fin aV r' hz h' c' kp e) (by simp only[a7]<;>omega)
theorem jX:cV X (.type "tuple") (fun xs H Q=>∃p ys,xs=[.ref p]/\((iF X.K H p ys/\∀l,H l=none->Q (.ref l) (upd H l (.tup ys)))\/(i6 X.K H p ys/\Q (.ref p) H))):=by
 intro pins s σ H xs us Q I r h;obtain⟨p,ys,rfl,h⟩:=h;obtain⟨u,rfl,rx⟩:=vals1 r;cases rx;rcases h with⟨hq,q⟩|⟨hq,q⟩
 ·obtain⟨aV,r',pl,hz⟩:=I.list hq;have hlen:=r'.length;refine call_tuple_list pl.isList (fun h' kp=>?_) (by simp only[a7]<;>omega);have I1:Inv X pins σ H {s with heap:=h'}:=I.kept (t':=s.toks) kp;have I2:Inv X pins σ (upd H h'.objs.size (.tup ys)) {s with heap:=h'.push {cls:=.type "tuple",data:=.seq aV.toArray}}:=
   I1.laid (t':=s.toks) (fun b o e=>aQ _ e) (aB _) (show bI X.prog X.w _ _ _ (.tup ys)from⟨hz,aV,r',i5.new _ _⟩)
  exact⟨.ref h'.objs.size,_,I2,rfl,q _ (I1.bB.fresh (aB _))⟩
 ·obtain⟨aV,r',pl,hz⟩:=I.tuple hq;exact call_tuple_same pl ⟨.ref p,H,I,rfl,q⟩
def Pp(K:PySem.W.Frag)(T:String)(x:V)(H:Hp):Prop:=match x with
 |.str _=>T="str"
 |.int _=>T="int"
 |.ref p=>(T="list"/\∃xs,iF K H p xs)\/(T="tuple"/\∃o,K.lookup p=some o/\o.cls=.type "tuple"/\o.dict=none)\/
   (T="dict"/\((∃ah,H p=some (.dK ah))\/∃ah,H p=some (.dT ah)))\/(T="set"/\∃S n,H p=some (.set S n))
 |_=>False
theorem Fd{pins:List (Addr×Obj)}{σ:St}{H:Hp}{s:Shared}{T:String}{x:V}{v:Value}(I:Inv X pins σ H s)(r:RelV x v)(ty:Pp X.K T x H):
  s.TypeIs v T/\∀a,v=.ref a->∃ob,s.heap.get? a=some ob/\ob.dict=none:=by
 cases x with
 |str z=>
  obtain⟨t,rfl⟩:=r;cases(show T="str"from ty);exact⟨typeIs_str s z t,fun _ e=>nomatch e⟩
 |int i=>
  obtain⟨t,rfl⟩:=r;cases(show T="int"from ty);exact⟨typeIs_int s i t,fun _ e=>nomatch e⟩
 |ref p=>
  cases r;rcases ty with⟨rfl,xs,hq⟩|⟨rfl,o,hk,hc,hd⟩|⟨rfl,hk⟩|⟨rfl,S,n,hk⟩
  ·obtain⟨aV,_,pl,_⟩:=I.list hq;refine⟨pl.isList.typeIs,fun a e=>?_⟩;cases e;obtain⟨o,n,e,c,hd,_⟩:=pl;exact⟨o,e,hd⟩
  ·refine⟨⟨o,I.r_ p o hk,hc⟩,fun a e=>?_⟩;cases e;exact⟨o,I.r_ _ o hk,hd⟩
  ·have z:∃o,s.heap.get? p=some o/\o.ExactDict:=by
    rcases hk with⟨ah,hk⟩|⟨ah,hk⟩
    ·obtain⟨_,_,_,_,o,_,_,e,ex,_⟩:=I.bB p _ hk;exact⟨o,e,ex⟩
    ·obtain⟨_,_,_,_,o,_,_,e,ex,_⟩:=I.bB p _ hk;exact⟨o,e,ex⟩
   obtain⟨o,e,ex⟩:=z;refine⟨⟨o,e,ex.1⟩,fun a e2=>?_⟩;cases e2;exact⟨o,e,ex.2.1⟩
  ·obtain⟨o,_,_,_,e,ex,_⟩:=I.bB p _ hk;refine⟨⟨o,e,ex.1⟩,fun a e2=>?_⟩;cases e2;exact⟨o,e,ex.2.1⟩
 |_=>exact False.elim ty
def QL(K:PySem.W.Frag)(T:String)(r:V->List V->Hp->VK->Prop)(to:TE)(t:TA):TE:=fun σ H Q=>to σ H fun x H1=>Pp K T x H1/\t σ H1 fun xs H2=>r x xs H2 Q
variable {o e:Expr}{es:List Expr}{to:TE}{t:TA}{name:Str}{apos bj:Pos}{T id:String}{r:V->List V->Hp->VK->Prop}
theorem zJ(pa:PlainAttrs T)(slot:Slot T name id)(B7:typeOf (.builtin id)=pure (.type "method_descriptor"))(hm:HL X id r)(ho:PE X o to)(ha:PA X (e::es) t)
  (lr:attributeBase o name X.env (eval o X.env)=eval o X.env:=by rfl)
  (Nb:((backTo bj (starEach (e::es) X.env)).all (fun x=>!x.1)&&(backToKw bj (keywordEach [] X.env)).all (fun x=>x.1.isSome)
   &&decide ((e::es).length+([]:List Keyword).length+(if([]:List Keyword).isEmpty then 0 else 1)<30))=true:=by rfl)
  (gv:(apos.endLine==bj.line)=true:=by rfl) (hs:starEach (e::es) X.env=(false,eval e X.env)::starEach es X.env:=by rfl) (Fe:(backTo bj (starEach es X.env)).any (·.1)=false:=by rfl):
  PE X (.Call (.Attribute o name apos) (e::es) [] bj) (QL X.K T r to t):=by
 intro pins s σ H Q I h;refine wpAny_Call_method_late lr Nb gv rfl (cn (ho pins s σ H _ I h) fun v s1 ⟨x,H1,I1,r1,ty,q1⟩=>?_);obtain⟨h1,h2⟩:=Fd I1 r1 ty;refine⟨T,id,pa,slot,B7,h1,h2,?_⟩;have hA:=ha bj pins s1 σ H1 _ I1 q1;rw[hs]at hA⊢;refine og (by show(false||(backTo bj (starEach es X.env)).any (·.1))=false;rw[Fe]<;>rfl) (ou ?_);exact cn hA fun us s2 ⟨vs,H2,I2,r2,q2⟩=>hm pins s2 σ H2 x vs v us Q I2 r1 r2 q2
end
end L2
namespace L2
open PySem PySem.Spec PyProof.Rows
def L7(X:Cx)(id:String)(r:V->List V->Hp->VK->Prop):Prop:=
 ∀(pins:List (Addr×Obj)) (s:Shared) (σ:St) (H:Hp) (x:V) (xs:List V) (v:Value) (us:List Value) (Q:VK),Inv X pins σ H s->RelV x v->Vals xs us->r x xs H Q->
  wpAny (model X.prog X.w) X.A (call (.builtin id) (v::us)) (EP X pins σ Q) X.xe s
theorem Vals.one:∀{x:V} {us:List Value},Vals [x] us->∃u,us=[u]/\RelV x u
 |_,_,.cons r .nil=>⟨_,rfl,r⟩
theorem Vals.rep {xs:List V}{us:List Value}(h:Vals xs us):∀k:Nat,Vals (List.replicate k xs).flatten (List.replicate k us).flatten
 |0=>.nil
 |k+1=>by
  rw[gY,gY,jB,jB];exact Vals.append h (Vals.rep h k)
theorem foldl_rep(aV:List Value):∀(k:Nat) (acc:List Value),
  List.foldl (fun x1 x2=>x1++x2) acc.toArray (List.replicate k aV.toArray)=(acc++(List.replicate k aV).flatten).toArray
 |0,acc=>by simp
 |k+1,acc=>by
  have e:acc.toArray++aV.toArray=(acc++aV).toArray:=by simp
  have e2:(acc++aV)++(List.replicate k aV).flatten=acc++(List.replicate (k+1) aV).flatten:=by
   rw[gY,jB,kF]
  rw[<-e2,<-foldl_rep aV k (acc++aV),<-e,gY,List.foldl_cons]
section
variable {X:Cx}{pins:List (Addr×Obj)}{σ:St}{H:Hp}{s:Shared}{l b:Addr}{xs ys zs:List V}
theorem Inv.Nc {aV t4:List Value}{n:Nat}{f:Array Value->Array Value}{t':Nat}(I:Inv X pins σ H s)(hH:H l=some (.lst xs))
  (e:s.heap.get? l=some {cls:=.type "list",data:=.seq aV.toArray n}) (hf:f aV.toArray=t4.toArray) (hv:Vals ys t4) (hz:ys.length<=sizeLine):
  Inv X pins σ (upd H l (.lst ys)) {s with heap:=s.heap.update l (Obj.mapSeq f),toks:=t'}:=by
 have q:=PySem.IsL.update e f;rw[hf]at q;refine I.write (x:=l) (e:=l) (by rw[hH];exact trivial) (.inl rfl) (fun b' u hb hu=>(kC s.heap (Obj.mapSeq f) (bt hb)).trans hu) ⟨_,q⟩ ?_
 exact⟨hz,t4,_,hv,q⟩
theorem Inv.Ff {aV:List Value}{t':Nat}(I:Inv X pins σ H s)(hv:Vals ys aV)(hz:ys.length<=sizeLine):
  Inv X pins σ (upd H s.heap.objs.size (.lst ys)) {s with heap:=s.heap.push {cls:=.type "list",data:=.seq aV.toArray},toks:=t'}:=
 I.laid (fun _ _ q=>aQ _ q) (aB _) ⟨hz,aV,0,hv,bg _ rfl⟩
theorem Inv.fresh (I:Inv X pins σ H s):H s.heap.objs.size=none:=I.bB.fresh (aB _)
theorem Inv.B8 (I:Inv X pins σ H s)(hH:H l=some (.lst xs)):xs.length<=sizeLine/\∃(aV:List Value) (n:Nat),Vals xs aV/\xs.length=aV.length/\s.heap.get? l=some {cls:=.type "list",data:=.seq aV.toArray n}:=by
 obtain⟨z,aV,n,r,e⟩:=I.bB l _ hH;exact⟨z,aV,n,r,r.length,e⟩
theorem zK{n:Nat}(h:n<=sizeLine):Builtin.List.listTooLong n=false:=by
 unfold Builtin.List.listTooLong;exact cw (by omega)
end
section
variable {X:Cx}
def xb:V->List V->Hp->VK->Prop:=fun x vs H Q=>∃l xs y,x=.ref l/\vs=[y]/\H l=some (.lst xs)/\xs.length<sizeLine/\Q .a_ (upd H l (.lst (xs++[y])))
theorem cI:L7 X "list.append" xb:=by
 intro pins s σ H x vs v us Q I rx rv h;obtain⟨l,xs,y,rfl,rfl,hH,hz,q⟩:=h;cases rx;obtain⟨u,rfl,ru⟩:=rv.one;obtain⟨z,aV,n,r,hl,e⟩:=I.B8 hH;refine i3 eR ⟨_,e,rfl⟩ F.entry_list_append (F.args_list_append_2 _ _) (PySem.list_append l aV.toArray n u (by rw[a7];omega)) ⟨e,?_⟩;refine⟨.a_,_,I.Nc (t4:=aV++[u]) hH e (by simp) (r.append (.cons ru .nil)) ?_,rfl,q⟩;rw[bP,fN];omega
def Nd:R2:=fun x y H Q=>∃l b xs zs,x=.ref l/\y=.ref b/\H l=some (.lst xs)/\H b=some (.lst zs)/\xs.length+zs.length<=sizeLine/\∀p,H p=none->Q (.ref p) (upd H p (.lst (xs++zs)))
theorem Fg:l8 X (binaryOp .Add) Nd:=by
 intro pins s σ H x y v u Q I rx ry h;obtain⟨l,b,xs,zs,rfl,rfl,hH,hB,hz,q⟩:=h;cases rx;cases ry;obtain⟨z,aV,n,r,hl,e⟩:=I.B8 hH;obtain⟨z2,BZ,n2,r2,Nf,e2⟩:=I.B8 hB;refine PySem.P.add_list e e2 ?_ (by rw[a7,a7];omega)
 have ea:aV.toArray++BZ.toArray=(aV++BZ).toArray:=by simp
 rw[ea];exact⟨.ref _,_,I.Ff (t':=s.toks) (r.append r2) (by rw[bP];omega),rfl,q _ I.fresh⟩
def Ng:R2:=fun x y H Q=>∃l k xs,x=.ref l/\y=.int k/\H l=some (.lst xs)/\-(2 ^63)<=k/\k<2 ^63/\xs.length*k.toNat<=sizeLine/\
 ∀p,H p=none->Q (.ref p) (upd H p (.lst (List.replicate k.toNat xs).flatten))
theorem len_rep{α:Type}(xs:List α)(k:Nat):(List.replicate k xs).flatten.length=k*xs.length:=by
 induction k with
 |zero=>simp
 |succ k ih=>rw[gY,jB,bP,ih,Nat.succ_mul,Nat.add_comm]
theorem Fh:l8 X (binaryOp .Mult) Ng:=by
 intro pins s σ H x y v u Q I rx ry h;obtain⟨l,k,xs,rfl,rfl,hH,h1,h2,hz,q⟩:=h;cases rx;obtain⟨t,rfl⟩:=ry;obtain⟨z,aV,n,r,hl,e⟩:=I.B8 hH;have hlen:aV.toArray.size*k.toNat<=sizeLine:=by rw[a7,<-hl];exact hz
 have Nh:¬aV.toArray.size*k.toNat>(2 ^63 - 1)/8:=by
  have:(sizeLine:Nat)<=(2 ^63 - 1)/8:=by decide
  omega
 have Ni:¬(!Builtin.List.listFitsIndex k)=true:=by
  rw[fitsIndex_both h1 h2];exact dU
 have IV:¬Builtin.List.listTooLong (aV.toArray.size*k.toNat)=true:=by
  rw[zK hlen];exact dU
 have zL:List.foldl (fun x1 x2=>x1++x2) #[] (List.replicate (if aV.toArray.isEmpty=true then 0 else k.toNat) aV.toArray)=(List.replicate k.toNat aV).flatten.toArray:=by
  have f0:∀m:Nat,List.foldl (fun x1 x2=>x1++x2) #[] (List.replicate m aV.toArray)=(List.replicate m aV).flatten.toArray:=fun m=>by
   have:=foldl_rep aV m [];rw[List.nil_append]at this;exact this
  rw[f0];cases aV with
  |nil=>simp
  |cons a r'=>rw[ai (by simp)]
 refine wpAny_binaryOp_repeat_ref (T:="list") (U:="int") (by decide) ⟨_,e,rfl⟩ (fun s'=>typeIs_int s' k t) noFill_list_mul F.fills_int_mul F.slot_int_rmul repeat_list F.slot_int_index.lookup
  (i3 F.slot_int_rmul (typeIs_int s k t) F.entry_int_rmul (F.args_int_rmul_2 _ _) (int___rmul___int_list k t l aV.toArray n)
   ⟨e,rfl,⟨_,e,rfl⟩,i3 F.slot_list_mul ⟨_,e,rfl⟩ F.entry_list_mul (F.args_list_mul_2 _ _) (AutoListH.list___mul___list_int_3 l aV.toArray n k t Ni Nh IV) ⟨e,?_⟩⟩)
 rw[zL];exact⟨.ref _,_,I.Ff (t':=s.toks) (r.rep k.toNat) (by rw[len_rep,Nat.mul_comm];exact hz),rfl,q _ I.fresh⟩
end
end L2
namespace L2
open PySem PySem.Spec PyProof.Rows
section
variable {κ:Type}[DecidableEq κ]
def f'(ah:List (κ×V))(k:κ):Option V:=(ah.find? fun kv=>decide (kv.1=k)).map (·.2)
def putK(ah:List (κ×V))(k:κ)(v:V):List (κ×V):=
 if(ah.any fun kv=>decide (kv.1=k))=true then ah.map (fun kv=>if kv.1=k then(kv.1,v)else kv)else ah++[(k,v)]
def mI(ah:List (κ×V))(k:κ):List (κ×V):=ah.filter fun kv=>decide (kv.1≠k)
theorem i8{p:κ×V}{r:List (κ×V)}{k:κ}(e:p.1=k):f' (p::r) k=some p.2:=by simp[f',cW,e]
theorem i9{p:κ×V}{r:List (κ×V)}{k:κ}(e:¬p.1=k):f' (p::r) k=f' r k:=by simp[f',cW,e]
theorem ud(k:κ):∀ah:List (κ×V),(ah.any fun kv=>decide (kv.1=k))=(f' ah k).isSome
 |[]=>rfl
 |p::r=>by
  rw[eX];by_cases e:p.1=k
  ·simp only[i8 e,dZ e,Bool.true_or,kE]
  ·rw[i9 e,cw e,Bool.false_or];exact ud k r
theorem i_(ah:List (κ×V))(k:κ)(v:V):(putK ah k v).length<=ah.length+1:=by
 unfold putK;split
 ·rw[aE];omega
 ·rw[bP,a5,oJ];omega
theorem iQ.gy {o:Option V}{u:Option Value}(r:iQ o u):o.isSome=u.isSome:=by
 cases o with
 |none=>cases u with
  |none=>rfl
  |some _=>exact(show False from r).elim
 |some _=>cases u with
  |none=>exact(show False from r).elim
  |some _=>rfl
theorem KV.val {ah:List (κ×V)}{vs:List (κ×Value)}(r:KV ah vs)(k:κ):iQ (f' ah k) (valueAt vs k):=by
 unfold KV at r
 induction r with
 |nil=>exact True.intro
 |@cons p q ps qs h t ih=>
  obtain⟨h1,h2⟩:=h;by_cases e:p.1=k
  ·have e':q.1=k:=h1.symm.trans e;have b:valueAt (q::qs) k=some q.2:=by simp[valueAt,cW,e']
   rw[i8 e,b];exact h2
  ·have e':¬q.1=k:=fun z=>e (h1.trans z);have b:valueAt (q::qs) k=valueAt qs k:=by simp[valueAt,cW,e']
   rw[i9 e,b];exact ih
theorem KV.any {ah:List (κ×V)}{vs:List (κ×Value)}(r:KV ah vs)(k:κ):(ah.any fun kv=>decide (kv.1=k))=vs.any fun kv=>decide (kv.1=k):=by
 unfold KV at r
 induction r with
 |nil=>rfl
 |cons h t ih=>rw[eX,eX,ih,h.1]
theorem KV.Fj {ah:List (κ×V)}{vs:List (κ×Value)}(r:KV ah vs)(k:κ){y:V}{u:Value}(ry:RelV y u):
  KV (ah.map fun kv=>if kv.1=k then(kv.1,y)else kv) (vs.map fun kv=>if kv.1=k then(kv.1,u)else kv):=by
 unfold KV at r⊢
 induction r with
 |nil=>exact .nil
 |@cons p q ps qs h t ih=>
  rw[aK,aK];refine .cons ?_ ih
  obtain⟨h1,h2⟩:=h;by_cases e:p.1=k
  ·rw[ae e,ae (h1.symm.trans e)];exact⟨h1,ry⟩
  ·rw[ai e,ai (fun z=>e (h1.trans z))];exact⟨h1,h2⟩
theorem KV.put {ah:List (κ×V)}{vs:List (κ×Value)}(r:KV ah vs)(k:κ){y:V}{u:Value}(ry:RelV y u):KV (putK ah k y) (stored vs k u):=by
 unfold putK stored;rw[r.any k];by_cases e:(vs.any fun kv=>decide (kv.1=k))=true
 ·rw[ae e,ae e];exact r.Fj k ry
 ·rw[ai e,ai e];exact Paired.snoc r ⟨rfl,ry⟩
theorem KV.drop {ah:List (κ×V)}{vs:List (κ×Value)}(r:KV ah vs)(k:κ):KV (mI ah k) (without vs k):=by
 unfold KV at r⊢;unfold mI without
 induction r with
 |nil=>exact .nil
 |@cons p q ps qs h t ih=>
  obtain⟨h1,h2⟩:=h;rw[List.filter_cons,List.filter_cons];by_cases e:p.1=k
  ·have a:¬decide (p.1≠k)=true:=by simp[e]
   have b:¬decide (q.1≠k)=true:=by simp[h1.symm.trans e]
   rw[ai a,ai b];exact ih
  ·have e':¬q.1=k:=fun z=>e (h1.trans z);have a:decide (p.1≠k)=true:=by simp[e]
   have b:decide (q.1≠k)=true:=by simp[e']
   rw[ae a,ae b];exact .cons ⟨h1,h2⟩ ih
theorem KV.keys {ah:List (κ×V)}{vs:List (κ×Value)}(r:KV ah vs):ah.map (·.1)=vs.map (·.1):=by
 unfold KV at r
 induction r with
 |nil=>rfl
 |cons h t ih=>rw[aK,aK,ih,h.1]
theorem KV.length {ah:List (κ×V)}{vs:List (κ×Value)}(r:KV ah vs):ah.length=vs.length:=Paired.length r
theorem zM(ah:List (κ×V))(k:κ):(mI ah k).length<=ah.length:=List.length_filter_le _ _
end
theorem lu{P:Program}{w:World}{k:Key}{u:Value}(r:RelV (kV k) u):(aO P w).is k u=true:=by
 cases k with
 |inl i=>obtain⟨t,e⟩:=(show∃t,u=Value.int i t from r);subst e;exact tT P w i t
 |inr x=>obtain⟨t,e⟩:=(show∃t,u=Value.str x t from r);subst e;exact tU P w x t
theorem qR{P:Program}{w:World}:∀{ks:List Key} {us:List Value},Vals (ks.map kV) us->ItemsAre (aO P w) ks us
 |[],_,r=>by rw[List.map_nil]at r;cases r;exact .nil
 |k::ks,_,r=>by
  rw[aK]at r;cases r with
  |cons h t=>exact .cons (lu h) (qR t)
abbrev KT(H:Hp):List (List Key×V)->List (List Key×Addr×Value)->Prop:=Paired fun p q=>p.1=q.1/\H q.2.1=some (.tup (p.1.map kV))/\RelV p.2 q.2.2
theorem KT.val {H:Hp}{ah:List (List Key×V)}{xs:List (List Key×Addr×Value)}(r:KT H ah xs)(k:List Key):iQ (f' ah k) ((atKey xs k).map (·.2)):=by
 induction r with
 |nil=>exact True.intro
 |@cons p q ps qs h t ih=>
  obtain⟨h1,_,h2⟩:=h;by_cases e:p.1=k
  ·have e':q.1=k:=h1.symm.trans e;have b:atKey (q::qs) k=some q.2:=by simp[atKey,cW,e']
   rw[i8 e,b];exact h2
  ·have e':¬q.1=k:=fun z=>e (h1.trans z);have b:atKey (q::qs) k=atKey qs k:=by simp[atKey,cW,e']
   rw[i9 e,b];exact ih
theorem KT.Fj {H:Hp}{ah:List (List Key×V)}{xs:List (List Key×Addr×Value)}(r:KT H ah xs)(k:List Key){y:V}{u:Value}(ry:RelV y u):
  KT H (ah.map fun kv=>if kv.1=k then(kv.1,y)else kv) (xs.map (putAt k u)):=by
 induction r with
 |nil=>exact .nil
 |@cons p q ps qs h t ih=>
  rw[aK,aK];refine .cons ?_ ih
  obtain⟨h1,h2,h3⟩:=h;unfold putAt;by_cases e:p.1=k
  ·rw[ae e,ae (h1.symm.trans e)];exact⟨h1,h2,ry⟩
  ·rw[ai e,ai (fun z=>e (h1.trans z))];exact⟨h1,h2,h3⟩
theorem KT.put {H:Hp}{ah:List (List Key×V)}{xs:List (List Key×Addr×Value)}(r:KT H ah xs)(k:List Key){b:Addr}{y:V}{u:Value}(hb:H b=some (.tup (k.map kV)))(ry:RelV y u):
  KT H (putK ah k y) (storedH xs k b u):=by
 have e:(ah.any fun kv=>decide (kv.1=k))=(atKey xs k).isSome:=by
  rw[ud,(r.val k).gy,ox]
 unfold putK storedH;rw[e];by_cases q:(atKey xs k).isSome=true
 ·rw[ae q,ae q];exact r.Fj k ry
 ·rw[ai q,ai q];exact Paired.snoc r ⟨rfl,hb,ry⟩
theorem KT.keeps {H H':Hp}{ah:List (List Key×V)}{xs:List (List Key×Addr×Value)}(r:KT H ah xs)(ht:∀b ys,H b=some (.tup ys)->H' b=some (.tup ys)):KT H' ah xs:=
 Paired.Ey r fun _ _ z=>⟨z.1,ht _ _ z.2.1,z.2.2⟩
section
variable {P:Program}{w:World}{H:Hp}{h:Heap}{a:Addr}
theorem DV{u:HO}(ok:j4 P w H h)(e:Rd H a u):bI P w H h a u:=e.ok ok
theorem oV{ah:List (Key×V)}(ok:j4 P w H h)(e:Rd H a (.dK ah)):ah.length<=sizeLine/\(a==sysModules)=false/\∃vs,KV ah vs/\h.DictOf (aO P w) a vs:=
 show bI P w H h a (.dK ah)from DV ok e
theorem xf{ah:List (Key×V)}(ok:j4 P w H h)(e:H a=some (.dK ah)):ah.length<=sizeLine/\(a==sysModules)=false/\∃vs,KV ah vs/\h.DictOf (aO P w) a vs:=oV ok (.inl e)
theorem oW{ks:List Key}(ok:j4 P w H h)(e:H a=some (.tup (ks.map kV))):(tupleKind (aO P w)).is h ks a:=by
 obtain⟨_,aV,r,o,h1,h2,n,h3,_⟩:=(show bI P w H h a (.tup (ks.map kV))from ok a _ e);exact⟨o,aV.toArray,n,h1,h2,h3,by simpa using qR r⟩
theorem qS{ah:List (List Key×V)}(ok:j4 P w H h)(e:Rd H a (.dT ah)):ah.length<=sizeLine/\(a==sysModules)=false/\
  ∃xs,KT H ah xs/\h.DictOfH (tupleKind (aO P w)) a xs:=by
 obtain⟨z,y,xs,r,o,es,ep,h1,h2,h3,h4,h5⟩:=(show bI P w H h a (.dT ah)from DV ok e);refine⟨z,y,xs,r,o,es,ep,h1,h2,h3,h4,fun x hx=>?_,h5⟩;have all:∀{l:List (List Key×V)} {m:List (List Key×Addr×Value)},KT H l m->∀x∈m,(tupleKind (aO P w)).is h x.1 x.2.1:=by
  intro l m q
  induction q with
  |nil=>intro x hx;exact nomatch hx
  |@cons p q ps qs hq t ih=>
   intro x hx;rcases aY.mp hx with e|hx
   ·subst e;exact oW ok (by rw[<-hq.1];exact hq.2.1)
   ·exact ih x hx
 exact all r x hx
theorem IW{ah:List (List Key×V)}(ok:j4 P w H h)(e:H a=some (.dT ah)):ah.length<=sizeLine/\(a==sysModules)=false/\
  ∃xs,KT H ah xs/\h.DictOfH (tupleKind (aO P w)) a xs:=qS ok (.inl e)
end
def m7(H:Hp)(a:Addr)(y:V)(r:Option V):Prop:=
 (∃ah k,Rd H a (.dK ah)/\y=kV k/\r=f' ah k)\/∃ah k b,Rd H a (.dT ah)/\y=.ref b/\H b=some (.tup (k.map kV))/\r=f' ah k
def ue(H:Hp)(a:Addr)(y v:V)(H':Hp):Prop:=
 (∃ah k,H a=some (.dK ah)/\y=kV k/\ah.length<sizeLine/\H'=upd H a (.dK (putK ah k v)))\/
 ∃ah k b,H a=some (.dT ah)/\y=.ref b/\H b=some (.tup (k.map kV))/\ah.length<sizeLine/\H'=upd H a (.dT (putK ah k v))
theorem m7.k {H:Hp}{a:Addr}{ah:List (Key×V)}{k:Key}(e:H a=some (.dK ah)):m7 H a (kV k) (f' ah k):=.inl ⟨ah,k,.inl e,rfl,rfl⟩
theorem m7.t {H:Hp}{a b:Addr}{ah:List (List Key×V)}{k:List Key}(e:H a=some (.dT ah))(eb:H b=some (.tup (k.map kV))):m7 H a (.ref b) (f' ah k):=.inr ⟨ah,k,b,.inl e,rfl,eb,rfl⟩
theorem ue.k {H:Hp}{a:Addr}{ah:List (Key×V)}{k:Key}{v:V}(e:H a=some (.dK ah))(hl:ah.length<sizeLine):ue H a (kV k) v (upd H a (.dK (putK ah k v))):=.inl ⟨ah,k,e,rfl,hl,rfl⟩
theorem ue.t {H:Hp}{a b:Addr}{ah:List (List Key×V)}{k:List Key}{v:V}(e:H a=some (.dT ah))(eb:H b=some (.tup (k.map kV)))(hl:ah.length<sizeLine):
  ue H a (.ref b) v (upd H a (.dT (putK ah k v))):=.inr ⟨ah,k,b,e,rfl,eb,hl,rfl⟩
section
variable {X:Cx}{pins:List (Addr×Obj)}{σ:St}{H:Hp}{s:Shared}{a:Addr}{y v:V}{u r:Value}{o:Option V}{A:Around}{E:Value->Shared->Prop}
theorem Inv.big (I:Inv X pins σ H s):sysModules<s.heap.objs.size:=by
 have h:mainGlobals<s.heap.objs.size:=(I.mod.glob.keeps I.bk).lt;exact fS (by decide) h
theorem qT{Q:Value->Shared->Prop}(hu:A.units+1<cLine)(I:Inv X pins σ H s)(g:m7 H a y (some v))(ry:RelV y u)(h:∀w' s',Inv X pins σ H s'->RelV v w'->Q w' s'):
  wpAny (model X.prog X.w) A (getItem (.ref a) u) Q E s:=by
 rcases g with⟨ah,k,e,ey,l⟩|⟨ah,k,b,e,ey,eb,l⟩
 ·subst ey;obtain⟨z,hd,vs,rel,dd⟩:=oV I.bB e;obtain⟨w',hw,j7⟩:=iQ.some_of (v:=v) (o:=valueAt vs k) (by rw[l];exact rel.val k);exact wpAny_getItem_of (lu ry) dd.mapOf hw (h w' _ (I.tok _) j7)
 ·subst ey;cases(show u=Value.ref b from ry);obtain⟨z,hd,xs,rel,dd⟩:=qS I.bB e;obtain⟨w',hw,j7⟩:=iQ.some_of (v:=v) (o:=(atKey xs k).map (·.2)) (by rw[l];exact rel.val k);obtain⟨p,hp,HM⟩:=Option.map_eq_some_iff.mp hw;refine wpAny_getItem_heap (kQ hu) (oW I.bB eb) dd hp ?_
  rw[HM];exact h w' _ (I.tok _) j7
theorem Nj{Q:Value->Shared->Prop}(hu:A.units+1<cLine)(I:Inv X pins σ H s)(g:m7 H a y o)(ry:RelV y u)(h:∀s',Inv X pins σ H s'->Q (.bool o.isSome) s'):
  wpAny (model X.prog X.w) A (compareOp .In u (.ref a)) Q E s:=by
 rcases g with⟨ah,k,e,ey,l⟩|⟨ah,k,b,e,ey,eb,l⟩
 ·subst ey;obtain⟨z,hd,vs,rel,dd⟩:=oV I.bB e;refine wpAny_in_of (lu ry) hd dd.mapOf ?_
  rw[<-(rel.val k).gy,<-l];exact h _ (I.tok _)
 ·subst ey;cases(show u=Value.ref b from ry);obtain⟨z,hd,xs,rel,dd⟩:=qS I.bB e;refine wpAny_in_heap (kQ hu) (oW I.bB eb) hd dd ?_
  have q:=(rel.val k).gy;rw[ox]at q;rw[<-q,<-l];exact h _ (I.tok _)
theorem xg{Q:Value->Shared->Prop}(hu:A.units+1<cLine)(I:Inv X pins σ H s)(g:m7 H a y o)(ry:RelV y u)(h:∀s',Inv X pins σ H s'->Q (.bool (!o.isSome)) s'):
  wpAny (model X.prog X.w) A (compareOp .NotIn u (.ref a)) Q E s:=by
 rcases g with⟨ah,k,e,ey,l⟩|⟨ah,k,b,e,ey,eb,l⟩
 ·subst ey;obtain⟨z,hd,vs,rel,dd⟩:=oV I.bB e;refine wpAny_notIn_of (lu ry) hd dd.mapOf ?_
  rw[<-(rel.val k).gy,<-l];exact h _ (I.tok _)
 ·subst ey;cases(show u=Value.ref b from ry);obtain⟨z,hd,xs,rel,dd⟩:=qS I.bB e;refine wpAny_notIn_heap (kQ hu) (oW I.bB eb) hd dd ?_
  have q:=(rel.val k).gy;rw[ox]at q;rw[<-q,<-l];exact h _ (I.tok _)
theorem lx{h':Heap}{t':Nat}{ob:HO}(I:Inv X pins σ H s)(mu:Ii (H a))(hs:Heap.SameBut a s.heap h')(he:∃q,h'.get? a=some q)(new:bI X.prog X.w (upd H a ob) h' a ob):
  Inv X pins σ (upd H a ob) {s with heap:=h',toks:=t'}:=
 I.write (x:=a) (e:=a) mu (.inl rfl) (fun b q hb z=>(hs.2 b hb).trans z) he new
theorem oX{P:Program}{w:World}{H':Hp}{h':Heap}{ah:List (Key×V)}{vs:List (Key×Value)}(z:ah.length<=sizeLine)(hd:(a==sysModules)=false)(rel:KV ah vs)(dd:h'.DictOf (aO P w) a vs):
  bI P w H' h' a (.dK ah):=⟨z,hd,vs,rel,dd⟩
theorem yz{H':Hp}{Q:Unit->Shared->Prop}(hu:A.units+1<cLine)(I:Inv X pins σ H s)(g:ue H a y v H')(ry:RelV y u)(rv:RelV v r)(h:∀s',Inv X pins σ H' s'->Q () s'):
  wpAny (model X.prog X.w) A (setItem (.ref a) u r) Q E s:=by
 rcases g with⟨ah,k,e,ey,l,eH⟩|⟨ah,k,b,e,ey,eb,l,eH⟩
 ·subst ey eH;obtain⟨z,hd,vs,rel,dd⟩:=xf I.bB e;have hz:vs.length<=sizeLine:=by rw[<-rel.length];exact z
  have hl:(putK ah k v).length<=sizeLine:=by have:=i_ ah k v;omega
  refine wpAny_setItem_pairs (hsz:=hz) (lu ry) dd fun h' xh hs=>h _ ?_
  have he:∃q,h'.get? a=some q:=let⟨q,_,_,hq,_⟩:=xh;⟨q,hq⟩
  exact lx I (by rw[e];exact True.intro) hs he (oX hl hd (rel.put k rv) xh)
 ·subst ey eH;cases(show u=Value.ref b from ry);obtain⟨z,hd,xs,rel,dd⟩:=IW I.bB e;have hz:xs.length<=sizeLine:=by rw[<-Paired.length rel];exact z
  have hl:(putK ah k v).length<=sizeLine:=by have:=i_ ah k v;omega
  refine wpAny_setItem_heap (hsz:=hz) (kQ hu) (oW I.bB eb) dd fun h' xh hs=>h _ ?_
  obtain⟨q,es,ep,hq,h2,h3,h4,_,h5⟩:=xh;refine lx I (by rw[e];exact True.intro) hs ⟨q,hq⟩ ⟨hl,hd,_,(rel.put k eb rv).keeps fun c ys ec=>?_,q,es,ep,hq,h2,h3,h4,h5⟩;rw[aA (Ie ec e (fun z=>nomatch z))];exact ec
end
section
variable {X:Cx}{pins:List (Addr×Obj)}{σ:St}{H:Hp}{s:Shared}{a:Addr}{ah:List (Key×V)}{k:Key}{u:Value}{A:Around}{E:Value->Shared->Prop}
theorem IX{v:V}{more:List Value}{Q:Value->Shared->Prop}(I:Inv X pins σ H s)(e:H a=some (.dK ah))(ry:RelV (kV k) u)(l:f' ah k=some v)(hm:more=[]\/∃x,more=[x])
  (h:∀w' s',Inv X pins σ (upd H a (.dK (mI ah k))) s'->RelV v w'->Q w' s'):wpAny (model X.prog X.w) A (call (.builtin "dict.pop") (.ref a::u::more)) Q E s:=by
 obtain⟨z,hd,vs,rel,dd⟩:=xf I.bB e;obtain⟨w',hw,j7⟩:=iQ.some_of (v:=v) (o:=valueAt vs k) (by rw[<-l];exact rel.val k);have hp:(keyPart u).isSome=true:=by
  cases k with
  |inl i=>obtain⟨t,q⟩:=(show∃t,u=Value.int i t from ry);subst q;rfl
  |inr x=>obtain⟨t,q⟩:=(show∃t,u=Value.str x t from ry);subst q;rfl
 have ha:argsOk "dict.pop" ⟨.ref a::u::more,[]⟩:=by
  rcases hm with q|⟨x,q⟩
  ·subst q;exact PySem.F.args_dict_pop_2 _ _
  ·subst q;exact PySem.F.args_dict_pop_3 _ _ _
 refine call_meetsIn n6 dd.typeIs PySem.F.entry_dict_pop ha (meets_dict_pop_there (aO X.prog X.w) a (lu ry) more hm hp)
  ⟨vs,w',dd,by rw[<-rel.length];exact z,hw,fun h' xh hs=>h w' _ ?_ j7⟩
 have he:∃q,h'.get? a=some q:=let⟨q,_,_,hq,_⟩:=xh;⟨q,hq⟩
 exact lx I (by rw[e];exact True.intro) hs he (oX (a6 (zM ah k) z) hd (rel.drop k) xh)
theorem Fl{r:Value}{Q:Value->Shared->Prop}(I:Inv X pins σ H s)(e:H a=some (.dK ah))(ry:RelV (kV k) u)(l:f' ah k=none)(h:∀s',Inv X pins σ H s'->Q r s'):
  wpAny (model X.prog X.w) A (call (.builtin "dict.pop") [.ref a,u,r]) Q E s:=by
 obtain⟨z,hd,vs,rel,dd⟩:=xf I.bB e;have hn:valueAt vs k=none:=iQ.none_of (by rw[<-l];exact rel.val k);have hp:(keyPart u).isSome=true:=by
  cases k with
  |inl i=>obtain⟨t,q⟩:=(show∃t,u=Value.int i t from ry);subst q;rfl
  |inr x=>obtain⟨t,q⟩:=(show∃t,u=Value.str x t from ry);subst q;rfl
 exact call_meetsIn n6 dd.typeIs PySem.F.entry_dict_pop (PySem.F.args_dict_pop_3 _ _ _) (meets_dict_pop_default (aO X.prog X.w) a (lu ry) hd hp r) ⟨vs,dd,hn,h _ (I.tok _)⟩
theorem IY{Q:Value->Shared->Prop}(I:Inv X pins σ H s)(e:Rd H a (.dK ah))(h:∀t s',Inv X pins σ H s'->Q (.int ah.length t) s'):wpAny (model X.prog X.w) A (call (.builtin "len") [.ref a]) Q E s:=by
 obtain⟨z,hd,vs,rel,dd⟩:=oV I.bB e;refine call_len_dict hd dd (by rw[<-rel.length];rw[cX]at z;omega) ?_
 rw[<-rel.length];exact h _ _ (I.tok _)
end
def B9(i:Expr):Prop:=∀ov iv,subscripted i false ov iv=operate [ov,iv] (getItem ov iv)
theorem B_{prog:Program}{w:World}{A:Around}{E:Value->Shared->Prop}{s:Shared}{env:Env}{value slice:Expr}{pos:Pos}{T id:String}{Q:Value->Shared->Prop}
  (hl:typeLookup (.type T) "__getitem__"=pure (some (.builtin id))) (hs:B9 slice)
  (h:wpAny (model prog w) A (eval value env) (fun o ba=>wpAny (model prog w) A (eval slice env) (fun i l_=>l_.TypeIs o T/\wpAny (model prog w) A (getItem o i) Q E l_) E ba) E s):
  wpAny (model prog w) A (eval (.Subscript value slice pos) env) Q E s:=by
 refine Subscript_ (cy h (fun o ba dC=>cy dC (fun i l_ uf=>?_) fun _ _ x=>x) fun _ _ x=>x);obtain⟨hT,uf⟩:=uf;unfold subscriptTail;refine ab ?_
 rw[getitemInPython_of_ne hT.not_modules];refine ab (wpAny_specialOf hT hl ?_);have fin:wpAny (model prog w) A (subscripted slice false o i) (fun r ug=>wpAny (model prog w) A (letTemporaryGo value o r>>=fun _=>pure r) Q E ug) E l_:=by
  rw[hs o i];exact wpAny_operating (cy uf (fun r ug Ca=>ab (wpAny_letTemporaryGo (ak Ca))) fun _ _ x=>x)
 first
  |exact ak (ab fin)
  |exact ab (ak (ab fin))
  |exact ab fin
theorem mJ{X:Cx}{pins:List (Addr×Obj)}{σ:St}{H:Hp}{s:Shared}{a:Addr}{y:V}{o:Option V}(I:Inv X pins σ H s)(g:m7 H a y o):s.TypeIs (.ref a) "dict":=by
 rcases g with⟨ah,k,e,_,_⟩|⟨ah,k,b,e,_,_,_⟩
 ·obtain⟨_,_,vs,_,dd⟩:=oV I.bB e;exact dd.typeIs
 ·obtain⟨_,_,xs,_,dd⟩:=qS I.bB e;exact dd.typeIs
def IZ(td ty tv:TE):TS:=fun D σ H=>tv σ H fun v H1=>td σ H1 fun x H2=>ty σ H2 fun y H3=>∃a H4,x=.ref a/\ue H3 a y v H4/\D.nx σ H4
section
variable {X:Cx}{o i e value:Expr}{pos pos' qv:Pos}{td ty tv:TE}
theorem xi(hu:X.A.units+1<cLine)(ho:PE X o td)(hi:PE X i ty)(hv:PE X value tv)(hs:swapsWith value (some (.Subscript o i pos')) pos.line X.env=pure false):
  PS X (.Assign [.Subscript o i pos'] value pos) (IZ td ty tv):=by
 intro pins s σ H D I h;refine wpAny_Assign_Subscript (cn (hv pins s σ H _ I h) fun r s1 ⟨v,H1,I1,rv,q1⟩=>cn (ho pins s1 σ H1 _ I1 q1) fun u s2 ⟨x,H2,I2,rx,q2⟩=>cn (hi pins s2 σ H2 _ I2 q2) fun iv s3 ⟨y,H3,I3,ry,a,H4,ex,g,q3⟩=>?_) hs;subst ex;obtain rfl:u=Value.ref a:=rx;exact yz hu I3 g ry rv fun s4 I4=>⟨σ,H4,I4,q3⟩
end
theorem uh{P:Program}{w:World}{H:Hp}(h:Heap)(hb:sysModules<h.objs.size):bI P w H (h.push {cls:=.type "dict",data:=.dict #[]}) h.objs.size (.dK []):=
 ⟨bZ _,gV.mpr (bt (bc hb)),[],.nil,Heap.DictOf.new h⟩
theorem zN{P:Program}{w:World}{H:Hp}(h:Heap)(hb:sysModules<h.objs.size):bI P w H (h.push {cls:=.type "dict",data:=.dict #[]}) h.objs.size (.dT []):=
 ⟨bZ _,gV.mpr (bt (bc hb)),[],.nil,_,#[],0,bg _ rfl,⟨rfl,rfl,rfl⟩,rfl,rfl,List.nodup_nil⟩
def Fm:TE:=fun _ H Q=>∀p,H p=none->Q (.ref p) (upd H p (.dK []))
def Fo:TE:=fun _ H Q=>∀p,H p=none->Q (.ref p) (upd H p (.dT []))
section
variable {X:Cx}{pos:Pos}
theorem zO:PE X (.Dict [] [] pos) Fm:=fun pins s σ H Q I h=>
 wpAny_Dict_empty ⟨.ref s.heap.objs.size,_,I.laid (a:=s.heap.objs.size) (o:=.dK []) (t':=s.toks) (fun _ _ q=>aQ _ q) (aB _) (uh s.heap I.big),rfl,h _ (I.bB.fresh (aB _))⟩
theorem zP:PE X (.Dict [] [] pos) Fo:=fun pins s σ H Q I h=>
 wpAny_Dict_empty ⟨.ref s.heap.objs.size,_,I.laid (a:=s.heap.objs.size) (o:=.dT []) (t':=s.toks) (fun _ _ q=>aQ _ q) (aB _) (zN s.heap I.big),rfl,h _ (I.bB.fresh (aB _))⟩
end
def oY:List (TE×TE)->St->Hp->(List (V×V)->Hp->Prop)->Prop
 |[],_,H,Q=>Q [] H
 |(tk,tv)::r,σ,H,Q=>tk σ H fun x H1=>tv σ H1 fun y H2=>oY r σ H2 fun ps H3=>Q ((x,y)::ps) H3
abbrev VV:List (V×V)->List (Value×Value)->Prop:=Paired fun p q=>RelV p.1 q.1/\RelV p.2 q.2
def HN(X:Cx)(pos:Pos)(keys:List (Option Expr))(values:List Expr)(sy:List (TE×TE)):Prop:=
 ∀(pins:List (Addr×Obj)) (s:Shared) (σ:St) (H:Hp) (Q:List (V×V)->Hp->Prop),Inv X pins σ H s->oY sy σ H Q->
  wpAny (model X.prog X.w) X.A (evalPairs (pairTrees keys values X.env pos)) (fun vs s'=>∃ps H',Inv X pins σ H' s'/\VV ps vs/\Q ps H') X.xe s
theorem xj{X:Cx}{pos:Pos}:HN X pos [] [] []:=fun pins s σ H Q I h=>pairTrees_nil_walk ⟨[],H,I,.nil,h⟩
theorem ui{X:Cx}{pos:Pos}{k v:Expr}{ks:List (Option Expr)}{vs:List Expr}{tk tv:TE}{sy:List (TE×TE)}(hk:PE X k tk)(hv:PE X v tv)(hr:HN X pos ks vs sy):
  HN X pos (some k::ks) (v::vs) ((tk,tv)::sy):=fun pins s σ H Q I h=>
 pairTrees_cons_walk (cn (hk pins s σ H _ I h) fun u s1 ⟨x,H1,I1,rx,q1⟩=>cn (hv pins s1 σ H1 _ I1 q1) fun w2 s2 ⟨y,H2,I2,ry,q2⟩=>
  cn (hr pins s2 σ H2 _ I2 q2) fun ws s3 ⟨ps,H3,I3,rel,q3⟩=>⟨(x,y)::ps,H3,I3,.cons ⟨rx,ry⟩ rel,q3⟩)
def dH(ah more:List (Key×V)):List (Key×V):=more.foldl (fun acc kv=>putK acc kv.1 kv.2) ah
theorem KV.merge:∀{more:List (Key×V)} {rs:List (Key×Value)} {ah:List (Key×V)} {vs:List (Key×Value)},KV more rs->KV ah vs->KV (dH ah more) (merged vs rs):=by
 intro more rs ah vs r;unfold KV at r
 induction r generalizing ah vs with
 |nil=>intro q;exact q
 |@cons p q ps qs h t ih=>
  intro r0;have e:KV (putK ah p.1 p.2) (stored vs q.1 q.2):=by
   have:=r0.put p.1 h.2;rw[<-h.1];exact this
  exact ih e
theorem d4:∀(more ah:List (Key×V)),(dH ah more).length<=ah.length+more.length
 |[],ah=>by show ah.length<=ah.length+0;omega
 |p::r,ah=>by
  have h1:=d4 r (putK ah p.1 p.2);have h2:=i_ ah p.1 p.2;show(dH (putK ah p.1 p.2) r).length<=_;rw[a5];omega
theorem oZ{P:Program}{w:World}:∀{ah:List (Key×V)} {ws:List (Value×Value)},VV (ah.map fun kv=>(kV kv.1,kv.2)) ws->∃rs,Carries (aO P w) ws rs/\KV ah rs
 |[],_,r=>by rw[List.map_nil]at r;cases r;exact⟨[],True.intro,.nil⟩
 |p::ah,_,r=>by
  rw[aK]at r;cases r with
  |@cons a b as bs h t=>
   obtain⟨rs,c,q⟩:=oZ (P:=P) (w:=w) t;obtain⟨b1,b2⟩:=b;exact⟨(p.1,b2)::rs,⟨lu h.1,rfl,c⟩,.cons ⟨rfl,h.2⟩ q⟩
def I0(sy:List (TE×TE)):TE:=fun σ H Q=>∀p,H p=none->oY sy σ (upd H p (.dK [])) fun ps H2=>H2 p=some (.dK [])/\∃ah:List (Key×V),ps=ah.map (fun kv=>(kV kv.1,kv.2))/\ah.length<=15/\Q (.ref p) (upd H2 p (.dK (dH [] ah)))
theorem xk{X:Cx}{pos:Pos}{keys:List (Option Expr)}{values:List Expr}{sy:List (TE×TE)}(h:HN X pos keys values sy)(o4:keys.all (·.isSome)=true)(hl:keys.length=values.length)(h0:keys≠[])
  (yA:keys.length<=15):PE X (.Dict keys values pos) (I0 sy):=by
 intro pins s σ H Q I q;have hn:=I.bB.fresh (aB s.heap.objs.size);have I1:=I.laid (a:=s.heap.objs.size) (o:=.dK []) (h':=s.heap.push {cls:=.type "dict",data:=.dict #[]}) (t':=s.toks) (fun _ _ q=>aQ _ q) (aB _) (uh s.heap I.big);refine wpAny_Dict_walk (knd:=aO X.prog X.w) o4 hl h0 yA (cn (h pins _ σ _ _ I1 (q _ hn)) fun ws s2 ⟨ps,H2,I2,rel,e,ah,ep,lk,q2⟩=>?_);subst ep;obtain⟨rs,c,rk⟩:=oZ (P:=X.prog) (w:=X.w) rel;obtain⟨z,hd,Sz,r0,dd⟩:=xf I2.bB e;cases r0;refine⟨rs,c,dd,fun h' xh hs=>⟨.ref s.heap.objs.size,_,?_,rfl,q2⟩⟩;have hz:(dH [] ah).length<=sizeLine:=by
  have h1:=d4 ah [];rw[oJ]at h1;rw[cX];omega
 have he:∃q,h'.get? s.heap.objs.size=some q:=let⟨q,_,_,hq,_⟩:=xh;⟨q,hq⟩
 exact lx I2 (by rw[e];exact True.intro) hs he (oX hz hd (rk.merge .nil) xh)
structure M2(X:Cx)(o:Expr)(m:Str)(apos:Pos)(e f:Expr)(bj:Pos):Prop where
 base:attributeBase o m X.env (eval o X.env)=eval o X.env
 QM:((backTo bj (starEach [e,f] X.env)).all (fun x=>!x.1)&&(backToKw bj (keywordEach [] X.env)).all (fun x=>x.1.isSome)
  &&decide (([e,f]:List Expr).length+([]:List Keyword).length+(if([]:List Keyword).isEmpty then 0 else 1)<30))=true
 line:(apos.endLine==bj.line)=true
 trees:backTo bj (starEach [e,f] X.env)=[(false,eval e X.env),(false,eval f X.env)]
def Pq(H:Hp)(a:Addr):Prop:=(∃ah,Rd H a (.dK ah))\/∃ah,Rd H a (.dT ah)
theorem Fp{X:Cx}{pins:List (Addr×Obj)}{σ:St}{H:Hp}{s:Shared}{a:Addr}(I:Inv X pins σ H s)(d:Pq H a):
  s.TypeIs (.ref a) "dict"/\(∀b,Value.ref a=.ref b->∃ob,s.heap.get? b=some ob/\ob.dict=none)/\(a==sysModules)=false:=by
 rcases d with⟨ah,e⟩|⟨ah,e⟩
 ·obtain⟨_,hd,vs,_,dd⟩:=oV I.bB e;refine⟨dd.typeIs,fun b q=>?_,hd⟩;cases q;obtain⟨ob,_,_,h1,h2,_⟩:=dd;exact⟨ob,h1,h2.2.1⟩
 ·obtain⟨_,hd,xs,_,dd⟩:=qS I.bB e;refine⟨dd.typeIs,fun b q=>?_,hd⟩;cases q;obtain⟨ob,_,_,h1,h2,_⟩:=dd;exact⟨ob,h1,h2.2.1⟩
def Fq(td ty tx:TE):TE:=fun σ H Q=>td σ H fun x H1=>∃a,x=.ref a/\Pq H1 a/\ty σ H1 fun y H2=>tx σ H2 fun z H3=>∃ah k,H3 a=some (.dK ah)/\y=kV k/\
 (∀v,f' ah k=some v->Q v (upd H3 a (.dK (mI ah k))))/\(f' ah k=none->Q z H3)
section
variable {X:Cx}{o e f:Expr}{apos bj:Pos}{td ty tx:TE}
theorem zQ(ho:PE X o td)(he:PE X e ty)(hf:PE X f tx)(m:M2 X o "pop" apos e f bj):PE X (.Call (.Attribute o "pop" apos) [e,f] [] bj) (Fq td ty tx):=by
 intro pins s σ H Q I h;refine wpAny_Call_method m.base m.QM m.line PySem.F.plainAttrs_dict n6 PySem.F.type_dict_pop (cn (ho pins s σ H _ I h) fun u s1 ⟨x,H1,I1,rx,a,ex,d,q1⟩=>?_);subst ex;obtain rfl:u=Value.ref a:=rx;obtain⟨t1,t2,_⟩:=Fp I1 d;refine⟨t1,t2,?_⟩;rw[m.trees];refine og rfl (ou (oH (cn (he pins s1 σ H1 _ I1 q1) fun iv s2 ⟨y,H2,I2,ry,q2⟩=>
  oH (cn (hf pins s2 σ H2 _ I2 q2) fun fv s3 ⟨z,H3,I3,rz,ah,k,ea,ey,q3,q4⟩=>Calls.spliced_nil ?_))))
 subst ey;cases l:f' ah k with
 |some v=>exact IX I3 ea ry l (.inr ⟨fv,rfl⟩) fun w' s4 I4 j7=>⟨v,_,I4,j7,q3 v l⟩
 |none=>exact Fl I3 ea ry l fun s4 I4=>⟨z,H3,I4,rz,q4 l⟩
end
end L2
namespace Pr
open PySem PySem.W PySem.Calls PyProof.Rows
theorem m8{P:Params}{h:Heap}:∀(ns:List Int) (vs:List Value),WellAll P h vs (ns.map WData.int)->IntsAre vs ns:=by
 intro ns
 induction ns with
 |nil=>
  intro vs w;rw[List.map_nil]at w;cases w;exact .nil
 |cons n ns ih=>
  intro vs w;rw[aK]at w;cases w with
  |cons a b=>
   cases a;exact .cons _ _ (ih _ b)
theorem yB{l:OpenLaw}{n:Nat}(hn:l.most=some n){P:Params}{h:Heap}{args:List WData}{vals:List Value}
  (Cb:l.row.toRowW.claim.pre args=true) (Nk:WellAll P h vals args):
  ∃a vs ns,vals=[Value.ref a]/\args=[WData.list (ns.map WData.int)]/\h.get? a=some {cls:=.type "list",data:=.seq vs.toArray}/\IntsAre vs ns/\ns.length<=n:=by
 have QN:WShape.hasAll [] args [.list .int]=true:=(pre_splitW Cb).1;have hc:l.pre.holds [] {args:=args}=true:=(pre_splitW Cb).2;obtain⟨d,r,rfl,h1,h2⟩:=hasAllW_cons QN;obtain rfl:=hasAllW_nil h2;obtain⟨xs,rfl,h3⟩:=hasW_list h1;obtain⟨ns,rfl⟩:=items_int h3;have hlen:ns.length<=n:=by
  unfold OpenLaw.pre at hc;have h4:(WTm.not (.lt (.lit (.int (n:Int))) (.len (.arg 0)))).holds [] {args:=[.list (ns.map .int)]}=true:=by
   have h4:=(holds_andW hc).1;rw[hn]at h4;exact h4
  have h5:=condW_of h4 (w_not (w_lt w_lit (w_len_list (w_arg rfl))));rw[aE]at h5;refine oB fun q=>?_
  have q':(n:Int)<((ns.length:Nat):Int):=by omega
  first
   |(rw[dZ q']at h5;exact absurd h5 (by decide))
   |(simp at h5;omega)
 cases Nk with
 |cons w1 w2=>
  cases w2;cases w1 with
  |list ho o4=>exact⟨_,_,ns,rfl,rfl,ho,m8 ns _ o4,hlen⟩
theorem yC(l:OpenLaw)(args:List WData):l.row.toRowW.claim.post args (.bool true) args=true:=
 postW_of (r:=l.row.toRowW) (X:=(true==true))
  (show WShape.has [] (.bool true) .bool=true by first|rfl|decide|simp[WShape.has,WShape.arms,WShape.armsAll])
  (show(WTm.eq .res (.lit (.bool true))).value [] {args:=args,res:=some (.bool true),after:=args}=some (.bool (true==true))from w_eq_bool (w_res rfl) w_lit) rfl
theorem uj{l:OpenLaw}{n:Nat}{q:Program}{loose:List Str}{XP:(Str->Option Value)->Heap->Prop}{YP:World->Heap->Prop}{d:DefRec}
  (hn:l.most=some n) (I_:d.params.defaults=[])
  (call:∀(w:World) (eu ba:Shared) (mg mb:Str->Option Value) (fa:Addr) (o:Obj) (pm cd doc:Value) (a:Addr) (vs:List Value) (ns:List Int),
   Ground q loose [] XP w eu mg mb ba.heap->YP w ba.heap->
   ba.heap.get? fa=some o->o.data=.func (docDef d.name d.params d.body d.scope pm cd doc)->ba.heap.CodeRec cd d.name->mg d.name=some (.ref fa)->
   ba.heap.get? a=some {cls:=.type "list",data:=.seq vs.toArray}->IntsAre vs ns->ns.length<=n->ba.gens=#[]->
   codeAny (model l.prog w) callerA (.call (.ref fa) ⟨[.ref a],[]⟩) (fun r s'=>r=.ok (.ret (.bool true))/\OldK ba.heap s'.heap/\s'.os=ba.os/\AllBare s'.gens) ba):
  WalkO q loose XP YP l.row.toRowW d [] (fun f vs=>PySem.call f vs):=by
 intro w eu ba mg mb G Y fa o pm cd doc dV kV ho hd vx hD Ja hg args vals as Cb QQ SA Nk SD;obtain rfl:dV=.none:=Dflts.none hD I_;obtain rfl:kV=.none:=Dflts.noKw hD;obtain⟨a,vs,ns,rfl,rfl,Fs,hints,hlen⟩:=yB hn Cb Nk;refine enter_call (hX (call w eu ba mg mb fa o pm cd doc a vs ns G Y ho (fd_plain hd) vx Ja Fs hints hlen hg) fun r s' hq=>?_);obtain⟨rfl,h2,h3,h4⟩:=hq;exact⟨.inl ⟨.bool true,.bool true,[],rfl,fun _=>rfl,.bool true,yC l _,fun _=>⟨List.Pairwise.nil,fun _ hm=>(nomatch hm)⟩⟩,h2,h3,h4⟩
end Pr
namespace L2
open PySem PySem.Spec PyProof.Rows
theorem mh:∀{vs:List Value} {ns:List Int},IntsAre vs ns->Vals (ns.map V.int) vs
 |_,_,.nil=>.nil
 |_,_,.cons n t h=>.cons ⟨t,rfl⟩ (mh h)
def Ft(H:Hp):Prop:=∀b,H b=none\/∃o xs,H b=some (.gp o (.lst xs))
end L2
namespace L2
open PySem PySem.Spec PyProof.Rows
def nJ(s:Stmt):Arguments:=match s with
 |.FunctionDef _ a _ _ _ _ _ _ _ _=>a
 |_=>{posonlyargs:=[],args:=[],vararg:=none,kwonlyargs:=[],kw_defaults:=[],kwarg:=none,defaults:=[]}
def cz(s:Stmt):List Stmt:=match s with
 |.FunctionDef _ _ b _ _ _ _ _ _ _=>b
 |_=>[]
def aC(s:Stmt):Scope:=match s with
 |.FunctionDef _ _ _ _ _ _ sc _ _ _=>sc
 |_=>{kind:=.function,names:=[],isGenerator:=false,isCoroutine:=false}
abbrev j8:t7:=fun _ _ _ _ _ _=>False
abbrev E0:XK:=fun _ _ _=>False
theorem zR{X:Cx}:Passes j8 X E0:=fun _ _ _ _ _ _ _ h=>h.elim
structure qg(K:PySem.W.Frag)(x qual:Str)(st:Stmt)(f:Addr)(fd:FuncData):Prop where
 ex:∃(oc:Value) (od:Option Addr) (kV doc pm:Value) (an:Option Addr) (cC ct:Value) (zF:Array (Option Value)),
  fd=PySem.W.fnOf x qual (nJ st) (cz st) (aC st) .none kV doc pm an cC ct/\K.lookup f=some ⟨oc,od,.func fd,zF⟩/\PySem.W.codeIn K cC qual=true
 kp:PySem.W.keepIn K (.ref f)=true
section
variable {P:Program}{w:World}{K:PySem.W.Frag}{mg:Str->Option Value}{base:Heap}
theorem qg.ok {x qual:Str}{st:Stmt}{f:Addr}{fd:FuncData}{N ps:List Str}{k:Nat}{sp:Sp}(F:qg K x qual st f fd)(S:cY N ps (aC st))(len:∀vs H Q E,sp vs H Q E->vs.length=ps.length)
  (fm:∀(cC:Value) (A:Around) (outer:List Env) (s:Shared) (H:Hp) (vs:List V) (Q:VK) (E:XK),bq k (A.deeper (envOfC qual (aC st) s.heap.objs.size f cC))->sp vs H Q E->
   ∃t,jQ (iR j8 P w K mg base N qual (aC st) f cC A outer s H E).zi (cz st) t/\t {nx:=fun _ H'=>Q .a_ H',rt:=Q} (start N vs) H):cf P w K mg base j8 (k+1) f fd ps sp:=by
 obtain⟨oc,od,kV,doc,pm,an,cC,ct,zF,rfl,lk,vx⟩:=F.ex;refine DQ lk vx S len fun A outer s H vs Q E hr DR=>?_
 obtain⟨t,h,q⟩:=fm cC A outer s H vs Q E hr DR;exact⟨t,h.zi,q⟩
theorem qg.binds {x qual:Str}{st:Stmt}{f:Addr}{fd:FuncData}{ps:List Str}(F:qg K x qual st f fd)
  (h:∀(kV doc pm:Value) (an:Option Addr) (cC ct:Value) (us:List Value),us.length=ps.length->bindArgs (PySem.W.fnOf x qual (nJ st) (cz st) (aC st) .none kV doc pm an cC ct) ⟨us,[]⟩=pure (ps.zip us)):Binds K fd ps []:=by
 obtain⟨oc,od,kV,doc,pm,an,cC,ct,zF,rfl,lk,vx⟩:=F.ex;exact .all (h kV doc pm an cC ct)
end
theorem aG{A:Around}{k:Nat}(hr:bq k A):A.units+1<cLine:=kN (Nat.add_le_add_left (by decide:1<=64) _) hr.units
theorem Fu{A B:Prop}(h:B):if false=true then A else B:=by
 rw[ai dU];exact h
theorem Fv{A B:Prop}(h:A):if true=true then A else B:=by
 rw[ae rfl];exact h
def ar(H H':Hp):Prop:=∀b o,H b=some o->H' b=some o
theorem ar.refl (H:Hp):ar H H:=fun _ _ h=>h
theorem ar.trans {H H1 H2:Hp}(a:ar H H1)(b:ar H1 H2):ar H H2:=fun c o h=>b c o (a c o h)
theorem ar.free {H H':Hp}(e:ar H H'){l:Addr}(h:H' l=Option.none):H l=Option.none:=by
 cases q:H l with
 |none=>rfl
 |some o=>
  rw[e l o q]at h;cases h
theorem ar.seq {K:PySem.W.Frag}{H H':Hp}{a:Addr}{xs:List V}(e:ar H H')(h:iF K H a xs):iF K H' a xs:=by
 rcases h with(h|⟨o,h⟩)|h
 ·exact .inl (.inl (e _ _ h))
 ·exact .inl (.inr ⟨o,e _ _ h⟩)
 ·exact .inr h
end L2
namespace L2
open PySem PySem.Spec PyProof.Rows
theorem o5{α β:Type}{f:α->β->Sem (ForInStep β)}{g:β->α->β}:∀(l:List α) (c:β),(∀x∈l,∀c,f x c=pure (.yield (g c x)))->forIn l c f=(pure (l.foldl g c):Sem β)
 |[],c,_=>rfl
 |x::l,c,h=>by
  rw[List.forIn_cons,h x cg,pure_bind];exact o5 l _ fun y hy=>h y (bC _ hy)
def gb(env:Env)(cs:List (Str×Addr))(x:Str×NameKind):List (Str×Addr):=if x.2== .free then(x.1,(env.cells.lookup x.1).getD 0)::cs else cs
def vN(scope:Scope)(env:Env):List (Str×Addr):=scope.names.foldl (gb env) []
theorem ly{scope:Scope}{env:Env}(h:∀x∈scope.names,x.2=.free->∃c,env.cells.lookup x.1=some c):closureFor scope env=pure (vN scope env):=by
 simp only[closureFor];rw[o5 (g:=gb env) scope.names [] (fun x hx c=>by
  obtain⟨n,k⟩:=x;by_cases hk:k=.free
  ·subst hk;obtain⟨a,ha⟩:=h _ hx rfl;have gz:env.cells.lookup n=some a:=ha;simp[cellOf,gz,gb]
  ·have e:(k==NameKind.free)=false:=by simpa using hk
   simp[e,gb])]
 rfl
theorem o6{env:Env}:∀(names:List (Str×NameKind)) (acc:List (Str×Addr)),(∀x∈names,x.2=.free->∃c,env.cells.lookup x.1=some c)->(∀x c,acc.lookup x=some c->env.cells.lookup x=some c)->
  ∀x c,(names.foldl (gb env) acc).lookup x=some c->env.cells.lookup x=some c
 |[],_,_,ha,x,c,e=>ha x c e
 |(n,k)::r,acc,hf,ha,x,c,e=>by
  refine o6 r (gb env acc (n,k)) (fun y hy=>hf y (bC _ hy)) (fun y d ed=>?_) x c e;unfold gb at ed;by_cases hk:k=.free
  ·subst hk;obtain⟨a,hn⟩:=hf (n,.free) cg rfl;have LW:env.cells.lookup n=some a:=hn;simp only[bQ,if_true,LW,Option.getD_some,bD]at ed;split at ed
   ·rename_i hy;have:y=n:=by simpa using hy
    subst this;rw[LW];exact ed
   ·exact ha y d ed
  ·have e:(k==NameKind.free)=false:=by simpa using hk
   simp only[e,kO,i4]at ed;exact ha y d ed
theorem o7{env:Env}:∀(names:List (Str×NameKind)) (acc:List (Str×Addr)) (x:Str),((acc.lookup x).isSome=true\/(x,NameKind.free)∈names)->((names.foldl (gb env) acc).lookup x).isSome=true
 |[],_,_,h=>h.elim (fun z=>z) fun z=>absurd z (by simp)
 |(n,k)::r,acc,x,h=>by
  refine o7 r (gb env acc (n,k)) x ?_
  unfold gb;rcases h with h|h
  ·left;split
   ·rw[bD];split<;>simp_all
   ·exact h
  ·rcases aY.mp h with h|h
   ·left;cases h;simp[bD]
   ·exact .inr h
theorem j9{env:Env}:∀{names:List (Str×NameKind)} {x:Str} {k:NameKind},(names.map fun(n,k)=>if(k==NameKind.free&&env.scope.kind== .function&&env.kindOf n==some .cell)then(n,NameKind.cell)else(n,k)).lookup x=some k->
  names.lookup x=some k\/names.lookup x=some .free
 |[],_,_,h=>by simp at h
 |(n,j)::r,x,k,h=>by
  simp only[aK]at h;by_cases hx:x=n
  ·subst hx;by_cases hc:(j==NameKind.free&&env.scope.kind== .function&&env.kindOf x==some .cell)=true
   ·rw[ae hc]at h;simp only[a3,eZ]at hc;right;rw[bD,bQ,hc.1.1]
   ·rw[ai hc]at h;left;rw[bD,bQ]at h⊢;exact h
  ·have e:(x==n)=false:=by simpa using hx
   have h':(r.map fun(n,k)=>if(k==NameKind.free&&env.scope.kind== .function&&env.kindOf n==some .cell)then(n,NameKind.cell)else(n,k)).lookup x=some k:=by
    split at h<;>(rw[bD,e]at h;exact h)
   rcases j9 h' with z|z
   ·left;rw[bD,e];exact z
   ·right;rw[bD,e];exact z
theorem lz{env:Env}:∀{names:List (Str×NameKind)} {x:Str},names.lookup x=some .free->
  (names.map fun(n,k)=>if(k==NameKind.free&&env.scope.kind== .function&&env.kindOf n==some .cell)then(n,NameKind.cell)else(n,k)).lookup x=some .cell\/
  (names.map fun(n,k)=>if(k==NameKind.free&&env.scope.kind== .function&&env.kindOf n==some .cell)then(n,NameKind.cell)else(n,k)).lookup x=some .free
 |[],_,h=>by simp at h
 |(n,j)::r,x,h=>by
  simp only[aK];by_cases hx:x=n
  ·subst hx;rw[bD,bQ]at h;have hj:j=.free:=Option.some.inj h;by_cases hc:(j==NameKind.free&&env.scope.kind== .function&&env.kindOf x==some .cell)=true
   ·left;rw[ae hc,bD,bQ]
   ·right;rw[ai hc,bD,bQ,hj]
  ·have e:(x==n)=false:=by simpa using hx
   rw[bD,e]at h;rcases lz (env:=env) h with z|z
   ·left;split<;>(rw[bD,e];exact z)
   ·right;split<;>(rw[bD,e];exact z)
def lA(X:Cx)(scope:Scope)(N:List Str)(s:Shared)(H:Hp)(ex:List Addr):Cx where
 prog:=X.prog
 w:=X.w
 K:=X.K
 mg:=X.mg
 base:=X.base
 A:=X.A
 N:=N
 eu:=s
 tV:=H
 env:=compEnvC scope (vN scope X.env) s.heap.objs.size X.env
 outer:=X.stack
 stack:=X.stack
 ex:=ex
 fn:=fun _=>false
 calm:=X.calm
 pn:=[]
 xe:=fun _ _=>False
def Jb(N N':List Str)(ix:List (Option Nat))(sc scope:Scope):Bool:=
 decide (N'.length=ix.length)&&(N'.zip ix).all (fun p=>match p.2 with
  |none=>true
  |some j=>decide (N[j]?=some p.1)&&decide (scope.names.lookup p.1=some .free))&&
 scope.names.all (fun y=>y.2 != .cell&&(y.2 != .free||decide (sc.names.lookup y.1=some .cell))&&(y.2 != .local||decide (scope.names.lookup y.1=some .local)))&&(scope.kind== .function)
structure dI(X:Cx)(N':List Str)(ix:List (Option Nat))(scope:Scope):Prop where
 len:N'.length=ix.length
 free:∀(i:Nat) (x:Str) (j:Nat),N'[i]?=some x->ix[i]?=some (some j)->X.N[j]?=some x/\scope.names.lookup x=some .free
 zS:∀y∈scope.names,y.2≠ .cell
 cell:∀y∈scope.names,y.2=.free->X.env.scope.names.lookup y.1=some .cell
 loc:∀y∈scope.names,y.2=.local->scope.names.lookup y.1=some .local
 kind:scope.kind=.function
theorem dI.of {X:Cx}{N N':List Str}{ix:List (Option Nat)}{sc scope:Scope}(hN:X.N=N)(hs:X.env.scope=sc)(h:Jb N N' ix sc scope=true):dI X N' ix scope:=by
 unfold Jb at h;simp only[a3,fP,g7]at h;obtain⟨⟨⟨h1,h2⟩,h3⟩,h4⟩:=h;refine⟨h1,fun i x j e1 e2=>?_,fun y hy z=>?_,fun y hy z=>?_,fun y hy z=>?_,by simpa using h4⟩
 ·have m:(x,some j)∈N'.zip ix:=dS (i:=i) (by rw[List.getElem?_zip_eq_some];exact⟨e1,e2⟩);have q:=h2 _ m;simp only[a3,fP]at q;rw[hN];exact q
 ·have q:=(h3 y hy).1.1;rw[z]at q;simp at q
 ·have q:=(h3 y hy).1.2;rw[z]at q;simp only[oy,Bool.false_or,fP]at q;rw[hs];exact q
 ·have q:=(h3 y hy).2;rw[z]at q;simp only[oy,Bool.false_or,fP]at q;exact q
def d5(ix:List (Option Nat))(σ:St):St:=ix.map fun o=>o.bind fun j=>(σ[j]?).join
theorem vO{X:Cx}{N':List Str}{ix:List (Option Nat)}{scope:Scope}{pins:List (Addr×Obj)}{σ:St}{H:Hp}{s:Shared}{dC:Heap}{fp:List Addr}{tk:Nat}(L:dI X N' ix scope)(I:Inv X pins σ H s)
  (L8:dC.Ns s.heap.objs.size (fun _=>none)) (Cc:∀b o,s.heap.get? b=some o->dC.get? b=some o)
  (hf:∀b∈fp,l9 X pins H b) (QR:∀b∈fp,b<s.heap.objs.size):Inv (lA X scope N' s H fp) [] (d5 ix σ) H {s with heap:=dC,toks:=tk}:=by
 have o8:∀y∈scope.names,y.2=.free->∃c,X.env.cells.lookup y.1=some c:=fun y hy z=>I.ok.has y.1 (.inl (L.cell y hy z));have sub:∀x c,(vN scope X.env).lookup x=some c->X.env.cells.lookup x=some c:=o6 scope.names [] o8 (fun x c e=>by simp at e);have has:∀x,scope.names.lookup x=some .free->∃c,(vN scope X.env).lookup x=some c:=fun x e=>
  Option.isSome_iff_exists.mp (o7 scope.names [] x (.inr (fO e)))
 have HD:∀b∈fp,b∉la X.stack:=fun b hb z=>by
  obtain⟨_,f1,f2,_⟩:=hf b hb;rcases aY.mp (I.vw b z)with q|q
  ·exact f1 q
  ·exact f2 q
 refine⟨⟨I.ok.mod,L.kind,I.ok.glob,I.ok.blt,aB _,fun x y c e1 e2=>I.ok.inj x y c (sub x c e1) (sub y c e2),fun x hx=>?_,fun x c z=>absurd (show false=true from z) dU,I.ok.hd,I.ok.frames,.inl rfl,
   fun b hb=>⟨bc (QR b hb),fun x c e=>(hf b hb).2.2.2.2.1 x c (sub x c e)⟩,I.bs,a6 I.ok.BD I.sz,fun b o e hb=>?_,HD,I.stack,I.sd⟩,
  rfl,I.bare,Un.kept Cc,⟨_,L8,fun i x v e1 e2 e3=>?_⟩,fun x c e=>?_,I.fresh,fun x c e=>I.fU x c (sub x c e),fun p hp=>absurd (show p∈([]:List (Addr×Obj))from hp) (by simp),I.bB.kept Cc,?_⟩
 ·have hx:(relabel scope X.env).names.lookup x=some .cell\/(relabel scope X.env).names.lookup x=some .free:=hx;have wU:scope.names.lookup x=some .free:=by
   rcases hx with z|z
   ·rcases j9 z with q|q
    ·exact absurd rfl (L.zS _ (fO q))
    ·exact q
   ·rcases j9 z with q|q
    ·exact q
    ·exact q
  exact has x wU
 ·obtain⟨_,_,_,q,_⟩:=hf b hb;rcases q with q|q
  ·exact I.ok.zm b o e q
  ·exact absurd (bM (aH (I.ok.bs b o e).1) q) (cx _)
 ·
  unfold d5 at e2;rw[bb]at e2;cases eo:ix[i]? with
  |none=>rw[eo]at e2;cases e2
  |some o=>
   rw[eo]at e2;cases o with
   |none=>exact absurd (show(some none:Option (Option V))=some (some v)from e2) (by simp)
   |some j=>
    obtain⟨n1,n2⟩:=L.free i x j e1 eo;have L9:(σ[j]?).join=some v:=Option.some.inj (show some ((σ[j]?).join)=some (some v)from e2);have e4:σ[j]?=some (some v):=by
     cases q:σ[j]? with
     |none=>rw[q]at L9;cases L9
     |some z=>
      rw[q]at L9;have:z=some v:=L9;rw[this]
    have Jc:X.env.scope.names.lookup x=some .cell:=L.cell _ (fO n2) rfl;obtain⟨m,hn,hl⟩:=I.loc;obtain⟨u,r,l⟩:=hl j x v n1 e4 (.inr (.inl Jc));refine⟨u,r,?_⟩;rcases l with⟨k,_⟩|⟨k,c,ec,z⟩
    ·have k':X.env.scope.names.lookup x=some .local:=k;rw[Jc]at k';cases k'
    ·obtain⟨c',Ir⟩:=has x n2;have QU:c'=c:=by
      have q:=sub x c' Ir;rw[ec]at q;exact(Option.some.inj q).symm
     subst QU;refine .inr ⟨?_,c',Ir,?_⟩
     ·exact lz n2
     ·obtain⟨o',BE,Im⟩:=z;exact⟨o',Cc _ _ BE,Im⟩
 ·obtain⟨v,o,ho,hd⟩:=I.cell x c (sub x c e);exact⟨v,o,Cc _ _ ho,hd⟩
 ·show(d5 ix σ).length=N'.length;unfold d5;rw[aE];exact L.len.symm
end L2
namespace L2
open PySem PySem.Spec PyProof.Rows
abbrev xl(ifs:List Expr)(env:Env):Sem Bool:=forIn ifs true fun c r=>if r=true then do let ok<-isTrue c env (eval c env);pure (ForInStep.yield ok)else pure (ForInStep.yield r)
section
variable {prog:Program}{w:World}{A:Around}{R:Result->Shared->Prop}{s:Shared}
theorem Cd{elt target iter:Expr}{ifs:List Expr}{scope:Scope}{pos:Pos}{it acc:Value}{env:Env}(I:Nat->Shared->Prop)
  (turn:∀n s,I n s->wpAny (model prog w) A (pyNext it) (fun r ba=>match r with
   |none=>R (.ok .next) ba
   |some v=>wpAny (model prog w) A (letOwnedTupleGo target it v) (fun _ DW=>wpAny (model prog w) A (assign target env v) (fun _ l_=>
     wpAny (model prog w) A (xl ifs env) (fun ok ug=>
      if ok=true then wpAny (model prog w) A (eval elt env) (fun x Ce=>
       wpAny (model prog w) A (call (.builtin "list.append") [acc,x]) (fun _ Jd=>∃m,m<n/\I m Jd) (fun _ _=>False) Ce) (fun _ _=>False) ug
      else∃m,m<n/\I m ug) (fun _ _=>False) l_) (fun _ _=>False) DW) (fun _ _=>False) ba) (fun _ _=>False) s)
  (n:Nat) (h:I n s):codeAny (model prog w) A (.compLoop (.ListComp elt [⟨target,iter,ifs,0⟩] scope pos) 0 it acc env) R s:=by
 refine codeAny_loop rfl I (fun n s hI=>?_) n h;show wpAny _ A ((compTurn (.ListComp elt [⟨target,iter,ifs,0⟩] scope pos) 0 it acc env).onRaise (fun x=>do noteFrame x env;theTreesLotGoes x)) _ _ s;refine wpAny_noted ?_
 rw[compTurn_list];refine ab (wpAny_standAt (ab (cy (turn n s hI) (fun r ba dC=>?_) fun _ _ f=>f.elim)));cases r with
 |none=>exact ak dC
 |some v=>
  refine ab (cy dC (fun _ DW Je=>?_) fun _ _ f=>f.elim);refine ab (cy Je (fun _ l_ uf=>ab (cy uf (fun ok ug Ca=>?_) fun _ _ f=>f.elim)) fun _ _ f=>f.elim);cases ok with
  |false=>exact ak ⟨rfl,Ca⟩
  |true=>exact ab (ab (cy Ca (fun x Ce Nl=>ab (cy Nl (fun _ Jd Nm=>ak (ak ⟨rfl,Nm⟩)) fun _ _ f=>f.elim)) fun _ _ f=>f.elim))
end
def PF(X:Cx)(ifs:List Expr)(t:TT):Prop:=
 ∀(pins:List (Addr×Obj)) (s:Shared) (σ:St) (H:Hp) (Q:Bool->Hp->Prop),Inv X pins σ H s->t σ H Q->wpAny (model X.prog X.w) X.A (xl ifs X.env) (TP X pins σ Q) X.xe s
theorem Fw{X:Cx}:PF X [] (fun _ H Q=>Q true H):=fun _ _ _ H _ I h=>wpAny_tests_nil ⟨H,I,h⟩
theorem Fx{X:Cx}{c:Expr}{t:TT}(h:PT X c t):PF X [c] t:=fun pins s σ H Q I q=>wpAny_tests_one (h pins s σ H Q I q)
def Nn(J:It)(D:Addr)(L_:St)(H0:Hp)(g:TG)(tc:TT)(te:TE)(Q:Hp->Prop):Prop:=
 ∃W:Nat->Nat->St->Hp->Prop,(∃m,W 0 m L_ H0)/\∀i m σ H,W i m σ H->(J.stop i H/\Q H)\/
  (J.go i H/\∃N:St->Hp->Prop,(∀bL H',N bL H'->∃m',m'<m/\W (i+1) m' bL H')/\∀x H',J.zv i H x H'->g x σ H' fun wY H2=>tc wY H2 fun b H3=>
    if b=true then te wY H3 fun y H4=>∃ys,H4 D=some (.lst ys)/\ys.length<sizeLine/\N wY (upd H4 D (.lst (ys++[y])))else N wY H3)
def HP(wi:TI)(ix:List (Option Nat))(g:TG)(tc:TT)(te:TE):TE:=fun σ H Q=>wi σ H fun J H1=>∀D,H1 D=none->Nn J D (d5 ix σ) (upd H1 D (.lst [])) g tc te fun H'=>Q (.ref D) H'
section
variable {X:Cx}{scope:Scope}{N':List Str}{ix:List (Option Nat)}{tg iter elt:Expr}{ifs:List Expr}{pos:Pos}{g:TG}{tc:TT}{te:TE}
theorem xm{use:Option (Value->Sem Unit)}{Qf:Value->Shared->Prop}{QD:Addr->Hp->Prop}{pins:List (Addr×Obj)}{s2:Shared}{σ:St}{H2:Hp}{it:Addr}{fp:List Addr}{tn:Nat->Heap->Prop}{J:It}
  (L:dI X N' ix scope) (hc:X.calm=true) (kq:∀s H ex,PG (lA X scope N' s H ex) tg g/\PF (lA X scope N' s H ex) ifs tc/\PE (lA X scope N' s H ex) elt te)
  (I2:Inv X pins σ H2 s2) (T:Turn X.prog X.w X.K tg J fp it tn) (BL:tn 0 s2.heap) (f2:∀b∈fp,l9 X pins H2 b)
  (hw:∀D,H2 D=none->Nn J D (d5 ix σ) (upd H2 D (.lst [])) g tc te (QD D))
  (Np:∀D C H' s' m,Inv X pins σ H' s'->l9 X pins H' C->s'.heap.Ns C m->QD D H'->compPost (model X.prog X.w) X.A X.xe use Qf (.ref D) C (.ok .next) s'):
  wpAny (model X.prog X.w) X.A (newList []) (fun acc ug=>wpAny (model X.prog X.w) X.A (newFunctionEnv scope X.env.globals (vN scope X.env) [] X.env.qual none .none (some X.env)) (fun Jf Ce=>
   codeAny (model X.prog X.w) X.A (.compStart (.ListComp elt [⟨tg,iter,ifs,0⟩] scope pos) 0 (.ref it) acc {Jf with scope:=relabel scope X.env}) (compPost (model X.prog X.w) X.A X.xe use Qf acc Jf.locals) Ce) X.xe ug) X.xe s2:=by
 refine dX (wpAny_newFunctionEnv L.zS (by intro y hy;simp at hy) (fun dC vP vQ=>?_) L.kind);dsimp only at vP vQ⊢;have hD:H2 s2.heap.objs.size=none:=I2.fresh;have I3:Inv X pins σ (upd H2 s2.heap.objs.size (.lst [])) {s2 with heap:=s2.heap.push {cls:=.type "list",data:=.seq ([]:List Value).toArray},toks:=s2.toks}:=I2.Ff (aV:=[]) .nil (bZ _);generalize QV:({s2 with heap:=s2.heap.push {cls:=.type "list",data:=.seq ([]:List Value).toArray},toks:=s2.toks}:Shared)=s3 at I3;have e3:({s2 with heap:=s2.heap.push {cls:=.type "list",dict:=none,data:=.seq ([]:List Value).toArray}}:Shared)=s3:=QV;have eh:s2.heap.push {cls:=.type "list",dict:=none,data:=.seq ([]:List Value).toArray}=s3.heap:=bE Shared.heap e3;have QX:s3.os=s2.os:=by rw[<-e3]
 have ek:∀b o,s2.heap.get? b=some o->s3.heap.get? b=some o:=fun b o e=>by rw[<-eh];exact aQ _ e
 have Fy:s2.heap.objs.size<=s3.heap.objs.size:=by rw[<-eh,hU];exact kY _
 rw[eh]at vP vQ⊢;have f3:∀b∈fp,l9 X pins (upd H2 s2.heap.objs.size (.lst [])) b:=fun b hb=>by
  obtain⟨o,eo,_⟩:=T.obj _ _ BL b hb;refine⟨?_,(f2 b hb).2⟩;rw[aA (bc (aH eo))];exact(f2 b hb).1
 have Hz:∀b∈fp,b<s3.heap.objs.size:=fun b hb=>by
  obtain⟨o,eo,_⟩:=T.obj _ _ BL b hb;exact bM (aH eo) Fy
 have k4:∀b o,s3.heap.get? b=some o->dC.get? b=some o:=fun b o e=>vQ.extBut b o (bc (aH e)) (aQ _ e);have Pt:tn 0 dC:=T.keep _ _ _ BL fun b _ o e=>k4 b o (ek b o e);obtain⟨W,⟨m0,w0⟩,turn⟩:=hw s2.heap.objs.size hD;have I4:∀tk,Inv (lA X scope N' s3 (upd H2 s2.heap.objs.size (.lst [])) fp) [] (d5 ix σ) (upd H2 s2.heap.objs.size (.lst [])) {s3 with heap:=dC,toks:=tk}:=fun tk=>
  vO L I3 vP k4 f3 Hz
 obtain⟨hg,hf,he⟩:=kq s3 (upd H2 s2.heap.objs.size (.lst [])) fp;have vB:∀{H':Hp},(∀b∈fp,H' b=none)->∀b∈fp,l9 (lA X scope N' s3 (upd H2 s2.heap.objs.size (.lst [])) fp) [] H' b:=fun{H'} hn b hb=>by
  have ok:=(I4 0).ok;obtain⟨x1,x2⟩:=ok.MI b hb;exact⟨hn b hb,x1,ok.zo b hb,.inl hb,x2,fun p hp=>absurd (show p∈([]:List (Addr×Obj))from hp) (by simp)⟩
 have loop:∀tk,codeAny (model X.prog X.w) X.A (.compLoop (.ListComp elt [⟨tg,iter,ifs,0⟩] scope pos) 0 (.ref it) (.ref s2.heap.objs.size) (compEnvC scope (vN scope X.env) s3.heap.objs.size X.env))
   (compPost (model X.prog X.w) X.A X.xe use Qf (.ref s2.heap.objs.size) s3.heap.objs.size) {s3 with heap:=dC,toks:=tk}:=fun tk=>by
  refine Cd (fun n s'=>∃i bL H',Inv (lA X scope N' s3 (upd H2 s2.heap.objs.size (.lst [])) fp) [] bL H' s'/\tn i s'.heap/\(∀b∈fp,H' b=none)/\W i n bL H') ?_ m0
   ⟨0,_,_,I4 tk,Pt,fun b hb=>(f3 b hb).1,w0⟩
  rintro n s5 ⟨i,L',H5,I5,HE,L3,w5⟩
  rcases turn i n L' H5 w5 with⟨stop,qn⟩|⟨go,N,hN,step⟩
  ·refine cn (T.done (lA X scope N' s3 (upd H2 s2.heap.objs.size (.lst [])) fp) rfl rfl rfl hc i [] s5 L' H5 _ I5 (vB L3) HE stop) fun r s6 ⟨hr,I6⟩=>?_
   subst hr;have u:Un (la X.stack) fp H2 H5 s2.heap s6.heap:=(Un.laid (o:=.lst []) ek (aB _) hD).trans I6.base;have J6:Inv X pins σ H5 s6:=I2.Iu (ch:=fp) (I6.os.trans QX) u I6.bB I6.bare fun b hb=>by
    obtain⟨_,x1,_,x3,x4,x5⟩:=f2 b hb;exact⟨x3,x1,x4,x5⟩
   obtain⟨m,hm,_⟩:=I6.loc;exact Np _ _ H5 s6 m J6 (I2.yn Fy I6.free) hm qn
  ·refine cn (T.item (lA X scope N' s3 (upd H2 s2.heap.objs.size (.lst [])) fp) rfl rfl rfl hc i [] s5 L' H5 _ I5 (vB L3) HE go) fun r s6 ⟨v,hr,h6⟩=>?_
   subst hr;refine cn h6 fun _ s7 ⟨x,H7,I7,r7,y7,Nq,QY⟩=>?_
   have QZ:=I7.pinned (vB QY) (T.obj _ _ Nq);refine cn (hg _ s7 L' H7 x v _ QZ r7 (step x H7 y7)) fun _ s8 ⟨Ma,H8,I8,q8⟩=>?_
   have again:∀{Jg:St} {H9:Hp} {s9:Shared},Inv (lA X scope N' s3 (upd H2 s2.heap.objs.size (.lst [])) fp) ([]++oO fp s7.heap) Jg H9 s9->N Jg H9->
     ∃m,m<n/\∃i bL H',Inv (lA X scope N' s3 (upd H2 s2.heap.objs.size (.lst [])) fp) [] bL H' s9/\tn i s9.heap/\(∀b∈fp,H' b=none)/\W i m bL H':=fun{Jg H9 s9} I9 n9=>by
    obtain⟨m',hm,w9⟩:=hN Jg H9 n9;refine⟨m',hm,i+1,Jg,H9,I9.lh,T.keep _ _ _ Nq fun b hb o e=>(I9.pin (b,o) (dR _ (dR _ (h_ hb e)))).1,fun b hb=>?_,w9⟩;obtain⟨o,e,d⟩:=T.obj _ _ Nq b hb;exact(I9.pin (b,o) (dR _ (dR _ (h_ hb e)))).2.1
   refine cn (hf _ s8 Ma H8 _ I8 q8) fun ok s9 ⟨H9,I9,q9⟩=>?_
   cases ok with
   |false=>exact again I9 q9
   |true=>
    refine cn (he _ s9 Ma H9 _ I9 q9) fun y Q0 ⟨v10,Q1,Q2,Q3,ys,hy,hz,Q4⟩=>?_
    refine cn (cI _ Q0 Ma Q1 (.ref s2.heap.objs.size) [v10] (.ref s2.heap.objs.size) [y] (fun _ H'=>N Ma H') Q2 rfl (.cons Q3 .nil) ⟨_,ys,v10,rfl,rfl,hy,hz,Q4⟩) fun _ SE ⟨_,SF,Q5,_,Q6⟩=>?_
    exact again Q5 Q6
 have es:∀tk,({s2 with heap:=dC,toks:=tk}:Shared)={s3 with heap:=dC,toks:=tk}:=fun tk=>by rw[<-e3]
 have DX:∀tk,codeAny (model X.prog X.w) X.A (.compLoop (.ListComp elt [⟨tg,iter,ifs,0⟩] scope pos) 0 (.ref it) (.ref s2.heap.objs.size) (compEnvC scope (vN scope X.env) s3.heap.objs.size X.env))
   (compPost (model X.prog X.w) X.A X.xe use Qf (.ref s2.heap.objs.size) s3.heap.objs.size) {s2 with heap:=dC,toks:=tk}:=fun tk=>by
  rw[es tk];exact loop tk
 exact codeAny_compStart_list (DX _) (T.self _ 0 _ _ _ Pt (DX _))
theorem zT{wi:TI}(L:dI X N' ix scope)(hc:X.calm=true)(hi:PI X tg iter wi)(kq:∀s H ex,PG (lA X scope N' s H ex) tg g/\PF (lA X scope N' s H ex) ifs tc/\PE (lA X scope N' s H ex) elt te)
  (hs:∀x,foldedSetIterable iter X.env x=pure x:=by intro _;rfl):PE X (.ListComp elt [⟨tg,iter,ifs,0⟩] scope pos) (HP wi ix g tc te):=by
 intro pins s σ H Q I h;have o8:∀y∈scope.names,y.2=.free->∃c,X.env.cells.lookup y.1=some c:=fun y hy z=>I.ok.has y.1 (.inl (L.cell y hy z));rw[eval_ListComp];refine wpAny_comprehension_free (use:=none) rfl hs (ly o8) L.kind L.loc (cn (hi pins s σ H _ I h) fun v s1 h1=>cn h1 fun L0 s2 h2=>?_);obtain⟨it,fp,tn,J,H2,e,I2,T,BL,f2,hw⟩:=h2;subst e;refine xm (QD:=fun D H'=>Q (.ref D) H') L hc kq I2 T BL f2 hw fun D C H' s' m I' fC hm q=>⟨m,hm,fun h' Cc=>?_⟩;obtain⟨x0,x1,x2,x3,x4,x5⟩:=fC;exact⟨.ref D,H',I'.turned (t':=s'.toks) (fun b o hb e=>(Cc.2 b hb).trans e) x0 x1 x3 x4 x5,rfl,q⟩
theorem uk{wi:TI}{i:Nat}{x:Str}{px lB:Pos}(L:dI X N' ix scope)(hc:X.calm=true)(hN:X.N.Nodup)(hi:X.N[i]?=some x)(hx:Loc X.env.scope x)(hit:PI X tg iter wi)
  (kq:∀s H ex,PG (lA X scope N' s H ex) tg g/\PF (lA X scope N' s H ex) ifs tc/\PE (lA X scope N' s H ex) elt te)
  (Cf:swapsWith (.ListComp elt [⟨tg,iter,ifs,0⟩] scope pos) (some (.Name x px)) lB.line X.env=pure true:=by rfl)
  (hs:∀x,foldedSetIterable iter X.env x=pure x:=by intro _;rfl) (hf:X.fn x=true\/X.env.scope.names.lookup x=some .local:=by first|exact .inl rfl|exact .inr rfl|assumption):
  PS X (.Assign [.Name x px] (.ListComp elt [⟨tg,iter,ifs,0⟩] scope pos) lB) (fun D σ H=>HP wi ix g tc te σ H fun v H'=>D.nx (σ.set i (some v)) H'):=by
 intro pins s σ H D I h;have o8:∀y∈scope.names,y.2=.free->∃c,X.env.cells.lookup y.1=some c:=fun y hy z=>I.ok.has y.1 (.inl (L.cell y hy z));rw[exec_Assign_Name_used _ _ _ _ Cf];refine ab (wpAny_standAt (ab ?_));show wpAny _ X.A (do let _<-comprehension (.ListComp elt [⟨tg,iter,ifs,0⟩] scope pos) scope X.env _ (newList []) false (eval iter X.env) (some (assign (.Name x px) X.env))) _ _ s;refine ab (cy (wpAny_comprehension_free (use:=some (assign (.Name x px) X.env)) (Q:=fun _ s'=>SP X pins D .next s') rfl hs (ly o8) L.kind L.loc
  (cn (hit pins s σ H _ I h) fun v s1 h1=>cn h1 fun L0 s2 h2=>?_)) (fun _ s' hq=>ak (ak hq)) fun _ _ e=>e)
 obtain⟨it,fp,tn,J,H2,e,I2,T,BL,f2,hw⟩:=h2;subst e;refine xm (QD:=fun Dd H'=>D.nx (σ.set i (some (.ref Dd))) H') L hc kq I2 T BL f2 hw fun Dd C H' s' m I' fC hm q=>?_
 obtain⟨x0,x1,x2,x3,x4,x5⟩:=fC;show wpAny _ X.A (assign (.Name x px) X.env (.ref Dd)) _ _ _;refine wpAny_assign_Name (qK I' hN hi hx (v:=.ref Dd) rfl (fun E8 Q7 zh=>?_) hf);obtain⟨a,Cc,ha⟩:=zh;have Q8:C≠a:=by
  rcases ha with ha|ha
  ·rw[ha];exact x1
  ·exact fun z=>x4 _ _ ha z.symm
 refine⟨m,hm.sameBut Cc Q8,fun h' Nr=>?_⟩;exact⟨_,H',Q7.turned (t':=E8.toks) (fun b o hb e=>(Nr.2 b hb).trans e) x0 x1 x3 x4 x5,q⟩
end
end L2
namespace L2
open PySem PySem.Spec PyProof.Rows
def Mb(z:Str):It:=⟨fun i _=>i<z.cps.size,fun i H x H'=>H'=H/\∃c,z.cps[i]?=some c/\x=.str ⟨#[c]⟩,fun i _=>i=z.cps.size⟩
theorem um{P:Program}{w:World}{K:PySem.W.Frag}{tg:Expr}{z:Str}{t:Tok}{it:Addr}{n:String}(hn:["enumerate","zip","dict_itemiterator","dict_reverseitemiterator","odict_iterator","itertools.zip_longest","itertools.pairwise"].contains n=false)
  (W:∀A':Around,A'.handled=none->Walks P w A' it [it] [it] z.cps.size (SignAt z) (fun i h=>h.IsStrIter it n z t i))
  (self:∀(A:Around) (i:Nat) (s:Shared) (Q:Value->Shared->Prop) (E:Value->Shared->Prop),s.heap.IsStrIter it n z t i->Q (.ref it) s->wpAny (model P w) A (pyIter (.ref it)) Q E s):
  Turn P w K tg (Mb z) [it] it (fun i h=>h.IsStrIter it n z t i) where
 mem:=by simp
 obj:=fun i h st b hb=>by
  have e:b=it:=by simpa using hb
  subst e;obtain⟨o,e,c,d⟩:=st;exact⟨o,e,fun v q=>by rw[d]at q;cases q⟩
 keep:=fun i h h' st k=>by
  obtain⟨o,e,c,d⟩:=st;exact⟨o,k it (by simp) o e,c,d⟩
 item:=by
  intro X hP hw hK hc i pins s σ H E I hf st hg;subst hP hw hK;obtain⟨f0,f1,f2,f3,f4,f5⟩:=hf it (by simp);refine(W X.A (I.ok.hd hc)).item i s _ _ hg st fun v h' tk hv tH kk=>?_
  obtain⟨c,u,Q9,rfl⟩:=hv;have I1:Inv X pins σ H {s with heap:=h',toks:=tk}:=I.turned (fun b o hb e=>kk b o (by simpa using hb) e) f0 f1 f3 f4 f5;obtain⟨o,e,cl,d⟩:=id tH;exact⟨_,rfl,qM (s:={s with heap:=h',toks:=tk}) e cl d hn ⟨.str ⟨#[c]⟩,H,I1,⟨u,rfl⟩,⟨rfl,c,Q9,rfl⟩,tH,fun b hb=>(hf b hb).1⟩⟩
 done:=by
  intro X hP hw hK hc i pins s σ H E I hf st hg;subst hP hw hK;obtain⟨f0,f1,f2,f3,f4,f5⟩:=hf it (by simp);have e:i=z.cps.size:=hg;subst e;exact(W X.A (I.ok.hd hc)).done s _ _ st fun h' tk kk=>⟨rfl,I.turned (fun b o hb e=>kk b o (by simpa using hb) e) f0 f1 f3 f4 f5⟩
 self:=self
theorem iF.upd {K:PySem.W.Frag}{H:Hp}{D a:Addr}{xs:List V}{o:HO}(hD:H D=none)(h:iF K H a xs):iF K (upd H D o) a xs:=by
 rcases h with(h|⟨ob,h⟩)|h
 ·exact .inl (.inl (by rw[aA (bf h hD)];exact h))
 ·exact .inl (.inr ⟨ob,by rw[aA (bf h hD)];exact h⟩)
 ·exact .inr h
theorem i6.upd {K:PySem.W.Frag}{H:Hp}{D a:Addr}{xs:List V}{o:HO}(hD:H D=none)(h:i6 K H a xs):i6 K (upd H D o) a xs:=by
 rcases h with(h|⟨ob,h⟩)|h
 ·exact .inl (.inl (by rw[aA (bf h hD)];exact h))
 ·exact .inl (.inr ⟨ob,by rw[aA (bf h hD)];exact h⟩)
 ·exact .inr h
section
variable {X:Cx}
theorem Fz:l8 X (compareOp .Is) (fun x y H Q=>∃c d,x=.bl c/\y=.bl d/\Q (.bl (c==d)) H):=by
 intro pins s σ H x y v u Q I rx ry h;obtain⟨c,d,rfl,rfl,q⟩:=h;cases rx;cases ry;exact is_bool (j5 I q rfl)
theorem yD:l8 X (compareOp .IsNot) (fun x y H Q=>∃c d,x=.bl c/\y=.bl d/\Q (.bl (c !=d)) H):=by
 intro pins s σ H x y v u Q I rx ry h;obtain⟨c,d,rfl,rfl,q⟩:=h;cases rx;cases ry;exact isnot_bool (j5 I q rfl)
theorem Cg:l8 X (binaryOp .Mult) (fun x y H Q=>∃z n,x=.str z/\y=.int n/\MulOk z n/\Q (.str (Txt.mul z n)) H):=by
 intro pins s σ H x y v u Q I rx ry h;obtain⟨z,n,rfl,rfl,bB,q⟩:=h;obtain⟨t,rfl⟩:=rx;obtain⟨t',rfl⟩:=ry;exact SB.mul bB fun t' k=>⟨.str _,H,I.tok _,⟨_,rfl⟩,q⟩
theorem xn:∀{ts:List Str} {aV:List Value},Vals (ts.map V.str) aV->∃l:List (Str×Tok),aV=strValues l/\l.map (·.1)=ts
 |[],_,.nil=>⟨[],rfl,rfl⟩
 |x::r,_,.cons r1 r2=>by
  obtain⟨l,e1,e2⟩:=xn r2;obtain⟨t,rfl⟩:=(show∃t,_=Value.str x t from r1);exact⟨(x,t)::l,by rw[e1];rfl,by rw[aK,e2]⟩
theorem Ci:L7 X "str.join" (fun x xs H Q=>∃(z:Str) (p:Addr) (ts:List Str),x=.str z/\xs=[.ref p]/\iF X.K H p (ts.map V.str)/\JoinOk z ts=true/\Q (.str (Txt.join z ts)) H):=by
 intro pins s σ H x vs v us Q I rx rv h;obtain⟨z,p,ts,rfl,rfl,hl,bB,q⟩:=h;obtain⟨t,rfl⟩:=rx;obtain⟨u,rfl,ru⟩:=rv.one;cases(show u=Value.ref p from ru);obtain⟨aV,rv,pl,hz⟩:=I.list hl;obtain⟨l,rfl,e2⟩:=xn rv;exact SC.join pl.isList e2 bB fun t' k=>⟨.str _,H,I.tok _,⟨_,rfl⟩,q⟩
end
end L2
namespace L2
open PySem PySem.Spec PyProof.Rows
theorem ar.tup {K:PySem.W.Frag}{H H':Hp}{a:Addr}{xs:List V}(e:ar H H')(h:i6 K H a xs):i6 K H' a xs:=by
 rcases h with(h|⟨o,h⟩)|h
 ·exact .inl (.inl (e _ _ h))
 ·exact .inl (.inr ⟨o,e _ _ h⟩)
 ·exact .inr h
theorem ar.upd {H:Hp}{D:Addr}{o:HO}(hD:H D=none):ar H (upd H D o):=fun b u e=>by rw[aA (bf e hD)];exact e
theorem ar.Cj {H H':Hp}{D:Addr}{o:HO}(s:ar H H')(hD:H D=none):ar H (L2.upd H' D o):=fun b u e=>by rw[aA (bf e hD)];exact s b u e
structure qU(K:PySem.W.Frag)(mg:Str->Option Value)(x:Str)(st:Stmt)(ps:List Str)(f:Addr)(fd:FuncData):Prop where
 fn:qg K x x st f fd
 bd:Binds K fd ps []
 mg:mg x=some (.ref f)
theorem FA{X:Cx}{x:Str}{st:Stmt}{ps:List Str}{f:Addr}{fd:FuncData}{k:Nat}{sp:Sp}{e:Expr}{es:List Expr}{t:TA}{p pos:Pos}(D:qU X.K X.mg x st ps f fd)(G:cf X.prog X.w X.K X.mg X.base j8 k f fd ps sp)(hr:bq k X.A)
  (ha:PA X (e::es) t) (hg:Gl X x:=by rfl) (dG:(x==("__debug__":Str))=false:=by decide) (he:starEach (e::es) X.env=(false,eval e X.env)::starEach es X.env:=by rfl)
  (jF:(backTo pos (starEach es X.env)).any (·.1)=false:=by rfl):PE X (.Call (.Name x p) (e::es) [] pos) (DN sp [] E0 t):=by
 have q:=wZ (p:=p) (pos:=pos) G hr hg D.mg D.fn.kp D.bd .nil zR ha (dG:=dG) (he:=he) (jF:=jF);exact q
end L2
namespace L2
open PySem PySem.Spec PyProof.Rows
section
variable {X:Cx}
def Nt:V->Option Int->Option Int->Hp->VK->Prop:=fun x lo hi H Q=>∃z,x=.str z/\z.length<=sizeLine/\Q (.str (Txt.slice z lo hi)) H
theorem FC:HJ X Nt:=by
 intro pins s σ H x v vl vu lo hi sl Q I rx hs pl pu h;obtain⟨z,rfl,hz,q⟩:=h;obtain⟨t,rfl⟩:=rx;refine⟨"str",_,F.slot_str_getitem.lookup,typeIs_str _ _ _,?_⟩;have go:∀(l u:Option (Int×Tok)),s.heap.IsSlice sl l u none->lo=l.map (·.1)->hi=u.map (·.1)->wpAny (model X.prog X.w) X.A (getItem (.str z t) (.ref sl)) (EP X pins σ Q) X.xe s:=fun l u hh e1 e2=>by
  subst e1 e2;exact wpAny_getItem_str_slice hh rfl (post_val_or_str ⟨a6 (Txt.slice_le z _ _) hz,fun t' k=>⟨.str _,H,I.tok _,⟨_,rfl⟩,q⟩⟩)
 cases pl with
 |none=>
  cases pu with
  |none=>exact go none none hs rfl rfl
  |int j tj=>exact go none (some (j,tj)) hs rfl rfl
 |int i ti=>
  cases pu with
  |none=>exact go (some (i,ti)) none hs rfl rfl
  |int j tj=>exact go (some (i,ti)) (some (j,tj)) hs rfl rfl
end
end L2
namespace L2
open PySem PySem.Spec PyProof.Rows
section
variable {X:Cx}
theorem qV{h:Heap}{p:Addr}{aV:Array Value}(ht:h.IsTuple p aV):∃dd n sl,h.get? p=some ⟨.type "tuple",dd,.seq aV n,sl⟩:=by
 obtain⟨⟨cls,dd,data,sl⟩,h1,h2,n,h3⟩:=ht;dsimp only at h2 h3;subst h2 h3;exact⟨dd,n,sl,h1⟩
end
end L2
namespace L2
open PySem PySem.Spec PyProof.Rows
def qW(K:PySem.W.Frag)(w:World)(a:Addr)(ah:List (Str×Value)):Prop:=
 (a==sysModules)=false/\∃o es ep,K.lookup a=some o/\o.ExactDict/\o.data=.dict es ep/\∀prog,KeysOf (PySem.strKind prog w) es/\Pairs (PySem.strKind prog w) es.toList ah/\(ah.map (·.1)).Nodup
section
variable {X:Cx}{pins:List (Addr×Obj)}{σ:St}{H:Hp}{s:Shared}
theorem qW.of {a:Addr}{ah:List (Str×Value)}(D:qW X.K X.w a ah)(I:Inv X pins σ H s):s.heap.DictOf (PySem.strKind X.prog X.w) a ah:=by
 obtain⟨_,o,es,ep,h1,h2,h3,h4⟩:=D;obtain⟨k1,k2,k3⟩:=h4 X.prog;exact⟨o,es,ep,I.r_ _ _ h1,h2,h3,k1,k2,k3⟩
theorem zU{o i:Expr}{to ti:TE}{pos:Pos}(ho:PE X o to)(hi:PE X i ti)(hs:B9 i):
  PE X (.Subscript o i pos) (EN (fun x y H Q=>∃(a:Addr) (z:Str) (ah:List (Str×Value)) (u:Value) (v:V),x=.ref a/\y=.str z/\qW X.K X.w a ah/\valueAt ah z=some u/\RelV v u/\Q v H) to ti):=by
 intro pins s σ H Q I h;refine B_ nS.lookup hs (cn (ho pins s σ H _ I h) fun u s1 ⟨x,H1,I1,rx,q1⟩=>cn (hi pins s1 σ H1 _ I1 q1) fun iv s2 ⟨y,H2,I2,ry,q2⟩=>?_);obtain⟨a,z,ah,u',v,rfl,rfl,D,hv,rv,q⟩:=q2;cases(show u=Value.ref a from rx);obtain⟨t,rfl⟩:=ry;have dd:=D.of I2;refine⟨?_,wpAny_getItem_of (knd:=PySem.strKind X.prog X.w) (k:=z) (by simp[PySem.strKind,Value.isStrOf]) dd.mapOf hv ⟨v,H2,I2.tok _,rv,q⟩⟩;obtain⟨ob,es,ep,h1,h2,_⟩:=dd;exact⟨ob,h1,h2.1⟩
end
end L2
namespace L2
open PySem PySem.Spec PyProof.Rows
inductive Tr where
 |a_|bl (b:Bool)|int (i:Int)|str (z:Str)|ty (n:String)
 |gq (ns:List Int)|tup (ts:List Tr)|lst (ts:List Tr)|a8 (av:List (Key×Tr))|at(i:Nat)
 |dB (av:List (List Key×Tr))|ob (x:Str) (fs:List (Str×Tr))|zV (x:Str)
def bS:Nat:=1000000
def clsAt(K:PySem.W.Frag)(x:Str):Addr:=match PySem.W.nsIn K mainGlobals x with
 |some (some (.ref C))=>C
 |_=>0
structure Vw where
 H:Hp
 ix:Addr->Option Nat
instance:Coe Vw Hp:=⟨Vw.H⟩
instance:CoeFun Vw (fun _=>Addr->Option HO):=⟨Vw.H⟩
structure b9(W W':Vw):Prop where
 h:ar W.H W'.H
 x:∀a i,W.ix a=some i->W'.ix a=some i
theorem b9.refl (W:Vw):b9 W W:=⟨ar.refl _,fun _ _ e=>e⟩
theorem b9.trans {W W1 W2:Vw}(a:b9 W W1)(b:b9 W1 W2):b9 W W2:=⟨a.h.trans b.h,fun c i e=>b.x c i (a.x c i e)⟩
mutual
inductive Rep(K:PySem.W.Frag)(H:Vw):V->Tr->Prop where
 |a_:Rep K H .a_ .a_
 |bl (b:Bool):Rep K H (.bl b) (.bl b)
 |int (i:Int):Rep K H (.int i) (.int i)
 |str (z:Str) (h:z.length<=bS):Rep K H (.str z) (.str z)
 |ty (n:String):Rep K H (.ty n) (.ty n)
 |gq {a:Addr} {ns:List Int} (h:iF K H.H a (ns.map V.int)):Rep K H (.ref a) (.gq ns)
 |tup {a:Addr} {vs:List V} {ts:List Tr} (h:H.H a=some (.tup vs)) (r:aF K H vs ts):Rep K H (.ref a) (.tup ts)
 |lst {a:Addr} {vs:List V} {ts:List Tr} (h:H.H a=some (.lst vs)) (r:aF K H vs ts):Rep K H (.ref a) (.lst ts)
 |a8 {a:Addr} {ah:List (Key×V)} {av:List (Key×Tr)} (h:Rd H.H a (.dK ah)) (e:ah.map (·.1)=av.map (·.1)) (r:aF K H (ah.map (·.2)) (av.map (·.2))):Rep K H (.ref a) (.a8 av)
 |at{a:Addr} {i:Nat} (h:H.ix a=some i):Rep K H (.ref a) (.at i)
 |dB {a:Addr} {ah:List (List Key×V)} {av:List (List Key×Tr)} (h:Rd H.H a (.dT ah)) (e:ah.map (·.1)=av.map (·.1)) (r:aF K H (ah.map (·.2)) (av.map (·.2))):Rep K H (.ref a) (.dB av)
 |ob {a dx:Addr} {x:Str} {c_:List (Str×V)} {fs:List (Str×Tr)} (h:H.H a=some (.ins (clsAt K x) dx c_)) (e:c_.map (·.1)=fs.map (·.1)) (r:aF K H (c_.map (·.2)) (fs.map (·.2))):Rep K H (.ref a) (.ob x fs)
 |zV {a:Addr} {oe:Obj} {x:Str} (h:H.H a=some (.ext fun h=>h.get? a=some oe)) (c:oe.cls=.ref (clsAt K x)):Rep K H (.ref a) (.zV x)
inductive aF(K:PySem.W.Frag)(H:Vw):List V->List Tr->Prop where
 |nil:aF K H [] []
 |cons {v:V} {t:Tr} {vs:List V} {ts:List Tr} (h:Rep K H v t) (r:aF K H vs ts):aF K H (v::vs) (t::ts)
end
section
theorem Rd.same {H H':Hp}{a:Addr}{u:HO}(s:ar H H')(h:Rd H a u):Rd H' a u:=by
 rcases h with h|⟨o,h⟩
 ·exact .inl (s _ _ h)
 ·exact .inr ⟨o,s _ _ h⟩
variable {K:PySem.W.Frag}{H H':Vw}
theorem Rep.same (s:b9 H H'){v:V}{t:Tr}(h:Rep K H v t):Rep K H' v t:=by
 refine Rep.rec (motive_1:=fun v t _=>Rep K H' v t) (motive_2:=fun vs ts _=>aF K H' vs ts) ?_ ?_ ?_ ?_ ?_ ?_ ?_ ?_ ?_ ?_ ?_ ?_ ?_ ?_ ?_ h
 ·exact .a_
 ·exact fun b=>.bl b
 ·exact fun i=>.int i
 ·exact fun z h=>.str z h
 ·exact fun n=>.ty n
 ·exact fun h=>.gq (s.h.seq h)
 ·exact fun h _ r=>.tup (s.h _ _ h) r
 ·exact fun h _ r=>.lst (s.h _ _ h) r
 ·exact fun h e _ r=>.a8 (Rd.same s.h h) e r
 ·exact fun h=>.at (s.x _ _ h)
 ·exact fun h e _ r=>.dB (Rd.same s.h h) e r
 ·exact fun h e _ r=>.ob (s.h _ _ h) e r
 ·exact fun h c=>.zV (s.h _ _ h) c
 ·exact .nil
 ·exact fun _ _ h r=>.cons h r
theorem aF.same (s:b9 H H'):∀{vs:List V} {ts:List Tr},aF K H vs ts->aF K H' vs ts
 |[],_,h=>by cases h;exact .nil
 |_::_,_,h=>by cases h with|cons h r=>exact .cons (h.same s) (aF.same s r)
theorem aF.length:∀{vs:List V} {ts:List Tr},aF K H vs ts->vs.length=ts.length
 |[],_,h=>by cases h;rfl
 |_::_,_,h=>by cases h with|cons h r=>rw[a5,a5,aF.length r]
theorem aF.get:∀{vs:List V} {ts:List Tr} {i:Nat} {t:Tr},aF K H vs ts->ts[i]?=some t->∃v,vs[i]?=some v/\Rep K H v t
 |[],_,i,t,h,e=>by cases h;simp at e
 |_::_,_,0,t,h,e=>by cases h with|cons h r=>simp at e;subst e;exact⟨_,rfl,h⟩
 |_::_,_,i+1,t,h,e=>by
  cases h with
  |cons h r=>
   obtain⟨v,e1,r1⟩:=aF.get (i:=i) (t:=t) r (by simpa using e);exact⟨v,by simpa using e1,r1⟩
theorem aF.zW:∀{vs:List V} {ts:List Tr} {i:Nat} {v:V},aF K H vs ts->vs[i]?=some v->∃t,ts[i]?=some t/\Rep K H v t
 |[],_,i,t,h,e=>by simp at e
 |_::_,_,0,t,h,e=>by cases h with|cons h r=>simp at e;subst e;exact⟨_,rfl,h⟩
 |_::_,_,i+1,t,h,e=>by
  cases h with
  |cons h r=>
   obtain⟨v,e1,r1⟩:=aF.zW (i:=i) r (by simpa using e);exact⟨v,by simpa using e1,r1⟩
theorem aF.append:∀{vs ws:List V} {ts us:List Tr},aF K H vs ts->aF K H ws us->aF K H (vs++ws) (ts++us)
 |[],_,_,_,h,q=>by cases h;exact q
 |_::_,_,_,_,h,q=>by cases h with|cons h r=>exact .cons h (aF.append r q)
theorem aF.take:∀{vs:List V} {ts:List Tr} (n:Nat),aF K H vs ts->aF K H (vs.take n) (ts.take n)
 |_,_,0,_=>by rw[List.take_zero,List.take_zero];exact .nil
 |[],_,_+1,h=>by cases h;exact .nil
 |_::_,_,n+1,h=>by cases h with|cons h r=>exact .cons h (aF.take n r)
theorem aF.drop:∀{vs:List V} {ts:List Tr} (n:Nat),aF K H vs ts->aF K H (vs.drop n) (ts.drop n)
 |_,_,0,h=>h
 |[],_,_+1,h=>by cases h;exact .nil
 |_::_,_,n+1,h=>by cases h with|cons h r=>exact aF.drop n r
theorem aF.rep {vs:List V}{ts:List Tr}(h:aF K H vs ts):∀n:Nat,aF K H (List.replicate n vs).flatten (List.replicate n ts).flatten
 |0=>.nil
 |n+1=>by
  rw[gY,gY,jB,jB];exact h.append (aF.rep h n)
theorem qX:∀{zs:List Str},(∀z∈zs,z.length<=bS)->aF K H (zs.map V.str) (zs.map Tr.str)
 |[],_=>.nil
 |z::zs,h=>.cons (.str z (h z (cg ..))) (qX fun y hy=>h y (bC _ hy))
theorem qY:∀{zs:List Int},aF K H (zs.map V.int) (zs.map Tr.int)
 |[]=>.nil
 |z::zs=>.cons (.int z) qY
end
structure br where
 hd:Addr->Bool
 ix:Addr->Option Nat
instance:CoeFun br (fun _=>Addr->Bool):=⟨br.hd⟩
def aT(B:br)(H:Hp):Vw:=⟨fun b=>if B.hd b=true then none else H b,B.ix⟩
def HB(B:br)(H:Hp):Prop:=∀b,B.hd b=true->∃o,H b=some o/\∀vs,o≠ .tup vs
section
variable {B B':br}{H H':Hp}
theorem dc{b:Addr}(h:B.hd b=false):(aT B H).H b=H b:=by show(if B.hd b=true then none else H b)=_;rw[h,ai dU]
theorem aR:ar (aT B H).H H:=fun b o (e:(if B.hd b=true then none else H b)=some o)=>by
 split at e
 ·cases e
 ·exact e
theorem aW(s:ar H H'):b9 (aT B H) (aT B H'):=⟨fun b o (e:(if B.hd b=true then none else H b)=some o)=>by
 show(if B.hd b=true then none else H' b)=some o;split at e
 ·cases e
 ·rw[ai (by assumption)];exact s b o e,fun _ _ e=>e⟩
def raw(B:br)(H:Hp):Vw:=⟨H,B.ix⟩
theorem e6:b9 (aT B H) (raw B H):=⟨aR,fun _ _ e=>e⟩
theorem HB.same (h:HB B H)(s:ar H H'):HB B H':=fun b e=>by obtain⟨o,q,n⟩:=h b e;exact⟨o,s b o q,n⟩
theorem HB.free {p:Addr}(h:HB B H)(hp:H p=none):B.hd p=false:=by
 cases e:B.hd p with
 |false=>rfl
 |true=>obtain⟨o,q,_⟩:=h p e;rw[hp]at q;cases q
theorem HB.new {p:Addr}{o:HO}(h:HB B H)(hp:H p=none):(aT B (upd H p o)).H p=some o:=by rw[dc (h.free hp)];exact aP
structure mK(B B':br):Prop where
 hd:∀b,B.hd b=true->B'.hd b=true
 ix:∀b i,B'.ix b=some i->B.ix b=some i
theorem o9(h:mK B B'):b9 (aT B' H) (aT B H):=⟨fun b o (e:(if B'.hd b=true then none else H b)=some o)=>by
 show(if B.hd b=true then none else H b)=some o;split at e
 ·cases e
 ·rename_i n;rw[ai fun z=>n (h.hd b z)];exact e,h.ix⟩
end
inductive Rs(α:Type) where
 |bad|ok (a:α)|exc (c:Tr)
def Rs.bind {α β:Type}(r:Rs α)(f:α->Rs β):Rs β:=match r with
 |.ok a=>f a
 |.exc c=>.exc c
 |.bad=>.bad
def XA(X:Cx)(c:Tr)(H:Hp):Prop:=False
def kr(xc:Tr->Prop){α:Type}(r:Rs α)(k:α->Prop):Prop:=match r with
 |.ok a=>k a
 |.exc c=>xc c
 |.bad=>False
def xP(X:Cx)(H:Hp):Tr->Prop:=fun c=>∀H',ar H H'->XA X c H'
def Fi(X:Cx)(H:Hp){α:Type}(r:Rs α)(k:α->Prop):Prop:=kr (xP X H) r k
section
variable {X:Cx}{H H':Hp}{α β:Type}{r:Rs α}{k k':α->Prop}{xc Jh:Tr->Prop}
theorem kr.mono (h:kr xc r k)(w:∀a,k a->k' a):kr xc r k':=by
 cases r with
 |ok a=>exact w a h
 |_=>exact h
theorem kr.imp (h:kr xc r k)(w:∀c,xc c->Jh c):kr Jh r k:=by
 cases r with
 |ok a=>exact h
 |exc c=>exact w c h
 |bad=>exact h
theorem kr.bind {f:α->Rs β}{k:β->Prop}(h:kr xc (r.bind f) k):kr xc r fun a=>kr xc (f a) k:=by
 cases r with
 |_=>exact h
theorem Fi.mono (h:Fi X H r k)(w:∀a,k a->k' a):Fi X H r k':=kr.mono h w
theorem Fi.same (h:Fi X H r k)(s:ar H H'):Fi X H' r k:=kr.imp h fun _ q H2 s2=>q H2 (s.trans s2)
theorem Fi.bind {f:α->Rs β}{k:β->Prop}(h:Fi X H (r.bind f) k):Fi X H r fun a=>Fi X H (f a) k:=kr.bind h
end
inductive Cell where
 |no|sh (t:Tr)|ow (ts:List Tr)
abbrev ax:=List Cell
structure a4(K:PySem.W.Frag)(B:br)(H:Hp)(σ:St)(ρ:ax):Prop where
 len:ρ.length=σ.length
 sh:∀(i:Nat) (t:Tr),ρ[i]?=some (.sh t)->∃v,σ[i]?=some (some v)/\Rep K (aT B H) v t
 ow:∀(i:Nat) (ts:List Tr),ρ[i]?=some (.ow ts)->∃D ys,σ[i]?=some (some (.ref D))/\B D=true/\H D=some (.lst ys)/\aF K (aT B H) ys ts
 ap:∀(i j:Nat) (ts us:List Tr) (D:Addr),i≠j->ρ[i]?=some (.ow ts)->ρ[j]?=some (.ow us)->σ[i]?=some (some (.ref D))->σ[j]? ≠some (some (.ref D))
section
variable {K:PySem.W.Frag}{B B':br}{H H':Hp}{σ:St}{ρ:ax}
theorem a4.same (h:a4 K B H σ ρ)(s:ar H H'):a4 K B H' σ ρ:=
 ⟨h.len,fun i t e=>by obtain⟨v,e1,r⟩:=h.sh i t e;exact⟨v,e1,r.same (aW s)⟩,
   fun i ts e=>by obtain⟨D,ys,e1,e2,e3,r⟩:=h.ow i ts e;exact⟨D,ys,e1,e2,s _ _ e3,r.same (aW s)⟩,h.ap⟩
theorem fb{α:Type}{l:List α}{i j:Nat}{x y:α}(e:(l.set i x)[j]?=some y):(i=j/\i<l.length/\y=x)\/(i≠j/\l[j]?=some y):=by
 rw[jC]at e;by_cases xo:i=j
 ·rw[ae xo]at e;by_cases hl:i<l.length
  ·rw[ae hl]at e;exact .inl ⟨xo,hl,(Option.some.inj e).symm⟩
  ·rw[ai hl]at e;cases e
 ·rw[ai xo]at e;exact .inr ⟨xo,e⟩
theorem a4.set {v:V}{t:Tr}(h:a4 K B H σ ρ)(i:Nat)(r:Rep K (aT B H) v t):a4 K B H (σ.set i (some v)) (ρ.set i (.sh t)):=by
 refine⟨by rw[kS,kS];exact h.len,fun j u e=>?_,fun j us e=>?_,fun j k us ws D Q_ e1 e2 e3=>?_⟩
 ·rcases fb e with⟨rfl,hl,q⟩|⟨xo,q⟩
  ·cases q;exact⟨v,by rw[jC,ae rfl,ae (by rw[<-h.len];exact hl)],r⟩
  ·obtain⟨w,e1,r1⟩:=h.sh j u q;exact⟨w,by rw[jC,ai xo];exact e1,r1⟩
 ·rcases fb e with⟨rfl,hl,q⟩|⟨xo,q⟩
  ·cases q
  ·obtain⟨D,ys,e1,r1⟩:=h.ow j us q;exact⟨D,ys,by rw[jC,ai xo];exact e1,r1⟩
 ·rcases fb e1 with⟨rfl,hl,q⟩|⟨xo,q⟩
  ·cases q
  ·rcases fb e2 with⟨rfl,hl,q2⟩|⟨Ra,q2⟩
   ·cases q2
   ·rw[jC,ai xo]at e3;rw[jC,ai Ra];exact h.ap j k us ws D Q_ q q2 e3
end
def startT(n:Nat)(ts:List Tr):ax:=ts.map Cell.sh++List.replicate (n - ts.length) .no
theorem jG{n i:Nat}{ts:List Tr}{c:Cell}(e:(startT n ts)[i]?=some c):c=.no\/∃t,ts[i]?=some t/\c=.sh t:=by
 unfold startT at e;by_cases hi:i<ts.length
 ·rw[dn (by rw[aE];exact hi),bb]at e;cases q:ts[i]? with
  |none=>rw[q]at e;cases e
  |some u=>rw[q]at e;exact .inr ⟨u,rfl,(Option.some.inj e).symm⟩
 ·rw[gU (by rw[aE];omega),nV]at e;split at e
  ·exact .inl (Option.some.inj e).symm
  ·cases e
theorem a4.start {K:PySem.W.Frag}{B:br}{H:Hp}{N:List Str}{vs:List V}{ts:List Tr}(h:aF K (aT B H) vs ts):a4 K B H (start N vs) (startT N.length ts):=by
 have hl:=h.length;refine⟨by unfold L2.start startT;simp only[bP,aE,kA];omega,fun i t e=>?_,fun i us e=>?_,fun i j us ws D _ e _ _=>?_⟩
 ·rcases jG e with q|⟨u,q,q2⟩
  ·cases q
  ·cases q2;obtain⟨v,e1,r⟩:=h.get q;have hi:i<vs.length:=(cG.mp e1).1;refine⟨v,?_,r⟩;unfold L2.start;rw[dn (by rw[aE];exact hi),bb,e1]
   rfl
 ·rcases jG e with q|⟨u,q,q2⟩
  ·cases q
  ·cases q2
 ·rcases jG e with q|⟨u,q,q2⟩
  ·cases q
  ·cases q2
def isStar:Expr->Bool
 |.Starred .. =>true
 |_=>false
theorem aX{e:Expr}(es:List Expr)(env:Env)(h:isStar e=false):starEach (e::es) env=(false,eval e env)::starEach es env:=by
 cases e<;>first|rfl|cases h
def aI(es:List Expr):Bool:=es.all fun e=>!isStar e
theorem bu{pos:Pos}{env:Env}:∀{es:List Expr},aI es=true->(backTo pos (starEach es env)).any (·.1)=false
 |[],_=>by rw[starEach];rfl
 |e::es,h=>by
  unfold aI at h;rw[fR,a3]at h;have h1:isStar e=false:=by simpa using h.1
  rw[aX es env h1];exact bu (es:=es) h.2
theorem gA{pos:Pos}{env:Env}:∀{es:List Expr},aI es=true->(backTo pos (starEach es env)).all (fun x=>!x.1)=true
 |[],_=>by rw[starEach];rfl
 |e::es,h=>by
  unfold aI at h;rw[fR,a3]at h;have h1:isStar e=false:=by simpa using h.1
  rw[aX es env h1];exact gA (es:=es) h.2
theorem aD{e:Expr}{es:List Expr}(h:aI (e::es)=true):isStar e=false/\aI es=true:=by
 unfold aI at h;rw[fR,a3]at h;exact⟨by simpa using h.1,h.2⟩
def j_:Expr->Bool
 |.ListComp .. =>true
 |.SetComp .. =>true
 |.DictComp .. =>true
 |_=>false
theorem o_{e:Expr}{t:Option Expr}{n:Nat}{env:Env}(h:j_ e=false):swapsWith e t n env=pure false:=by
 cases e<;>first|rfl|cases h
def mi:Expr->Bool
 |.UnaryOp .. =>false
 |.BoolOp .. =>false
 |.IfExp .. =>false
 |.Compare .. =>false
 |_=>true
theorem vR{e:Expr}{env:Env}(h:mi e=true):∀whole,isTrue e env whole=(do let v<-whole;standAt e.pos;holding [v] (truthy v)):=by
 intro whole;cases e<;>first|rfl|cases h
def isSet:Expr->Bool
 |.Set .. =>true
 |_=>false
theorem fc{e:Expr}{env:Env}(h:isSet e=false):∀x,foldedSetIterable e env x=pure x:=by
 intro x;cases e<;>first|rfl|cases h
def isCall:Expr->Bool
 |.Call .. =>true
 |_=>false
theorem e7{o:Expr}{x:Str}{env:Env}{w:Sem Value}(h:isCall o=false):attributeBase o x env w=w:=by
 cases o<;>first|rfl|cases h
inductive tP(X:Cx)(F:ax->Rs Tr)(σ:St)(H:Hp)(Q:VK):Prop
 |mk (B:br) (ρ:ax):HB B H->a4 X.K B H σ ρ->(Fi X H (F ρ) fun t=>∀v H',ar H H'->Rep X.K (aT B H') v t->Q v H')->tP X F σ H Q
inductive tQ(X:Cx)(F:ax->Rs Bool)(σ:St)(H:Hp)(Q:Bool->Hp->Prop):Prop
 |mk (B:br) (ρ:ax):HB B H->a4 X.K B H σ ρ->(Fi X H (F ρ) fun b=>∀H',ar H H'->Q b H')->tQ X F σ H Q
inductive vq(X:Cx)(F:ax->Rs (List Tr))(σ:St)(H:Hp)(Q:List V->Hp->Prop):Prop
 |mk (B:br) (ρ:ax):HB B H->a4 X.K B H σ ρ->(Fi X H (F ρ) fun ts=>∀vs H',ar H H'->aF X.K (aT B H') vs ts->Q vs H')->vq X F σ H Q
inductive Out where
 |nx (ρ:ax)|ret (t:Tr)|bk (ρ:ax)|ct (ρ:ax)
structure cP(C B0:br)(H0:Hp)(B:br)(H:Hp):Prop where
 kp:∀b o,C b=true->H0 b=some o->H b=some o
 fF:b9 (aT B0 H0) (aT B H)
 sub:mK C B
 hb:HB B H
section
variable {C B0 B B1 B2:br}{H0 H H' H1 H2:Hp}
theorem cP.go (h:cP C B0 H0 B H)(s:ar H H'):cP C B0 H0 B H':=⟨fun b o c e=>s _ _ (h.kp b o c e),h.fF.trans (aW s),h.sub,h.hb.same s⟩
theorem mK.refl:mK B B:=⟨fun _ e=>e,fun _ _ e=>e⟩
theorem cP.refl (h:HB B H)(c:mK C B):cP C B H B H:=⟨fun _ _ _ e=>e,b9.refl _,c,h⟩
theorem cP.same (h:cP C C H0 B H):ar H0 H:=fun b o e=>by
 cases q:C b with
 |true=>exact h.kp b o q e
 |false=>exact aR _ _ (h.fF.h b o (by rw[dc q];exact e))
end
def FD(X:Cx)(D:Ends)(C B0:br)(H0:Hp):Out->Prop
 |.nx ρ=>∀bL B' H',cP C B0 H0 B' H'->a4 X.K B' H' bL ρ->D.nx bL H'
 |.ret t=>∀v B' H',cP C B0 H0 B' H'->Rep X.K (aT C H') v t->D.rt v H'
 |.bk ρ=>∀bL B' H',cP C B0 H0 B' H'->a4 X.K B' H' bL ρ->D.bk bL H'
 |.ct ρ=>∀bL B' H',cP C B0 H0 B' H'->a4 X.K B' H' bL ρ->D.ct bL H'
def xS(X:Cx)(C B0:br)(H0:Hp):Tr->Prop:=fun c=>∀B' H',cP C B0 H0 B' H'->XA X c H'
inductive tS(X:Cx)(G:ax->Rs Out)(D:Ends)(σ:St)(H:Hp):Prop
 |mk (C:br) (B0:br) (H0:Hp) (B:br) (ρ:ax):cP C B0 H0 B H->a4 X.K B H σ ρ->kr (xS X C B0 H0) (G ρ) (FD X D C B0 H0)->tS X G D σ H
theorem PE.weak {X:Cx}{e:Expr}{t t':TE}(h:PE X e t)(w:∀σ H Q,t' σ H Q->t σ H Q):PE X e t':=fun pins s σ H Q I q=>h pins s σ H Q I (w σ H Q q)
theorem PT.weak {X:Cx}{e:Expr}{t t':TT}(h:PT X e t)(w:∀σ H Q,t' σ H Q->t σ H Q):PT X e t':=fun pins s σ H Q I q=>h pins s σ H Q I (w σ H Q q)
theorem PW.weak {X:Cx}{e:Expr}{t t':TT}(h:PW X e t)(w:∀σ H Q,t' σ H Q->t σ H Q):PW X e t':=fun wh pins s σ H Q I q=>h wh pins s σ H Q I (w σ H Q q)
theorem PA.weak {X:Cx}{es:List Expr}{t t':TA}(h:PA X es t)(w:∀σ H Q,t' σ H Q->t σ H Q):PA X es t':=fun pos pins s σ H Q I q=>h pos pins s σ H Q I (w σ H Q q)
theorem PS.weak {X:Cx}{st:Stmt}{t t':TS}(h:PS X st t)(w:∀D σ H,t' D σ H->t D σ H):PS X st t':=fun pins s σ H D I q=>h pins s σ H D I (w D σ H q)
theorem jQ.weak {X:Cx}{st:List Stmt}{t t':TS}(h:jQ X st t)(w:∀D σ H,t' D σ H->t D σ H):jQ X st t':=fun pins s σ H D I q=>h pins s σ H D I (w D σ H q)
def bA(ρ:ax)(i:Nat):Rs Tr:=match ρ[i]? with
 |some (.sh t)=>.ok t
 |_=>.bad
theorem zX{X:Cx}{B:br}{σ:St}{H:Hp}{ρ:ax}{i:Nat}{k:Tr->Prop}(r:a4 X.K B H σ ρ)(h:Fi X H (bA ρ i) k):∃v t,σ[i]?=some (some v)/\Rep X.K (aT B H) v t/\k t:=by
 unfold bA at h;split at h
 ·rename_i t e;obtain⟨v,e1,r1⟩:=r.sh i t e;exact⟨v,t,e1,r1,h⟩
 ·exact h.elim
section
variable {X:Cx}{a b c:Expr}{pos:Pos}{F G E:ax->Rs Tr}
theorem Ji(i:Nat){x:Str}{pos:Pos}(hN:X.N[i]?=some x:=by rfl) (hv:LV X.env.scope x:=by first|exact Or.inl rfl|exact Or.inr (Or.inl rfl)|exact Or.inr (Or.inr rfl)) (hd:(x==("__debug__":Str))=false:=by decide)
  (vx:(x==("__classdict__":Str))=false:=by decide):PE X (.Name x pos) (tP X fun ρ=>bA ρ i):=
 (ED hN hv hd vx).weak fun σ H Q ⟨B,ρ,hb,r,q⟩=>by
  obtain⟨v,t,e,r1,k⟩:=zX r q;exact⟨v,e,k v H (ar.refl H) r1⟩
theorem xp{v:V}{t:Tr}{e:Expr}(h:PE X e (tC v))(r:∀H,Rep X.K H v t):PE X e (tP X fun _=>.ok t):=
 h.weak fun σ H Q ⟨B,ρ,_,_,q⟩=>q v H (ar.refl H) (r _)
theorem Jj{i:Int}{j pos}:PE X (.Constant (.int i) j pos) (tP X fun _=>.ok (.int i)):=xp EE fun H=>.int i
theorem Nu{b:Bool}{j pos}:PE X (.Constant (.bool b) j pos) (tP X fun _=>.ok (.bl b)):=xp Iv fun H=>.bl b
theorem Jk{j pos}:PE X (.Constant .none j pos) (tP X fun _=>.ok .a_):=xp EF fun H=>.a_
theorem Jl{z:Str}{j pos}(hz:z.length<=bS:=by decide):PE X (.Constant (.str z) j pos) (tP X fun _=>.ok (.str z)):=xp EG fun H=>.str z hz
def ff(h:Tr->Tr->Rs Tr)(a b:Rs Tr):Rs Tr:=a.bind fun x=>b.bind fun y=>h x y
inductive rT(X:Cx)(h:Tr->Tr->Rs Tr)(x:V)(y:V)(H:Hp)(Q:VK):Prop
 |mk (B:br) (tx:Tr) (ty:Tr):HB B H->Rep X.K (aT B H) x tx->Rep X.K (aT B H) y ty->(Fi X H (h tx ty) fun t=>∀v H',ar H H'->Rep X.K (aT B H') v t->Q v H')->rT X h x y H Q
abbrev qZ(X:Cx)(f:Value->Value->Sem Value)(h:Tr->Tr->Rs Tr):Prop:=l8 X f (rT X h)
theorem i'{h:Tr->Tr->Rs Tr}{σ:St}{H:Hp}{Q:VK}(q:tP X (fun ρ=>ff h (F ρ) (G ρ)) σ H Q):EN (rT X h) (tP X F) (tP X G) σ H Q:=by
 obtain⟨B,ρ,hb,r,q⟩:=q;refine⟨B,ρ,hb,r,q.bind.mono fun x qx v H1 s1 r1=>⟨B,ρ,hb.same s1,r.same s1,(qx.bind.same s1).mono fun y qy u H2 s2 r2=>⟨B,x,y,(hb.same s1).same s2,r1.same (aW s2),r2,?_⟩⟩⟩;exact(qy.same (s1.trans s2)).mono fun t qt w H3 s3 r3=>qt w H3 ((s1.trans s2).trans s3) r3
theorem Jm{op:Operator}{h:Tr->Tr->Rs Tr}(ho:qZ X (binaryOp op) h)(ha:PE X a (tP X F))(hb:PE X b (tP X G)):PE X (.BinOp a op b pos) (tP X fun ρ=>ff h (F ρ) (G ρ)):=
 (ID ho ha hb).weak fun _ _ _ q=>i' q
theorem Jn{op:CmpOp}{h:Tr->Tr->Rs Tr}(ho:qZ X (compareOp op) h)(ha:PE X a (tP X F))(hb:PE X b (tP X G))(hm:behindInMarks op b=false:=by first|exact sf _|rfl|with_unfolding_all rfl):PE X (.Compare a [op] [b] pos) (tP X fun ρ=>ff h (F ρ) (G ρ)):=
 (BN ho ha hb hm).weak fun _ _ _ q=>i' q
def q_(r:Rs Tr):Rs Bool:=r.bind fun t=>match t with
 |.bl b=>.ok b
 |_=>.bad
theorem Rep.mj {K:PySem.W.Frag}{H:Vw}{v:V}{b:Bool}(h:Rep K H v (.bl b)):v=.bl b:=by cases h;rfl
theorem eO{K:PySem.W.Frag}{W:Vw}{xs:List V}{t:Tr}(r:aF K W xs [t]):∃x,xs=[x]/\Rep K W x t:=by
 cases r with
 |cons a r=>cases r;exact⟨_,rfl,a⟩
theorem DY{K:PySem.W.Frag}{W:Vw}{xs:List V}{t u:Tr}(r:aF K W xs [t,u]):∃x y,xs=[x,y]/\Rep K W x t/\Rep K W y u:=by
 cases r with
 |cons a r=>
  obtain⟨y,rfl,b⟩:=eO r;exact⟨_,_,rfl,a,b⟩
theorem Rep.xq {K:PySem.W.Frag}{H:Vw}{v:V}{ns:List Int}(h:Rep K H v (.gq ns)):∃a,v=.ref a/\iF K H.H a (ns.map V.int):=by cases h;exact⟨_,rfl,by assumption⟩
theorem Rep.sA {K:PySem.W.Frag}{H:Vw}{v:V}{av:List (Key×Tr)}(h:Rep K H v (.a8 av)):∃a ah,v=.ref a/\Rd H.H a (.dK ah)/\ah.map (·.1)=av.map (·.1)/\aF K H (ah.map (·.2)) (av.map (·.2)):=by cases h;exact⟨_,_,rfl,by assumption,by assumption,by assumption⟩
theorem Rep.ia {K:PySem.W.Frag}{H:Vw}{v:V}{i:Nat}(h:Rep K H v (.at i)):∃a,v=.ref a/\H.ix a=some i:=by cases h;exact⟨_,rfl,by assumption⟩
theorem Rep.vS {K:PySem.W.Frag}{H:Vw}{v:V}{x:Str}{fs:List (Str×Tr)}(h:Rep K H v (.ob x fs)):∃a dx c_,v=.ref a/\H.H a=some (.ins (clsAt K x) dx c_)/\c_.map (·.1)=fs.map (·.1)/\aF K H (c_.map (·.2)) (fs.map (·.2)):=by cases h;exact⟨_,_,_,rfl,by assumption,by assumption,by assumption⟩
theorem Rep.xr {K:PySem.W.Frag}{H:Vw}{v:V}(h:Rep K H v .a_):v=.a_:=by cases h;rfl
theorem Rep.int_inv {K:PySem.W.Frag}{H:Vw}{v:V}{i:Int}(h:Rep K H v (.int i)):v=.int i:=by cases h;rfl
theorem Rep.str_inv {K:PySem.W.Frag}{H:Vw}{v:V}{z:Str}(h:Rep K H v (.str z)):v=.str z/\z.length<=bS:=by cases h;exact⟨rfl,by assumption⟩
theorem Rep.cA {K:PySem.W.Frag}{H:Vw}{v:V}{ts:List Tr}(h:Rep K H v (.tup ts)):∃a vs,v=.ref a/\i6 K H.H a vs/\aF K H vs ts:=by cases h;exact⟨_,_,rfl,.inl (.inl (by assumption)),by assumption⟩
theorem Rep.zY {K:PySem.W.Frag}{H:Vw}{v:V}{ts:List Tr}(h:Rep K H v (.tup ts)):∃a vs,v=.ref a/\H.H a=some (.tup vs)/\aF K H vs ts:=by cases h;exact⟨_,_,rfl,by assumption,by assumption⟩
theorem Jo{K:PySem.W.Frag}{H:Hp}{a:Addr}{vs:List V}(h:H a=some (.tup vs)):i6 K H a vs:=.inl (.inl h)
theorem Rep.lst_inv {K:PySem.W.Frag}{H:Vw}{v:V}{ts:List Tr}(h:Rep K H v (.lst ts)):∃a vs,v=.ref a/\H.H a=some (.lst vs)/\aF K H vs ts:=by cases h;exact⟨_,_,rfl,by assumption,by assumption⟩
theorem Ck{H:Hp}{r:Rs Tr}{k:Bool->Prop}(h:Fi X H (q_ r) k):Fi X H r fun t=>∃b,t=.bl b/\k b:=by
 refine h.bind.mono fun t q=>?_
 cases t with
 |bl b=>exact⟨b,rfl,q⟩
 |_=>exact q.elim
theorem Jp{op:CmpOp}{h:Tr->Tr->Rs Tr}(ho:qZ X (compareOp op) h)(ha:PE X a (tP X F))(hb:PE X b (tP X G))(hm:behindInMarks op b=false:=by first|exact sf _|rfl|with_unfolding_all rfl):PT X (.Compare a [op] [b] pos) (tQ X fun ρ=>q_ (ff h (F ρ) (G ρ))):=
 (BO ho ha hb hm).weak fun σ H Q ⟨B,ρ,hb,r,q⟩=>by
  refine i' (Q:=fun x H'=>∃k,x=.bl k/\Q k H') ⟨B,ρ,hb,r,(Ck q).mono fun t qt v H' s' r'=>?_⟩;obtain⟨b,rfl,k⟩:=qt;exact⟨b,r'.mj,k H' s'⟩
def yE:Tr->Rs Bool
 |.a_=>.ok false
 |.bl b=>.ok b
 |.int i=>.ok (i !=0)
 |.str z=>.ok ((z.length:Int) !=0)
 |.tup ts=>.ok (!ts.isEmpty)
 |.lst ts=>.ok (!ts.isEmpty)
 |.a8 av=>.ok (!av.isEmpty)
 |_=>.bad
theorem aF.isEmpty {K:PySem.W.Frag}{H:Vw}{vs:List V}{ts:List Tr}(h:aF K H vs ts):vs.isEmpty=ts.isEmpty:=by cases h<;>rfl
theorem lC:bS<=sizeLine:=by rw[cX];decide
theorem Cm{K:PySem.W.Frag}{H:Vw}{v:V}{t:Tr}{b:Bool}(r:Rep K H v t)(e:yE t=.ok b):BP K v H b:=by
 cases r with
 |a_=>cases e;rfl
 |bl c=>cases e;rfl
 |int i=>cases e;rfl
 |str z h=>cases e;exact⟨a6 h lC,rfl⟩
 |ty n=>cases e
 |tup h r=>cases e;exact .inr (.inl ⟨_,.inl (.inl h),by rw[r.isEmpty]⟩)
 |lst h r=>cases e;exact .inl ⟨_,.of h,by rw[r.isEmpty]⟩
 |gq h=>cases e
 |«at» h=>cases e
 |dB h e1 rr=>cases e
 |ob h e1 rr=>cases e
 |zV h c=>cases e
 |a8 h e1 r=>
  cases e;refine .inr (.inr ⟨_,h,?_⟩);rename_i ah av;cases ah<;>cases av<;>first|rfl|cases e1
theorem zZ{H:Vw}{v:V}{t:Tr}{k:Bool->Prop}(r:Rep X.K H v t)(h:Fi X H (yE t) k):∃b,BP X.K v H b/\k b:=by
 cases e:yE t with
 |ok b=>rw[e]at h;exact⟨b,Cm r e,h⟩
 |exc c=>cases t<;>cases e
 |bad=>rw[e]at h;exact h.elim
theorem Jq(ha:PE X a (tP X F))(he:mi a=true:=by rfl):PT X a (tQ X fun ρ=>(F ρ).bind yE):=
 (zz ha (vR he)).weak fun σ H Q ⟨B,ρ,hb,r,q⟩=>⟨B,ρ,hb,r,q.bind.mono fun t qt v H' s' r'=>by
  obtain⟨b,h1,h2⟩:=zZ (r'.same e6) (qt.same s');exact⟨b,h1,h2 H' s'⟩⟩
def z3(r:Rs Bool):Rs Bool:=r.bind fun b=>.ok (!b)
variable {A B:ax->Rs Bool}{rest:List Expr}
theorem Jr(ha:PT X a (tQ X A)):PT X (.UnaryOp .Not a pos) (tQ X fun ρ=>z3 (A ρ)):=
 (EH ha).weak fun σ H Q ⟨B,ρ,hb,r,q⟩=>⟨B,ρ,hb,r,q.bind⟩
def yF(a b:Rs Bool):Rs Bool:=a.bind fun c=>if c then b else .ok false
def Bv(a b:Rs Bool):Rs Bool:=a.bind fun c=>if c then .ok true else b
theorem FE(ha:PT X a (tQ X A)):PW X (.BoolOp .And [a] pos) (tQ X A):=pw_and1 ha
theorem Js(ha:PT X a (tQ X A)):PW X (.BoolOp .Or [a] pos) (tQ X A):=pw_or1 ha
theorem w_and(ha:PT X a (tQ X A))(hb:PW X (.BoolOp .And (b::rest) pos) (tQ X B)):PW X (.BoolOp .And (a::b::rest) pos) (tQ X fun ρ=>yF (A ρ) (B ρ)):=
 (pw_and ha hb).weak fun σ H Q ⟨Bb,ρ,hb,r,q⟩=>⟨Bb,ρ,hb,r,q.bind.mono fun c qc H1 s1=>by
  cases c with
  |true=>exact⟨Bb,ρ,hb.same s1,r.same s1,(Fi.same qc s1).mono fun b qb H2 s2=>qb H2 (s1.trans s2)⟩
  |false=>exact qc H1 s1⟩
theorem w_or(ha:PT X a (tQ X A))(hb:PW X (.BoolOp .Or (b::rest) pos) (tQ X B)):PW X (.BoolOp .Or (a::b::rest) pos) (tQ X fun ρ=>Bv (A ρ) (B ρ)):=
 (pw_or ha hb).weak fun σ H Q ⟨Bb,ρ,hb,r,q⟩=>⟨Bb,ρ,hb,r,q.bind.mono fun c qc H1 s1=>by
  cases c with
  |false=>exact⟨Bb,ρ,hb.same s1,r.same s1,(Fi.same qc s1).mono fun b qb H2 s2=>qb H2 (s1.trans s2)⟩
  |true=>exact qc H1 s1⟩
theorem FF{op}{es:List Expr}(h:PW X (.BoolOp op es pos) (tQ X A)):PT X (.BoolOp op es pos) (tQ X A):=h.pt
def Mc(r:Rs Bool):Rs Tr:=r.bind fun b=>.ok (.bl b)
def Cn(c:Rs Bool)(a b:Rs Tr):Rs Tr:=c.bind fun k=>if k then a else b
theorem Nv(hc:PT X c (tQ X A))(ha:PE X a (tP X F))(hb:PE X b (tP X G)):PE X (.IfExp c a b pos) (tP X fun ρ=>Cn (A ρ) (F ρ) (G ρ)):=
 (zp hc ha hb).weak fun σ H Q ⟨B,ρ,hb,r,q⟩=>⟨B,ρ,hb,r,q.bind.mono fun k qk H1 s1=>by
  cases k with
  |true=>exact⟨B,ρ,hb.same s1,r.same s1,(Fi.same qk s1).mono fun t q v H2 s2 r2=>q v H2 (s1.trans s2) r2⟩
  |false=>exact⟨B,ρ,hb.same s1,r.same s1,(Fi.same qk s1).mono fun t q v H2 s2 r2=>q v H2 (s1.trans s2) r2⟩⟩
variable {es:List Expr}{L:ax->Rs (List Tr)}
def a9(a:Rs Tr)(l:Rs (List Tr)):Rs (List Tr):=a.bind fun x=>l.bind fun xs=>.ok (x::xs)
theorem DZ:PA X [] (vq X fun _=>.ok []):=sk.weak fun σ H Q ⟨B,ρ,hb,r,q⟩=>q [] H (ar.refl H) .nil
theorem z4(ha:PE X a (tP X F))(hr:PA X es (vq X L))(hs:isStar a=false:=by rfl):PA X (a::es) (vq X fun ρ=>a9 (F ρ) (L ρ)):=
 (nG ha hr (aX _ _ hs)).weak fun σ H Q ⟨B,ρ,hb,r,q⟩=>⟨B,ρ,hb,r,q.bind.mono fun x qx v H1 s1 r1=>⟨B,ρ,hb.same s1,r.same s1,(qx.bind.same s1).mono fun xs qs vs H2 s2 r2=>qs _ H2 (s1.trans s2) (.cons (r1.same (aW s2)) r2)⟩⟩
def iS:Nat:=16777216
theorem fo:iS=sizeLine:=cX.symm
def pb(l:Rs (List Tr)):Rs Tr:=l.bind fun ts=>if ts.length<=iS then .ok (.tup ts)else .bad
def z5(l:Rs (List Tr)):Rs Tr:=l.bind fun ts=>if ts.length<=iS then .ok (.lst ts)else .bad
theorem Jt{x1}(h:PA X es (vq X L)):PE X (.Tuple es x1 pos) (tP X fun ρ=>pb (L ρ)):=
 (E5 h).weak fun σ H Q ⟨B,ρ,hb,r,q⟩=>⟨B,ρ,hb,r,q.bind.mono fun ts qt vs H1 s1 r1=>by
  by_cases hz:ts.length<=iS
  ·rw[ae hz]at qt;refine⟨by rw[r1.length,<-fo];exact hz,fun p hp=>qt (.ref p) _ (s1.Cj (s1.free hp)) (.tup ((hb.same s1).new hp) (r1.same (aW (ar.upd hp))))⟩
  ·rw[ai hz]at qt;exact qt.elim⟩
def cp(h:List Tr->Rs Tr)(l:Rs (List Tr)):Rs Tr:=l.bind h
inductive rC(X:Cx)(h:List Tr->Rs Tr)(xs:List V)(H:Hp)(Q:VK):Prop
 |mk (B:br) (ts:List Tr):HB B H->aF X.K (aT B H) xs ts->(Fi X H (h ts) fun t=>∀v H',ar H H'->Rep X.K (aT B H') v t->Q v H')->rC X h xs H Q
abbrev lD(X:Cx)(f:Value)(h:List Tr->Rs Tr):Prop:=cV X f (rC X h)
theorem ra{h:List Tr->Rs Tr}{σ:St}{H:Hp}{Q:VK}(q:tP X (fun ρ=>cp h (L ρ)) σ H Q):M5 (rC X h) (vq X L) σ H Q:=by
 obtain⟨B,ρ,hb,r,q⟩:=q;exact⟨B,ρ,hb,r,q.bind.mono fun ts qt vs H1 s1 r1=>⟨B,ts,hb.same s1,r1,(qt.same s1).mono fun t qt v H2 s2 r2=>qt v H2 (s1.trans s2) r2⟩⟩
theorem Co{id:String}{x:Str}{p:Pos}{e:Expr}{h:List Tr->Rs Tr}(hc:lD X (.builtin id) h)(hm:X.mg x=none)(ha:PA X (e::es) (vq X L))(hv:bootBuiltins x=some (.builtin id):=by rfl) (hg:Gl X x:=by rfl) (hn:x≠"__name__":=by decide) (dG:(x==("__debug__":Str))=false:=by decide)
  (bx:aI (e::es)=true:=by rfl):PE X (.Call (.Name x p) (e::es) [] pos) (tP X fun ρ=>cp h (L ρ)):=
 (ub hc hg hm hv ha hn dG (aX _ _ (aD bx).1) (bu (aD bx).2)).weak fun _ _ _ q=>ra q
theorem z6{T:String}{x:Str}{p:Pos}{e:Expr}{h:List Tr->Rs Tr}(hc:lD X (.type T) h)(hm:X.mg x=none)(ha:PA X (e::es) (vq X L))(hv:bootBuiltins x=some (.type T):=by rfl) (hg:Gl X x:=by rfl) (hn:x≠"__name__":=by decide) (dG:(x==("__debug__":Str))=false:=by decide)
  (bx:aI (e::es)=true:=by rfl):PE X (.Call (.Name x p) (e::es) [] pos) (tP X fun ρ=>cp h (L ρ)):=
 (mf hc hg hm hv ha hn dG (aX _ _ (aD bx).1) (bu (aD bx).2)).weak fun _ _ _ q=>ra q
inductive spT(K:PySem.W.Frag)(f:List Tr->Rs Tr)(vs:List V)(H:Hp)(Q:VK)(_w3:XK):Prop
 |mk (B:br) (ts:List Tr):HB B H->aF K (aT B H) vs ts->(∃t,f ts=.ok t/\∀v H',ar H H'->Rep K (aT B H') v t->Q v H')->spT K f vs H Q _w3
theorem Ju{x:Str}{st:Stmt}{ps:List Str}{f:Addr}{fd:FuncData}{k:Nat}{h:List Tr->Rs Tr}{e:Expr}{p:Pos}(D:qU X.K X.mg x st ps f fd)(G:cf X.prog X.w X.K X.mg X.base j8 k f fd ps (spT X.K h))(hr:bq k X.A)
  (ha:PA X (e::es) (vq X L)) (hg:Gl X x:=by rfl) (dG:(x==("__debug__":Str))=false:=by decide) (bx:aI (e::es)=true:=by rfl):PE X (.Call (.Name x p) (e::es) [] pos) (tP X fun ρ=>cp h (L ρ)):=
 (FA D G hr ha hg dG (aX _ _ (aD bx).1) (bu (aD bx).2)).weak fun σ H Q ⟨B,ρ,hb,r,q⟩=>⟨B,ρ,hb,r,q.bind.mono fun ts qt vs H1 s1 r1=>by
  cases e:h ts with
  |ok t=>rw[e]at qt;exact⟨B,ts,hb.same s1,by rw[dY];exact r1,t,e,fun v H2 s2 r2=>qt v H2 (s1.trans s2) r2⟩
  |exc c=>rw[e]at qt;exact(qt _ (ar.refl _)).elim
  |bad=>rw[e]at qt;exact qt.elim⟩
end
end L2
namespace L2
open PySem PySem.Spec PyProof.Rows
section
variable {X:Cx}{a b c e:Expr}{pos:Pos}{F:ax->Rs Tr}{G G':ax->Rs Out}{A:ax->Rs Bool}{st:Stmt}{rest Jv:List Stmt}
def vU(r:Rs Out)(G:ax->Rs Out):Rs Out:=r.bind fun o=>match o with
 |.nx ρ=>G ρ
 |.ret t=>.ok (.ret t)
 |.bk ρ=>.ok (.bk ρ)
 |.ct ρ=>.ok (.ct ρ)
theorem Jw:jQ X [] (tS X fun ρ=>.ok (.nx ρ)):=wV.weak fun D σ H ⟨C,B0,H0,B,ρ,si,r,q⟩=>q σ B H si r
theorem FG(h1:PS X st (tS X G))(h2:jQ X rest (tS X G')):jQ X (st::rest) (tS X fun ρ=>vU (G ρ) G'):=
 (t6 h1 h2).weak fun D σ H ⟨C,B0,H0,B,ρ,si,r,q⟩=>⟨C,B0,H0,B,ρ,si,r,q.bind.mono fun o qo=>by
  cases o with
  |nx gR=>exact fun bL B' H' Rb r'=>⟨C,B0,H0,B',gR,Rb,r',qo⟩
  |ret t=>exact qo
  |bk gR=>exact qo
  |ct gR=>exact qo⟩
theorem Jx(h1:PS X st (tS X G)):jQ X [st] (tS X G):=wW h1
def FH(i:Nat)(r:Rs Tr)(ρ:ax):Rs Out:=r.bind fun t=>.ok (.nx (ρ.set i (.sh t)))
theorem kr.here {α:Type}{C B0 B:br}{H0 H:Hp}{r:Rs α}{k:α->Prop}(h:kr (xS X C B0 H0) r k)(si:cP C B0 H0 B H):Fi X H r k:=h.imp fun _ q H' s'=>q B H' (si.go s')
theorem D0{C B0 B:br}{H0 H:Hp}{σ:St}{ρ:ax}{k:Tr->Prop}(si:cP C B0 H0 B H)(r:a4 X.K B H σ ρ)(q:kr (xS X C B0 H0) (F ρ) k){Q:VK}(hq:∀t v H',k t->ar H H'->cP C B0 H0 B H'->a4 X.K B H' σ ρ->Rep X.K (aT B H') v t->Q v H'):tP X F σ H Q:=
 ⟨B,ρ,si.hb,r,(q.here si).mono fun t qt v H' s' r'=>hq t v H' qt s' (si.go s') (r.same s') r'⟩
theorem Jy{C B0 B:br}{H0 H:Hp}{σ:St}{ρ:ax}{k:Bool->Prop}(si:cP C B0 H0 B H)(r:a4 X.K B H σ ρ)(q:kr (xS X C B0 H0) (A ρ) k){Q:Bool->Hp->Prop}(hq:∀b H',k b->ar H H'->cP C B0 H0 B H'->a4 X.K B H' σ ρ->Q b H'):tQ X A σ H Q:=
 ⟨B,ρ,si.hb,r,(q.here si).mono fun b qb H' s'=>hq b H' qb s' (si.go s') (r.same s')⟩
theorem Rep.out {K:PySem.W.Frag}{C B0 B:br}{H0 H:Hp}{v:V}{t:Tr}(r:Rep K (aT B H) v t)(si:cP C B0 H0 B H):Rep K (aT C H) v t:=r.same (o9 si.sub)
theorem Jz{i:Nat}{x:Str}{pos':Pos}(he:PE X e (tP X F))(hN:X.N.Nodup:=by assumption) (hi:X.N[i]?=some x:=by rfl) (hx:Loc X.env.scope x:=by first|exact Or.inl rfl|exact Or.inr rfl) (hs:j_ e=false:=by rfl) (hf:X.fn x=true\/X.env.scope.names.lookup x=some .local:=by first|exact .inl rfl|exact .inr rfl|assumption):
  PS X (.Assign [.Name x pos'] e pos) (tS X fun ρ=>FH i (F ρ) ρ):=
 (zu hN hi hx he (o_ hs) hf).weak fun D σ H ⟨C,B0,H0,B,ρ,si,r,q⟩=>D0 si r q.bind fun t v H1 qt s1 FI r1 rv=>qt _ B H1 FI (r1.set i rv)
def z7(r:Rs Tr):Rs Out:=r.bind fun t=>.ok (.ret t)
theorem JA(he:PE X e (tP X F)):PS X (.Return (some e) pos) (tS X fun ρ=>z7 (F ρ)):=
 (zr he).weak fun D σ H ⟨C,B0,H0,B,ρ,si,r,q⟩=>D0 si r q.bind fun t v H1 qt s1 FI r1 rv=>qt v B H1 FI (rv.out FI)
def HQ(c:Rs Bool)(a b:Rs Out):Rs Out:=c.bind fun k=>if k then a else b
theorem Nw{ys ns:List Stmt}(hc:PT X c (tQ X A))(ha:jQ X ys (tS X G))(hb:jQ X ns (tS X G')):PS X (.If c ys ns pos) (tS X fun ρ=>HQ (A ρ) (G ρ) (G' ρ)):=
 (DL hc ha hb).weak fun D σ H ⟨C,B0,H0,B,ρ,si,r,q⟩=>Jy si r q.bind fun k H1 qk s1 FI r1=>by
  cases k with
  |true=>exact Fv ⟨C,B0,H0,B,ρ,FI,r1,qk⟩
  |false=>exact Fu ⟨C,B0,H0,B,ρ,FI,r1,qk⟩
abbrev kx:=Tr->ax->Rs ax
inductive tG(X:Cx)(T:kx)(v:V)(σ:St)(H:Hp)(Q:St->Hp->Prop):Prop
 |mk (B:br) (ρ:ax) (t:Tr):HB B H->a4 X.K B H σ ρ->Rep X.K (aT B H) v t->(Fi X H (T t ρ) fun gR=>∀bL H',ar H H'->a4 X.K B H' bL gR->Q bL H')->tG X T v σ H Q
def gN(i:Nat):kx:=fun t ρ=>.ok (ρ.set i (.sh t))
theorem FJ(i:Nat){x:Str}(hN:X.N.Nodup:=by assumption) (hi:X.N[i]?=some x:=by rfl) (hx:Loc X.env.scope x:=by first|exact Or.inl rfl|exact Or.inr rfl) (hf:X.fn x=true\/X.env.scope.names.lookup x=some .local:=by first|exact .inl rfl|exact .inr rfl|assumption):PG X (.Name x pos) (tG X (gN i)):=by
 intro pins s σ H v u Q I r ⟨B,ρ,t,hb,rs,rt,q⟩;exact wX hN hi hx hf pins s σ H v u Q I r (q _ H (ar.refl H) (rs.set i rt))
def vV:List Nat->List Tr->ax->Rs ax
 |[],[],ρ=>.ok ρ
 |i::is,t::ts,ρ=>vV is ts (ρ.set i (.sh t))
 |_,_,_=>.bad
inductive HR(X:Cx)(T:List Tr->ax->Rs ax)(vs:List V)(σ:St)(H:Hp)(Q:St->Hp->Prop):Prop
 |mk (B:br) (ρ:ax) (ts:List Tr):HB B H->a4 X.K B H σ ρ->aF X.K (aT B H) vs ts->(Fi X H (T ts ρ) fun gR=>∀bL H',ar H H'->a4 X.K B H' bL gR->Q bL H')->HR X T vs σ H Q
theorem JB:BJ X [] (HR X (vV [])):=by
 intro pins s σ H vs us Q I r ⟨B,ρ,ts,hb,rs,rt,q⟩
 match ts,rt,q with
 |[],.nil,q=>exact BK pins s σ H [] us Q I r ⟨rfl,q σ H (ar.refl H) rs⟩
 |_::_,_,q=>exact q.elim
theorem FK{es:List Expr}{i:Nat}{is:List Nat}{x:Str}(h2:BJ X es (HR X (vV is)))(hN:X.N.Nodup:=by assumption) (hi:X.N[i]?=some x:=by rfl) (hx:Loc X.env.scope x:=by first|exact Or.inl rfl|exact Or.inr rfl) (hf:X.fn x=true\/X.env.scope.names.lookup x=some .local:=by first|exact .inl rfl|exact .inr rfl|assumption)
  (hs:(assignEach (.Name x pos::es) X.env).map (·.2)=assign (.Name x pos) X.env::(assignEach es X.env).map (·.2):=by rfl):BJ X (.Name x pos::es) (HR X (vV (i::is))):=by
 intro pins s σ H vs us Q I r ⟨B,ρ,ts,hb,rs,rt,q⟩
 match ts,rt,q with
 |[],_,q=>exact q.elim
 |t::ts,.cons r1 r2,q=>
  exact zt (wX hN hi hx hf) h2 hs pins s σ H _ us Q I r ⟨_,_,rfl,⟨B,_,ts,hb,rs.set i r1,r2,q⟩⟩
def gT(is:List Nat):kx:=fun t ρ=>match t with
 |.tup ts=>vV is ts ρ
 |_=>.bad
theorem xt:∀{is:List Nat} {ts:List Tr} {ρ gR:ax},vV is ts ρ=.ok gR->ts.length=is.length
 |[],[],_,_,_=>rfl
 |[],_::_,_,_,h=>by cases h
 |_::_,[],_,_,h=>by cases h
 |_::is,_::ts,_,_,h=>by rw[a5,a5,xt (is:=is) (ts:=ts) h]
theorem rb:∀{is:List Nat} {ts:List Tr} {ρ:ax} {c:Tr},vV is ts ρ≠ .exc c
 |[],[],_,_=>fun h=>by cases h
 |[],_::_,_,_=>fun h=>by cases h
 |_::_,[],_,_=>fun h=>by cases h
 |_::is,_::ts,_,_=>rb (is:=is) (ts:=ts)
theorem JC{es:List Expr}{k:Nat}{is:List Nat}(h:BJ X es (HR X (vV is)))(hc:X.calm=true:=by rfl) (hn:(assignEach es X.env).length=is.length:=by rfl) (bx:(assignEach es X.env).findIdx? (·.1)=none:=by rfl):PG X (.Tuple es k pos) (tG X (gT is)):=by
 intro pins s σ H v u Q I r ⟨B,ρ,t,hb,rs,rt,q⟩;cases rt with
 |tup hq rv=>
  have hq:=Jo (K:=X.K) hq;refine EJ hc h hn bx pins s σ H _ u Q I r ⟨_,_,rfl,(ar.tup aR hq),?_,B,ρ,_,hb,rs,rv,q⟩;have q':Fi X H (vV is _ ρ) _:=q;cases e:vV is _ ρ with
  |ok gR=>rw[rv.length];exact xt e
  |exc c=>exact(rb e).elim
  |bad=>rw[e]at q';exact q'.elim
 |_=>exact q.elim
structure ja(K:PySem.W.Frag)(B:br)(J:It)(H:Hp)(ts:List Tr):Prop where
 go:∀i B' H',i<ts.length->b9 (aT B H) (aT B' H')->HB B' H'->J.go i H'
 zv:∀i B' H' x Cp,i<ts.length->b9 (aT B H) (aT B' H')->HB B' H'->J.zv i H' x Cp->ar H' Cp/\∃t,ts[i]?=some t/\Rep K (aT B' Cp) x t
 stop:∀B' H',b9 (aT B H) (aT B' H')->J.stop ts.length H'
inductive tI(X:Cx)(W:ax->Rs (List Tr))(σ:St)(H:Hp)(R:It->Hp->Prop):Prop
 |mk (B:br) (ρ:ax):HB B H->a4 X.K B H σ ρ->(Fi X H (W ρ) fun ts=>∀J H',ar H H'->ja X.K B J H' ts->R J H')->tI X W σ H R
def yG(z:Str):List Tr:=z.cps.toList.map fun c=>Tr.str ⟨#[c]⟩
def j'(r:Rs Tr):Rs (List Tr):=r.bind fun t=>match t with
 |.tup ts=>.ok ts
 |.lst ts=>.ok ts
 |.str z=>.ok (yG z)
 |_=>.bad
theorem vW{K:PySem.W.Frag}{B:br}{H:Hp}{a:Addr}{vs:List V}{ts:List Tr}(h:aT B H a=some (.lst vs))(r:aF K (aT B H) vs ts):ja K B (Ph K a) H ts where
 go:=fun i B' H' hi s hb=>by
  have hv:i<vs.length:=by rw[r.length];exact hi
  exact⟨vs,vs[i],iF.of (aR _ _ (s.h _ _ h)),by simp[hv]⟩
 zv:=fun i B' H' x Cp hi s hb ⟨e,y⟩=>by
  subst e;have q:=y vs (iF.of (aR _ _ (s.h _ _ h)));obtain⟨t,e1,r1⟩:=r.zW q;exact⟨ar.refl _,t,e1,r1.same s⟩
 stop:=fun B' H' s=>⟨vs,iF.of (aR _ _ (s.h _ _ h)),by rw[r.length];exact aB _⟩
theorem yH{K:PySem.W.Frag}{B:br}{H:Hp}{a:Addr}{vs:List V}{ts:List Tr}(h:i6 K (aT B H) a vs)(r:aF K (aT B H) vs ts):ja K B (Pj K a) H ts where
 go:=fun i B' H' hi s hb=>by
  have hv:i<vs.length:=by rw[r.length];exact hi
  exact⟨vs,vs[i],ar.tup aR (s.h.tup h),by simp[hv]⟩
 zv:=fun i B' H' x Cp hi s hb ⟨e,y⟩=>by
  subst e;have q:=y vs (ar.tup aR (s.h.tup h));obtain⟨t,e1,r1⟩:=r.zW q;exact⟨ar.refl _,t,e1,r1.same s⟩
 stop:=fun B' H' s=>⟨vs,ar.tup aR (s.h.tup h),by rw[r.length];exact aB _⟩
theorem yI{K:PySem.W.Frag}{B:br}{H:Hp}(z:Str):ja K B (Mb z) H (yG z) where
 go:=fun i B' H' hi _ _=>by
  have h:i<z.cps.size:=by simpa[yG]using hi
  exact h
 zv:=fun i B' H' x Cp hi s hb ⟨e,c,hc,hx⟩=>by
  subst e;subst hx;refine⟨ar.refl _,.str ⟨#[c]⟩,?_,.str _ (by show 1<=bS;decide)⟩;unfold yG;rw[bb,kB,hc]
  rfl
 stop:=fun B' H' s=>by simp[yG,Mb]
theorem Cq{pins:List (Addr×Obj)}{σ:St}{H1:Hp}{s1:Shared}{R:It->Hp->Prop}{tg:Expr}{z:Str}{t:Tok}(I1:Inv X pins σ H1 s1)(q:R (Mb z) H1):wpAny (model X.prog X.w) X.A (pyIter (.str z t)) (LY X pins σ tg R) X.xe s1:=by
 have fin:∀b∈[s1.heap.objs.size],l9 X pins H1 b:=fun b hb=>by
  have e:b=s1.heap.objs.size:=by simpa using hb
  rw[e];exact I1.yn (aB _) (I1.bB.fresh (aB _))
 cases ha:z.cps.all (· <128)
 ·exact wpAny_pyIter_wide ha ⟨s1.heap.objs.size,[s1.heap.objs.size],_,_,H1,rfl,I1.kept (t':=s1.toks) fun b o e=>aQ _ e,
   um (n:="str_iterator") (t:=t) (by decide) (fun A' hA=>Walks.strWide hA _ z t) fun _ _ _ _ _ st hq=>wpAny_pyIter_striter_wide st hq,⟨_,bg _ rfl,rfl,rfl⟩,fin,q⟩
 ·exact wpAny_pyIter_ascii ha ⟨s1.heap.objs.size,[s1.heap.objs.size],_,_,H1,rfl,I1.kept (t':=s1.toks) fun b o e=>aQ _ e,
   um (n:="str_ascii_iterator") (t:=t) (by decide) (fun A' hA=>Walks.strAscii hA _ z t) fun _ _ _ _ _ st hq=>wpAny_pyIter_striter_ascii st hq,⟨_,bg _ rfl,rfl,rfl⟩,fin,q⟩
theorem JD{tg l:Expr}(hl:PE X l (tP X F)):PI X tg l (tI X fun ρ=>j' (F ρ)):=by
 intro pins s σ H R I ⟨B,ρ,hb,r,q⟩;refine cn (hl pins s σ H (fun x H1=>∃t,ar H H1/\Rep X.K (aT B H1) x t/\Fi X H (j' (.ok t)) fun ts=>∀J H',ar H H'->ja X.K B J H' ts->R J H') I ⟨B,ρ,hb,r,q.bind.mono fun t qt v H1 s1 r1=>⟨t,s1,r1,qt⟩⟩) fun v s1 ⟨x,H1,I1,r1,t,sm,rt,k⟩=>?_
 have k:Fi X H (match t with
  |.tup ts=>.ok ts
  |.lst ts=>.ok ts
  |.str z=>.ok (yG z)
  |_=>.bad) _:=k
 have fin:∀b∈[s1.heap.objs.size],l9 X pins H1 b:=fun b hb=>by
  rw[dW.mp hb];exact I1.yn (aB _) (I1.bB.fresh (aB _))
 split at k
 ·obtain⟨a,vs,rfl,h,rr⟩:=rt.cA;cases r1;obtain⟨aV,rv,p,hz⟩:=I1.tuple (ar.tup aR h);exact wpAny_pyIter_tuple (show s1.heap.IsTuple a aV.toArray from p) ⟨s1.heap.objs.size,[s1.heap.objs.size],_,_,H1,rfl,I1.kept (t':=s1.toks) fun b o e=>aQ _ e,vz a _,⟨_,bg _ rfl,rfl,rfl⟩,fin,k _ H1 sm (yH h rr)⟩
 ·obtain⟨a,vs,rfl,h,rr⟩:=rt.lst_inv;cases r1;obtain⟨aV,rv,p,hz⟩:=I1.list (iF.of (aR _ _ h));exact kT p.isList ⟨s1.heap.objs.size,[s1.heap.objs.size],_,_,H1,rfl,I1.kept (t':=s1.toks) fun b o e=>aQ _ e,yo a _,⟨_,bg _ rfl,rfl,rfl⟩,fin,k _ H1 sm (vW h rr)⟩
 ·obtain⟨rfl,_⟩:=rt.str_inv;obtain⟨t,rfl⟩:=(show∃t,v=Value.str _ t from r1);exact Cq I1 (k _ H1 sm (yI _))
 ·exact k.elim
def uo(lo:Int)(n:Nat):List Tr:=(List.range n).map fun k=>Tr.int (lo+(k:Nat))
theorem jb(lo:Int)(n:Nat):(uo lo n).length=n:=by simp[uo]
theorem uq{K:PySem.W.Frag}{B:br}{H:Hp}(lo:Int)(n:Nat):ja K B (L1 lo n) H (uo lo n) where
 go:=fun i B' H' hi _ _=>by rw[jb]at hi;exact hi
 zv:=fun i B' H' x Cp hi s hb ⟨e,y⟩=>by
  subst e;subst y;rw[jb]at hi;refine⟨ar.refl _,.int (lo+i),?_,.int _⟩;unfold uo;rw[bb,List.getElem?_range hi]
  rfl
 stop:=fun B' H' s=>by rw[jb];exact aB _
def iG(l:Rs (List Tr)):Rs (List Tr):=l.bind fun ts=>match ts with
 |[.int j]=>if-4611686018427387904<=j/\j<4611686018427387904 then .ok (uo 0 j.toNat)else .bad
 |_=>.bad
theorem PI.weak {tg iter:Expr}{t t':TI}(h:PI X tg iter t)(w:∀σ H R,t' σ H R->t σ H R):PI X tg iter t':=fun pins s σ H R I q=>h pins s σ H R I (w σ H R q)
variable {L:ax->Rs (List Tr)}{tg:Expr}{p:Pos}
theorem z8(hm:X.mg "range"=none)(ha:PA X [a] (vq X L))(hg:Gl X "range":=by rfl) (hs:aI [a]=true:=by rfl):PI X tg (.Call (.Name "range" p) [a] [] pos) (tI X fun ρ=>iG (L ρ)):=
 (yp hg hm ha (by rw[aX _ _ (aD hs).1];rfl)).weak fun σ H R ⟨B,ρ,hb,r,q⟩=>⟨B,ρ,hb,r,q.bind.mono fun ts qt vs H1 s1 r1=>by
  split at qt
  ·rename_i j;cases r1 with
   |cons h1 r1=>
    cases h1;cases r1;split at qt
    ·rename_i hj;exact⟨j,rfl,by omega,by omega,qt _ H1 s1 (uq 0 _)⟩
    ·exact qt.elim
  ·exact qt.elim⟩
def HU{α:Type}(r:Rs α):Rs α:=match r with
 |.ok a=>.ok a
 |_=>.bad
def mL(ix:List (Option Nat))(ρ:ax):ax:=ix.map fun o=>match o with
 |none=>.no
 |some j=>match ρ[j]? with
  |some (.sh t)=>.sh t
  |_=>.no
theorem a4.comp {K:PySem.W.Frag}{B B':br}{H H':Hp}{σ:St}{ρ:ax}(ix:List (Option Nat))(h:a4 K B H σ ρ)(s:b9 (aT B H) (aT B' H')):a4 K B' H' (d5 ix σ) (mL ix ρ):=by
 have no:∀(i:Nat) (c:Cell),(mL ix ρ)[i]?=some c->c=.no\/∃j t,ix[i]?=some (some j)/\ρ[j]?=some (.sh t)/\c=.sh t:=fun i c e=>by
  unfold mL at e;rw[bb]at e;cases q:ix[i]? with
  |none=>rw[q]at e;cases e
  |some o=>
   rw[q]at e;cases o with
   |none=>exact .inl (Option.some.inj e).symm
   |some j=>
    have e':(match ρ[j]? with|some (Cell.sh t)=>Cell.sh t|_=>Cell.no)=c:=Option.some.inj e;split at e'
    ·rename_i t q2;exact .inr ⟨j,t,rfl,q2,e'.symm⟩
    ·exact .inl e'.symm
 refine⟨by unfold mL d5;rw[aE,aE],fun i t e=>?_,fun i ts e=>?_,fun i j ts us D _ e=>?_⟩
 ·rcases no i _ e with q|⟨j,u,q1,q2,q3⟩
  ·cases q
  ·cases q3;obtain⟨v,e1,r1⟩:=h.sh j t q2;refine⟨v,?_,r1.same s⟩;unfold d5;rw[bb,q1];show some ((σ[j]?).join)=_;rw[e1]
   rfl
 ·rcases no i _ e with q|⟨j,u,q1,q2,q3⟩
  ·cases q
  ·cases q3
 ·rcases no i _ e with q|⟨j,u,q1,q2,q3⟩
  ·cases q
  ·cases q3
def Cr(T:kx)(A:ax->Rs Bool)(F:ax->Rs Tr):List Tr->ax->Rs (List Tr)
 |[],_=>.ok []
 |t::ts,ρ=>(HU (T t ρ)).bind fun ur=>(HU (A ur)).bind fun k=>if k then(HU (F ur)).bind fun y=>(Cr T A F ts ur).bind fun ys=>.ok (y::ys)else Cr T A F ts ur
def mM(ix:List (Option Nat))(T:kx)(A:ax->Rs Bool)(F:ax->Rs Tr)(l:Rs (List Tr))(ρ:ax):Rs Tr:=l.bind fun ts=>if ts.length<=iS then(Cr T A F ts (mL ix ρ)).bind fun ys=>.ok (.lst ys)else .bad
def gB(B:br)(D:Addr):br:=⟨fun b=>B.hd b||b==D,B.ix⟩
theorem fq{B:br}{D:Addr}{H:Hp}{o:HO}(hD:H D=none):b9 (aT B H) (aT (gB B D) (upd H D o)):=⟨fun b u e=>by
 have e1:=aR b u e;have iH:b≠D:=bf e1 hD;have hB:B.hd b=false:=by
  cases q:B.hd b with
  |false=>rfl
  |true=>
   have e2:(if B.hd b=true then none else H b)=some u:=e;rw[q,ae rfl]at e2;cases e2
 rw[dc (show(B.hd b||b==D)=false by rw[hB,g_ iH];rfl),aA iH];exact e1,fun _ _ e=>e⟩
theorem xu{B:br}{D:Addr}{H:Hp}{o:HO}(h:HB B H)(hD:H D=none)(ho:∀vs,o≠ .tup vs:=by exact fun _ z=>by cases z):HB (gB B D) (upd H D o):=fun b e=>by
 by_cases q:b=D
 ·subst q;exact⟨o,aP,ho⟩
 ·have e':(B.hd b||b==D)=true:=e;rw[g_ q,kX]at e';rw[aA q];exact h b e'
theorem rf{B:br}{D:Addr}:(gB B D).hd D=true:=by show(B.hd D||D==D)=true;rw[bQ,Bool.or_true]
theorem lE{B:br}{D:Addr}{H:Hp}{o:HO}:aT (gB B D) (upd H D o)=aT (gB B D) H:=by
 unfold aT;congr 1;funext b;by_cases q:b=D
 ·subst q;rw[ae rf,ae rf]
 ·rw[aA q]
theorem xv{B:br}{D:Addr}:mK B (gB B D):=⟨fun b e=>by show(B.hd b||b==D)=true;rw[e,Bool.true_or],fun _ _ e=>e⟩
theorem uu{B:br}{D:Addr}{H:Hp}:b9 (aT (gB B D) H) (aT B H):=o9 xv
def dD(ρ:ax):Prop:=∀(i:Nat) (ts:List Tr),ρ[i]? ≠some (.ow ts)
def fG(T:kx):Prop:=∀t ρ gR,dD ρ->T t ρ=.ok gR->dD gR
theorem dD.set {ρ:ax}(h:dD ρ)(i:Nat)(t:Tr):dD (ρ.set i (.sh t)):=fun j ts e=>by
 rcases fb e with⟨_,_,q⟩|⟨_,q⟩
 ·cases q
 ·exact h j ts q
theorem cQ(i:Nat):fG (gN i):=fun t ρ gR h e=>by cases e;exact h.set i t
theorem xw:∀{is:List Nat} {ts:List Tr} {ρ gR:ax},dD ρ->vV is ts ρ=.ok gR->dD gR
 |[],[],_,_,h,e=>by cases e;exact h
 |[],_::_,_,_,_,e=>by cases e
 |_::_,[],_,_,_,e=>by cases e
 |i::is,t::ts,_,_,h,e=>xw (is:=is) (ts:=ts) (h.set i t) e
theorem FL(is:List Nat):fG (gT is):=fun t ρ gR h e=>by
 cases t with
 |tup ts=>exact xw h e
 |_=>cases e
theorem nK(ix:List (Option Nat))(ρ:ax):dD (mL ix ρ):=fun i ts e=>by
 unfold mL at e;rw[bb]at e;cases q:ix[i]? with
 |none=>rw[q]at e;cases e
 |some o=>
  rw[q]at e;cases o with
  |none=>cases e
  |some j=>
   have e':(match ρ[j]? with|some (Cell.sh t)=>Cell.sh t|_=>Cell.no)=.ow ts:=Option.some.inj e;split at e'<;>cases e'
theorem kr.eq {α:Type}{xc:Tr->Prop}{r:Rs α}{k:α->Prop}(h:kr xc r k):kr xc r fun a=>r=.ok a/\k a:=by
 cases r with
 |ok a=>exact⟨rfl,h⟩
 |_=>exact h
theorem vX{α:Type}{xc:Tr->Prop}{r:Rs α}{k:α->Prop}(h:kr xc (HU r) k):∃a,r=.ok a/\k a:=by
 cases r with
 |ok a=>exact⟨a,rfl,h⟩
 |_=>exact h.elim
inductive D1(K:PySem.W.Frag)(F:ax->Rs Tr)(σ:St)(H:Hp)(Q:VK):Prop
 |mk (B:br) (ρ:ax):HB B H->a4 K B H σ ρ->(∃t,F ρ=.ok t/\∀v H',ar H H'->Rep K (aT B H') v t->Q v H')->D1 K F σ H Q
inductive D2(K:PySem.W.Frag)(F:ax->Rs Bool)(σ:St)(H:Hp)(Q:Bool->Hp->Prop):Prop
 |mk (B:br) (ρ:ax):HB B H->a4 K B H σ ρ->(∃b,F ρ=.ok b/\∀H',ar H H'->Q b H')->D2 K F σ H Q
inductive D3(K:PySem.W.Frag)(T:kx)(v:V)(σ:St)(H:Hp)(Q:St->Hp->Prop):Prop
 |mk (B:br) (ρ:ax) (t:Tr):HB B H->a4 K B H σ ρ->Rep K (aT B H) v t->(∃gR,T t ρ=.ok gR/\∀bL H',ar H H'->a4 K B H' bL gR->Q bL H')->D3 K T v σ H Q
theorem FN{X:Cx}{F:ax->Rs Tr}{σ:St}{H:Hp}{Q:VK}:D1 X.K F σ H Q->tP X F σ H Q:=fun⟨B,ρ,hb,r,t,e,q⟩=>⟨B,ρ,hb,r,by rw[e];exact q⟩
theorem FO{X:Cx}{F:ax->Rs Bool}{σ:St}{H:Hp}{Q:Bool->Hp->Prop}:D2 X.K F σ H Q->tQ X F σ H Q:=fun⟨B,ρ,hb,r,t,e,q⟩=>⟨B,ρ,hb,r,by rw[e];exact q⟩
theorem FP{X:Cx}{T:kx}{v:V}{σ:St}{H:Hp}{Q:St->Hp->Prop}:D3 X.K T v σ H Q->tG X T v σ H Q:=fun⟨B,ρ,t,hb,r,rt,gR,e,q⟩=>⟨B,ρ,t,hb,r,rt,by rw[e];exact q⟩
theorem nL{K:PySem.W.Frag}{J:It}{D:Addr}{B:br}{H:Hp}{L_:St}{Md:ax}{ts:List Tr}{T:kx}{A:ax->Rs Bool}{F:ax->Rs Tr}{Q:Hp->Prop}(hT:fG T)(h0:dD Md)(hb:HB B H)(gt:ja K B J H ts)(hz:ts.length<=iS)(r:a4 K (gB B D) (upd H D (.lst [])) L_ Md)(hD:H D=none)
  {xc:Tr->Prop} {k:List Tr->Prop} (q:kr xc (Cr T A F ts Md) k) (hQ:∀ys H',k ys->ar H H'->Rep K (aT B H') (.ref D) (.lst ys)->Q H'):Nn J D L_ (upd H D (.lst [])) (D3 K T) (D2 K A) (D1 K F) Q:=by
 refine⟨fun i m σ H'=>m=ts.length - i/\i<=ts.length/\ar H H'/\HB (gB B D) H'/\b9 (aT B H) (aT (gB B D) H')/\∃ρ vs us,dD ρ/\a4 K (gB B D) H' σ ρ/\H' D=some (.lst vs)/\vs.length<=i/\aF K (aT (gB B D) H') vs us/\kr xc (Cr T A F (ts.drop i) ρ) (fun ys=>k (us++ys)),
  ⟨_,rfl,bZ _,ar.upd hD,xu hb hD,fq hD,Md,[],[],h0,r,aP,aB _,.nil,q⟩,?_⟩
 rintro i m σ H' ⟨rfl,hi,sm,FQ,fF,ρ,vs,us,no,rs,hd,hl,rv,q'⟩
 by_cases jc:i<ts.length
 ·rw[nT jc]at q';refine .inr ⟨gt.go i _ H' jc fF FQ,fun wY H2=>ar H H2/\HB (gB B D) H2/\b9 (aT B H) (aT (gB B D) H2)/\∃ρ vs us,dD ρ/\a4 K (gB B D) H2 wY ρ/\H2 D=some (.lst vs)/\vs.length<=i+1/\aF K (aT (gB B D) H2) vs us/\kr xc (Cr T A F (ts.drop (i+1)) ρ) (fun ys=>k (us++ys)),
   fun wY H2 h=>⟨ts.length - (i+1),by omega,rfl,jc,h⟩,fun x H2 hx=>?_⟩
  obtain⟨s2,t,et,rt⟩:=gt.zv i _ H' x H2 jc fF FQ hx;have Nx:ts[i]=t:=by rw[bp jc]at et;exact Option.some.inj et
  rw[Nx]at q';obtain⟨ur,eT,q1⟩:=vX (kr.bind q');have Ny:=hT t ρ ur no eT;refine⟨_,ρ,t,FQ.same s2,rs.same s2,rt,ur,eT,fun EM H3 s3 r3=>?_⟩;have Pu:=s2.trans s3;obtain⟨c,eA,qc⟩:=vX (kr.bind q1);refine⟨_,ur,FQ.same Pu,r3,c,eA,fun H4 s4=>?_⟩;have FR:=Pu.trans s4;have g4:ar H H4:=sm.trans FR;cases c with
  |false=>
   exact Fu ⟨g4,FQ.same FR,fF.trans (aW FR),ur,vs,us,Ny,r3.same s4,FR _ _ hd,by omega,rv.same (aW FR),qc⟩
  |true=>
   obtain⟨y,eF,qy⟩:=vX (kr.bind qc);refine Fv ⟨_,ur,FQ.same FR,r3.same s4,y,eF,fun v H5 s5 r5=>?_⟩;have JE:=FR.trans s5;refine⟨vs,JE _ _ hd,by rw[<-fo];omega,(sm.trans JE).Cj hD,?_,?_,ur,vs++[v],us++[y],Ny,?_,aP,by rw[bP];exact Nat.add_le_add_right hl 1,?_,?_⟩
   ·intro b e;by_cases q:b=D
    ·subst q;exact⟨_,aP,fun _ z=>by cases z⟩
    ·rw[aA q];exact(FQ.same JE) b e
   ·rw[lE];exact fF.trans (aW JE)
   ·have Nz:=(r3.same s4).same s5;refine⟨Nz.len,fun i t e=>?_,fun i ts e=>(Ny i ts e).elim,Nz.ap⟩;rw[lE];exact Nz.sh i t e
   ·rw[lE];exact(rv.same (aW JE)).append (.cons r5 .nil)
   ·exact(kr.bind qy).mono fun ys q=>by rw[kF];exact q
 ·have e:i=ts.length:=by omega
  subst e;rw[oC]at q';refine .inl ⟨gt.stop _ H' fF,hQ us H' (by have:=(show k (us++[])from q');rw[dY]at this;exact this) sm (.lst ?_ (rv.same uu))⟩;rw[dc (hb.free hD)];exact hd
variable {scope:Scope}{N':List Str}{ix:List (Option Nat)}{elt iter:Expr}{ifs:List Expr}{T:kx}{W:ax->Rs (List Tr)}
theorem JF{X:Cx}:PF X [] (tQ X fun _=>.ok true):=fun pins s σ H Q I ⟨B,ρ,hb,r,q⟩=>Fw pins s σ H Q I (q H (ar.refl H))
theorem JG{X:Cx}{c:Expr}{A:ax->Rs Bool}(h:PT X c (tQ X A)):PF X [c] (tQ X A):=Fx h
theorem z9{σ:St}{H:Hp}{Q:VK}(hT:fG T)(q:tP X (fun ρ=>mM ix T A F (W ρ) ρ) σ H Q):HP (tI X W) ix (D3 X.K T) (D2 X.K A) (D1 X.K F) σ H Q:=by
 obtain⟨B,ρ,hb,r,q⟩:=q;refine⟨B,ρ,hb,r,q.bind.mono fun ts qt J H1 s1 gt D hD=>?_⟩;by_cases hz:ts.length<=iS
 ·rw[ae hz]at qt;exact nL hT (nK ix ρ) (hb.same s1) gt hz ((r.same s1).comp ix (fq hD)) hD (Fi.bind qt) fun ys H' k s' rp=>k _ H' (s1.trans s') rp
 ·rw[ai hz]at qt;exact qt.elim
structure D4(X:Cx)(scope:Scope)(N':List Str)(tg elt:Expr)(ifs:List Expr)(T:kx)(A:ax->Rs Bool)(F:ax->Rs Tr):Prop where
 all:∀s H ex,PG (lA X scope N' s H ex) tg (tG (lA X scope N' s H ex) T)/\PF (lA X scope N' s H ex) ifs (tQ (lA X scope N' s H ex) A)/\PE (lA X scope N' s H ex) elt (tP (lA X scope N' s H ex) F)
theorem D4.JH {X:Cx}{scope:Scope}{N':List Str}{tg elt:Expr}{ifs:List Expr}{T:kx}{A:ax->Rs Bool}{F:ax->Rs Tr}(h:D4 X scope N' tg elt ifs T A F):∀s H ex,PG (lA X scope N' s H ex) tg (D3 X.K T)/\PF (lA X scope N' s H ex) ifs (D2 X.K A)/\PE (lA X scope N' s H ex) elt (D1 X.K F):=fun s H ex=>by
 obtain⟨h1,h2,h3⟩:=h.all s H ex;exact⟨fun pins s σ H v u Q I r q=>h1 pins s σ H v u Q I r (FP q),fun pins s σ H Q I q=>h2 pins s σ H Q I (FO q),fun pins s σ H Q I q=>h3 pins s σ H Q I (FN q)⟩
theorem NA(Lk:dI X N' ix scope)(hi:PI X tg iter (tI X W))(kq:D4 X scope N' tg elt ifs T A F)(hT:fG T)(hc:X.calm=true:=by rfl) (hs:isSet iter=false:=by rfl):
  PE X (.ListComp elt [⟨tg,iter,ifs,0⟩] scope pos) (tP X fun ρ=>mM ix T A F (W ρ) ρ):=
 (zT Lk hc hi kq.JH (fc hs)).weak fun σ H Q q=>z9 hT q
def fW(r:Rs Out):Rs Tr:=r.bind fun o=>match o with
 |.nx _=>.ok .a_
 |.ret t=>.ok t
 |_=>.bad
theorem qg.Rc {P:Program}{w:World}{K:PySem.W.Frag}{mg:Str->Option Value}{base:Heap}{x qual:Str}{st:Stmt}{f:Addr}{fd:FuncData}{N ps:List Str}{k:Nat}{h:List Tr->Rs Tr}(Fn:qg K x qual st f fd)(S:cY N ps (aC st))(len:∀ts t,h ts=.ok t->ts.length=ps.length)
  (fm:∀(cC:Value) (A:Around) (outer:List Env) (s:Shared) (H:Hp) (E:XK),bq k (A.deeper (envOfC qual (aC st) s.heap.objs.size f cC))->
   ∃G,jQ (iR j8 P w K mg base N qual (aC st) f cC A outer s H E).zi (cz st) (tS (iR j8 P w K mg base N qual (aC st) f cC A outer s H E).zi G)/\∀ts t,h ts=.ok t->fW (G (startT N.length ts))=.ok t):cf P w K mg base j8 (k+1) f fd ps (spT K h):=by
 refine Fn.ok S (fun vs H Q E q=>?_) (fun cC A outer s H vs Q E hr q=>?_)
 ·obtain⟨B,ts,hb,r,t,e,_⟩:=q;rw[r.length];exact len ts t e
 ·obtain⟨B,ts,hb,r,t,e,q⟩:=q;obtain⟨G,hG,hE⟩:=fm cC A outer s H E hr;refine⟨_,hG,B,B,H,B,startT N.length ts,cP.refl hb mK.refl,a4.start r,?_⟩;have e1:=hE ts t e;cases eo:G (startT N.length ts)with
  |ok o=>
   rw[eo]at e1;cases o with
   |nx ρ=>cases e1;exact fun bL B' H' si r'=>q .a_ H' si.same .a_
   |ret u=>cases e1;exact fun v B' H' si r'=>q v H' si.same r'
   |_=>cases e1
  |_=>rw[eo]at e1;cases e1
end
end L2
namespace L2
open PySem PySem.Spec PyProof.Rows
section
variable {X:Cx}
theorem Cs:l8 X (binaryOp .Add) (fun x y H Q=>∃(a b:Addr) (xs ys:List V),x=.ref a/\y=.ref b/\i6 X.K H a xs/\i6 X.K H b ys/\xs.length+ys.length<=sizeLine/\(xs=[]->Q (.ref b) H)/\(ys=[]->Q (.ref a) H)/\∀p,H p=none->Q (.ref p) (upd H p (.tup (xs++ys)))):=by
 intro pins s σ H x y v u Q I rx ry h;obtain⟨a,b,xs,ys,rfl,rfl,ha,hb,hz,q1,q2,q3⟩:=h;by_cases hx:xs=[]
 ·subst hx;cases(show v=Value.ref a from rx);cases(show u=Value.ref b from ry);obtain⟨i1,r1,p1,_⟩:=I.tuple ha;obtain⟨i2,r2,p2,_⟩:=I.tuple hb;cases r1;obtain⟨dd,n,sl,h1⟩:=qV p1;obtain⟨HI,n2,L4,h2⟩:=qV p2;exact concat_meets ⟨_,h1,rfl⟩ ⟨_,h2,rfl⟩ noFill_tuple_add seq_tuple_add nZ nW (nU _ _) (tuple_addW0 a b _ _ n n2 dd HI sl L4 rfl) ⟨h1,h2,⟨.ref b,H,I,rfl,q1 rfl⟩⟩
 ·exact BY pins s σ H _ _ v u Q I rx ry ⟨a,b,xs,ys,rfl,rfl,ha,hb,hx,hz,q2,fun _ p hp=>q3 p hp⟩
theorem Rep.up {K:PySem.W.Frag}{B:br}{H:Hp}{v:V}{t:Tr}(r:Rep K (aT B H) v t):Rep K (raw B H) v t:=r.same e6
theorem i6.up {K:PySem.W.Frag}{B:br}{H:Hp}{a:Addr}{xs:List V}(h:i6 K (aT B H) a xs):i6 K H a xs:=ar.tup aR h
theorem cj{B:br}{H:Hp}{a:Addr}{o:HO}(h:aT B H a=some o):H a=some o:=aR _ _ h
theorem Rep.FT {K:PySem.W.Frag}{B:br}{H:Hp}{p:Addr}{vs:List V}{ts:List Tr}(hb:HB B H)(hp:H p=none)(r:aF K (aT B H) vs ts):Rep K (aT B (upd H p (.tup vs))) (.ref p) (.tup ts):=.tup (hb.new hp) (r.same (aW (ar.upd hp)))
theorem Rep.vY {K:PySem.W.Frag}{B:br}{H:Hp}{p:Addr}{vs:List V}{ts:List Tr}(hb:HB B H)(hp:H p=none)(r:aF K (aT B H) vs ts):Rep K (aT B (upd H p (.lst vs))) (.ref p) (.lst ts):=.lst (hb.new hp) (r.same (aW (ar.upd hp)))
theorem uv{K:PySem.W.Frag}{H:Vw}{ts:List Tr}(h:aF K H [] ts):ts=[]:=by cases h;rfl
theorem FU{a b:Str}(h:a.length+b.length<=bS):(a++b).length<=bS:=by rw[PySem.Str.length_append];exact h
def jd:Tr->Tr->Rs Tr
 |.int i,.int j=>.ok (.int (i+j))
 |.str a,.str b=>if a.length+b.length<=bS then .ok (.str (a++b))else .bad
 |.tup a,.tup b=>if a.length+b.length<=iS then .ok (.tup (a++b))else .bad
 |.lst a,.lst b=>if a.length+b.length<=iS then .ok (.lst (a++b))else .bad
 |_,_=>.bad
theorem eB{α:Type}{H:Hp}{c:Prop}[Decidable c]{t:α}{k:α->Prop}(h:Fi X H (if c then Rs.ok t else .bad) k):c/\k t:=by
 by_cases hc:c
 ·rw[ae hc]at h;exact⟨hc,h⟩
 ·rw[ai hc]at h;exact h.elim
theorem fu:qZ X (binaryOp .Add) jd:=by
 intro pins s σ H x y v u Q I rx ry ⟨B,tx,ty,hb,r1,r2,q⟩;unfold jd at q;split at q
 ·exact ET pins s σ H _ _ v u Q I rx ry ⟨_,_,r1.int_inv,r2.int_inv,q _ H (ar.refl H) (.int _)⟩
 ·have f:=eB q;exact vD pins s σ H _ _ v u Q I rx ry ⟨_,_,r1.str_inv.1,r2.str_inv.1,a6 f.1 lC,f.2 _ H (ar.refl H) (.str _ (FU f.1))⟩
 ·have f:=eB q;obtain⟨a,as,e1,h1,Ct⟩:=r1.cA;obtain⟨b,bs,e2,h2,HV⟩:=r2.cA;exact Cs pins s σ H _ _ v u Q I rx ry ⟨_,_,_,_,e1,e2,h1.up,h2.up,by rw[Ct.length,HV.length,<-fo];exact f.1,fun e=>f.2 _ H (ar.refl H) (by subst e;rw[uv Ct,<-e2];exact r2),fun e=>f.2 _ H (ar.refl H) (by subst e;rw[uv HV,dY,<-e1];exact r1),fun p hp=>f.2 _ _ (ar.upd hp) (.FT hb hp (Ct.append HV))⟩
 ·have f:=eB q;obtain⟨a,as,e1,h1,Ct⟩:=r1.lst_inv;obtain⟨b,bs,e2,h2,HV⟩:=r2.lst_inv;exact Fg pins s σ H _ _ v u Q I rx ry ⟨_,_,_,_,e1,e2,cj h1,cj h2,by rw[Ct.length,HV.length,<-fo];exact f.1,fun p hp=>f.2 _ _ (ar.upd hp) (.vY hb hp (Ct.append HV))⟩
 ·exact(show False from q).elim
def JI:Tr->Tr->Rs Tr
 |.int i,.int j=>.ok (.int (i - j))
 |_,_=>.bad
theorem JJ:qZ X (binaryOp .Sub) JI:=by
 intro pins s σ H x y v u Q I rx ry ⟨B,tx,ty,hb,r1,r2,q⟩;unfold JI at q;split at q
 ·exact EU pins s σ H _ _ v u Q I rx ry ⟨_,_,r1.int_inv,r2.int_inv,q _ H (ar.refl H) (.int _)⟩
 ·exact(show False from q).elim
def uw:Tr->Tr->Rs Tr
 |.int i,.int j=>if 0<j then .ok (.int (i % j))else .bad
 |_,_=>.bad
theorem rg:qZ X (binaryOp .Mod) uw:=by
 intro pins s σ H x y v u Q I rx ry ⟨B,tx,ty,hb,r1,r2,q⟩;unfold uw at q;split at q
 ·have f:=eB q;exact EW pins s σ H _ _ v u Q I rx ry ⟨_,_,r1.int_inv,r2.int_inv,f.1,f.2 _ H (ar.refl H) (.int _)⟩
 ·exact(show False from q).elim
def lF(i j:Int):Prop:=(-18446744073709551616<i/\i<18446744073709551616)\/(-18446744073709551616<j/\j<18446744073709551616)
theorem lF.cm {i j:Int}(h:lF i j):zy i j:=by
 unfold lF at h;unfold zy;omega
instance (i j:Int):Decidable (lF i j):=by unfold lF;infer_instance
def qA:Tr->Tr->Rs Tr
 |.int i,.int j=>if lF i j then .ok (.int (i*j))else .bad
 |.str z,.int n=>if 0<=n/\n<=1000/\z.length<=1000 then .ok (.str (Txt.mul z n))else .bad
 |.lst ts,.int n=>if 0<=n/\n<=1000/\ts.length*n.toNat<=iS then .ok (.lst (List.replicate n.toNat ts).flatten)else .bad
 |_,_=>.bad
theorem Cu:l8 X (binaryOp .Mult) (fun x y H Q=>∃(l:Addr) (k:Int) (xs:List V),x=.ref l/\y=.int k/\H l=some (.lst xs)/\-(2 ^63)<=k/\k<2 ^63/\xs.length*k.toNat<=sizeLine/\∀p,H p=none->Q (.ref p) (upd H p (.lst (List.replicate k.toNat xs).flatten))):=Fh
theorem Cv{z:Str}{n:Int}(h0:0<=n)(h1:n<=1000)(hz:z.length<=1000):(Txt.mul z n).length<=bS:=by
 have e:=PyProof.Rows.len_mul z n;split at e
 ·have:((Txt.mul z n).length:Int)=0:=e;unfold bS;omega
 ·have h2:(z.length:Int)*n<=1000*1000:=Int.mul_le_mul (by omega) h1 h0 (by decide);have e':((Txt.mul z n).length:Int)=(z.length:Int)*n:=e;unfold bS;omega
theorem ux:qZ X (binaryOp .Mult) qA:=by
 intro pins s σ H x y v u Q I rx ry ⟨B,tx,ty,hb,r1,r2,q⟩;unfold qA at q;split at q
 ·have f:=eB q;exact EV pins s σ H _ _ v u Q I rx ry ⟨_,_,r1.int_inv,r2.int_inv,f.1.cm,f.2 _ H (ar.refl H) (.int _)⟩
 ·have f:=eB q;exact Cg pins s σ H _ _ v u Q I rx ry ⟨_,_,r1.str_inv.1,r2.int_inv,PyProof.Rows.mulOk_of 1000 1000 f.1.2.2 f.1.2.1 (Int.le_trans (by decide) f.1.1) (by decide) (by decide),f.2 _ H (ar.refl H) (.str _ (Cv f.1.1 f.1.2.1 f.1.2.2))⟩
 ·have f:=eB q;obtain⟨a,as,e1,h1,Ct⟩:=r1.lst_inv;exact Cu pins s σ H _ _ v u Q I rx ry ⟨_,_,_,e1,r2.int_inv,cj h1,Int.le_trans (by decide) f.1.1,Int.lt_of_le_of_lt f.1.2.1 (by decide),by rw[Ct.length,<-fo];exact f.1.2.2,fun p hp=>f.2 _ _ (ar.upd hp) (.vY hb hp (Ct.rep _))⟩
 ·exact(show False from q).elim
end
end L2
namespace L2
open PySem PySem.Spec PyProof.Rows
mutual
def eqT:Tr->Tr->Bool
 |.a_,.a_=>true
 |.bl a,.bl b=>a==b
 |.bl a,.int b=>(if a then 1 else 0)==b
 |.int a,.bl b=>a==(if b then 1 else 0)
 |.int a,.int b=>a==b
 |.str a,.str b=>a==b
 |.tup a,.tup b=>vZ a b
 |.lst a,.lst b=>vZ a b
 |_,_=>false
def vZ:List Tr->List Tr->Bool
 |[],[]=>true
 |x::xs,y::ys=>eqT x y&&vZ xs ys
 |_,_=>false
end
mutual
def jY:Tr->Bool
 |.a_=>true
 |.bl _=>true
 |.int _=>true
 |.str _=>true
 |.tup ts=>ml ts
 |.lst ts=>ml ts
 |_=>false
def ml:List Tr->Bool
 |[]=>true
 |t::ts=>jY t&&ml ts
end
mutual
def dT:Tr->Nat
 |.tup ts=>Cw ts+1
 |.lst ts=>Cw ts+1
 |_=>0
def Cw:List Tr->Nat
 |[]=>0
 |t::ts=>max (dT t) (Cw ts)
end
theorem je:∀{ts:List Tr},ml ts=true->∀t∈ts,jY t=true
 |[],_,t,h=>nomatch h
 |u::us,h,t,m=>by
  rw[ml,a3]at h;rcases aY.mp m with rfl|m
  ·exact h.1
  ·exact je h.2 t m
theorem sC:∀{ts:List Tr},∀t∈ts,dT t<=Cw ts
 |[],t,h=>nomatch h
 |u::us,t,m=>by
  rw[Cw];rcases aY.mp m with rfl|m
  ·exact Nat.le_max_left _ _
  ·exact a6 (sC t m) (Nat.le_max_right _ _)
theorem uy:∀(xs ys:List Tr),((List.range (min xs.length ys.length)).all (fun j=>eqT (xs.getD j .a_) (ys.getD j .a_))&&xs.length==ys.length)=vZ xs ys
 |[],[]=>rfl
 |[],y::ys=>rfl
 |x::xs,[]=>rfl
 |x::xs,y::ys=>by
  have ih:=uy xs ys;rw[vZ,<-ih,a5,a5,Nat.succ_min_succ,n5,fR,List.all_map,Bool.and_assoc];congr 1;have e1:(xs.length+1==ys.length+1)=(xs.length==ys.length):=by rw[Bool.eq_iff_iff,eZ,eZ];omega
  rw[e1]
  rfl
section
variable {A:Around}{s:Shared}
theorem Cy{v u:Value}{k:Bool}(hv:∀b t,v≠Value.float b t)(hs:v=u->k=true)(h:SeqAt.RcAt A s v u k):SeqAt.EqAt A s v u k:=fun prog w E Q hq=>by
 unfold eqBool;refine d3 ?_
 refine jE (fun yJ=>?_) (fun _=>?_)
 ·rw[hs (eq_of_beq yJ)]at hq;exact ab (fi (ak hq))
 ·cases v with
  |float b t=>exact absurd rfl (hv b t)
  |_=>exact ab (h prog w E _ (oK hq))
end
section
variable {X:Cx}{pins:List (Addr×Obj)}{σ:St}{H:Hp}{qi:Addr->Option Nat}{s:Shared}
theorem mN(I:Inv X pins σ H s){a:Addr}{vs ws:List V}(h1:i6 X.K H a vs)(h2:H a=some (.lst ws)):False:=by
 obtain⟨_,_,⟨o,e,c,_⟩,_⟩:=I.tuple h1;obtain⟨_,aV,n,_,e2⟩:=I.bB a _ h2;rw[e]at e2;cases e2;exact absurd c (by show¬(Value.type "list"=.type "tuple");decide+kernel)
def vT:V->Tr
 |.a_=>.a_
 |.bl b=>.bl b
 |.int i=>.int i
 |.str z=>.str z
 |_=>.at 0
theorem jf{K:PySem.W.Frag}{W:Vw}{x:V}{t:Tr}(r:Rep K W x t)(p:jY t=true):(∃ts,t=.tup ts)\/(∃ts,t=.lst ts)\/t=vT x:=by
 cases r<;>first|(cases p;done)|exact .inr (.inr rfl)|exact .inl ⟨_,rfl⟩|exact .inr (.inl ⟨_,rfl⟩)
theorem lG{K:PySem.W.Frag}{W:Vw}{x:V}{t t':Tr}(e:t=vT x)(p:jY t=true)(p':jY t'=true)(r':Rep K W x t'):t=t':=by
 rcases jf r' p' with⟨ts,rfl⟩|⟨ts,rfl⟩|e'
 ·obtain⟨a,_,rfl,_⟩:=r'.cA;rw[e]at p;cases p
 ·obtain⟨a,_,rfl,_⟩:=r'.lst_inv;rw[e]at p;cases p
 ·rw[e,e']
theorem Cz(I:Inv X pins σ H s):∀(n:Nat) {x:V} {t t':Tr},dT t<=n->jY t=true->jY t'=true->Rep X.K (⟨H,qi⟩:Vw) x t->Rep X.K (⟨H,qi⟩:Vw) x t'->t=t':=by
 intro n
 induction n with
 |zero=>
  intro x t t' hd p p' r r';rcases jf r p with⟨ts,rfl⟩|⟨ts,rfl⟩|e
  ·exact absurd hd (Nat.not_succ_le_zero _)
  ·exact absurd hd (Nat.not_succ_le_zero _)
  ·exact lG e p p' r'
 |succ n ih=>
  intro x t t' hd p p' r r';have go:∀{vs:List V} {ts rh:List Tr},Cw ts<=n->ml ts=true->ml rh=true->aF X.K (⟨H,qi⟩:Vw) vs ts->aF X.K (⟨H,qi⟩:Vw) vs rh->ts=rh:=by
   intro vs ts rh k1 k2 k3;have h1:=fun t m=>a6 (sC (ts:=ts) t m) k1;have h2:=je k2;have h3:=je k3
   clear hd p p' r r' k1 k2 k3
   induction vs generalizing ts rh with
   |nil=>intro q q';cases q;cases q';rfl
   |cons v vs Rf=>
    intro(.cons qh qr) (.cons Rg Rh);rw[List.forall_mem_cons]at h1 h2 h3;rw[ih h1.1 h2.1 h3.1 qh Rg,Rf h1.2 h2.2 h3.2 qr Rh]
  rcases jf r p with⟨ts,rfl⟩|⟨ts,rfl⟩|e
  ·rcases jf r' p' with⟨rh,rfl⟩|⟨rh,rfl⟩|e
   ·obtain⟨a,vs,rfl,h,rr⟩:=r.cA;obtain⟨_,CA,e,h',v3⟩:=r'.cA;cases e;cases I.qL h h';rw[go (Nat.le_of_succ_le_succ hd) p p' rr v3]
   ·obtain⟨a,vs,rfl,h,rr⟩:=r.cA;obtain⟨_,CA,e,h',v3⟩:=r'.lst_inv;cases e;exact(mN I h h').elim
   ·exact(lG e p' p r).symm
  ·rcases jf r' p' with⟨rh,rfl⟩|⟨rh,rfl⟩|e
   ·obtain⟨a,vs,rfl,h,rr⟩:=r.lst_inv;obtain⟨_,CA,e,h',v3⟩:=r'.cA;cases e;exact(mN I h' h).elim
   ·obtain⟨a,vs,rfl,h,rr⟩:=r.lst_inv;obtain⟨_,CA,e,h',v3⟩:=r'.lst_inv;cases e;cases h.symm.trans h';rw[go (Nat.le_of_succ_le_succ hd) p p' rr v3]
   ·exact(lG e p' p r).symm
  ·exact lG e p p' r'
mutual
theorem pd:∀{t:Tr},jY t=true->eqT t t=true
 |.a_,_=>rfl
 |.bl b,_=>by rw[eqT];exact bQ b
 |.int i,_=>by rw[eqT];exact bQ i
 |.str z,_=>by rw[eqT];exact bQ z
 |.tup ts,h=>by rw[eqT];rw[jY]at h;exact mm h
 |.lst ts,h=>by rw[eqT];rw[jY]at h;exact mm h
 |.ty _,h=>by cases h
 |.gq _,h=>by cases h
 |.a8 _,h=>by cases h
 |.at _,h=>by cases h
 |.dB _,h=>by cases h
 |.ob _ _,h=>by cases h
 |.zV _,h=>by cases h
theorem mm:∀{ts:List Tr},ml ts=true->vZ ts ts=true
 |[],_=>rfl
 |t::ts,h=>by
  rw[ml,a3]at h;rw[vZ,pd h.1,mm h.2]
  rfl
end
theorem xx{α:Type}{l:List α}{j:Nat}{x d:α}(h:l[j]?=some x):l.getD j d=x:=by rw[kz,h];rfl
inductive Sh(K:PySem.W.Frag)(G:Vw)(h:Heap):Tr->Value->Prop
 |a_:Sh K G h .a_ .none
 |bl (b:Bool):Sh K G h (.bl b) (.bool b)
 |int (b:Int) (w:Tok):Sh K G h (.int b) (.int b w)
 |str (b:Str) (w:Tok):Sh K G h (.str b) (.str b w)
 |tup {a:Addr} {vs:List V} {ts:List Tr} {us:List Value} (q:h.IsTuple a us.toArray) (rr:aF K G vs ts) (rv:Vals vs us):Sh K G h (.tup ts) (.ref a)
 |lst {a:Addr} {vs:List V} {ts:List Tr} {us:List Value} (q:h.IsList a us.toArray) (rr:aF K G vs ts) (rv:Vals vs us):Sh K G h (.lst ts) (.ref a)
theorem sD(I:Inv X pins σ H s){x:V}{v:Value}{t:Tr}(p:jY t=true)(r:Rep X.K (⟨H,qi⟩:Vw) x t)(rx:RelV x v):Sh X.K ⟨H,qi⟩ s.heap t v:=by
 cases r with
 |a_=>cases(show v=Value.none from rx);exact .a_
 |bl b=>cases(show v=Value.bool b from rx);exact .bl b
 |int b=>obtain⟨w,rfl⟩:=(show∃t,v=Value.int b t from rx);exact .int b w
 |str b _=>obtain⟨w,rfl⟩:=(show∃t,v=Value.str b t from rx);exact .str b w
 |@tup a _ _ h rr=>cases(show v=Value.ref a from rx);obtain⟨_,rv,q,_⟩:=I.tuple (Jo h);exact .tup q rr rv
 |@lst a _ _ h rr=>cases(show v=Value.ref a from rx);obtain⟨_,rv,q,_⟩:=I.list (.of h);exact .lst q.isList rr rv
 |_=>cases p
theorem xy(I:Inv X pins σ H s)(n:Nat){A:Around}{x y:V}{v u:Value}{t t':Tr}(hd:dT t<=n)(p:jY t=true)(p':jY t'=true)(r:Rep X.K (⟨H,qi⟩:Vw) x t)(r':Rep X.K (⟨H,qi⟩:Vw) y t')(rx:RelV x v)(ry:RelV y u)(q:SeqAt.RcAt A s v u (eqT t t')):SeqAt.EqAt A s v u (eqT t t'):=by
 refine Cy (fun b t e=>?_) (fun e=>?_) q
 ·subst e;cases r<;>first|(obtain⟨_,z⟩:=rx;cases z;done)|(cases rx;done)
 subst e;rw[rx.inj ry]at r;rw[<-Cz I n hd p p' r r'];exact pd p
theorem xA{K:PySem.W.Frag}{G:Vw}{A:Around}{v u:Value}{t t':Tr}(S:Sh K G s.heap t v)(S':Sh K G s.heap t' u)(hu:A.units<cLine):(SeqAt.RcAt A s v u (eqT t t')/\SeqAt.RcNeAt A s v u (!eqT t t'))\/∃ts rh,(t=.tup ts/\t'=.tup rh)\/(t=.lst ts/\t'=.lst rh):=by
 cases S<;>cases S'<;>first|exact .inr ⟨_,_,.inl ⟨rfl,rfl⟩⟩|exact .inr ⟨_,_,.inr ⟨rfl,rfl⟩⟩|(refine .inl ⟨?_,?_⟩<;>simp only[eqT,Bool.not_false,iX]<;>with_reducible first|exact .none_none|exact .none_bool _|exact .none_int _ _|exact .none_str _ _|exact .none_tuple ‹_› hu|exact .none_list ‹_› hu|exact .bool_none _|exact .bool_bool _ _|exact .bool_int _ _ _|exact .bool_str _ _ _|exact .bool_tuple _ ‹_› hu|exact .bool_list _ ‹_› hu|exact .int_none _ _|exact .int_bool _ _ _|exact .int_int _ _ _ _|exact .int_str _ _ _ _|exact .int_tuple _ _ ‹_› hu|exact .int_list _ _ ‹_› hu|exact .str_none _ _|exact .str_bool _ _ _|exact .str_int _ _ _ _|exact .str_str _ _ _ _|exact .str_tuple _ _ ‹_› hu|exact .str_list _ _ ‹_› hu|exact .tuple_none ‹_› hu|exact .tuple_bool _ ‹_› hu|exact .tuple_int _ _ ‹_› hu|exact .tuple_str _ _ ‹_› hu|exact .tuple_list ‹_› ‹_› hu|exact .list_none ‹_› hu|exact .list_bool _ ‹_› hu|exact .list_int _ _ ‹_› hu|exact .list_str _ _ ‹_› hu|exact .list_tuple ‹_› ‹_› hu)
theorem FV(I:Inv X pins σ H s):∀(n:Nat) {A:Around} {x y:V} {v u:Value} {t t':Tr},dT t<=n->jY t=true->jY t'=true->Rep X.K (⟨H,qi⟩:Vw) x t->Rep X.K (⟨H,qi⟩:Vw) y t'->RelV x v->RelV y u->A.units+n<cLine->SeqAt.RcAt A s v u (eqT t t')/\SeqAt.RcNeAt A s v u (!eqT t t'):=by
 intro n
 induction n with
 |zero=>
  intro A x y v u t t' hd p p' r r' rx ry hu;rcases xA (sD I p r rx) (sD I p' r' ry) (A:=A) (by omega)with h|⟨_,_,⟨rfl,_⟩|⟨rfl,_⟩⟩
  ·exact h
  all_goals exact absurd hd (by rw[dT];omega)
 |succ n ih=>
  intro A x y v u t t' hd p p' r r' rx ry hu;have hv:A.units<cLine:=by omega
  have items:∀{vs CA:List V} {us uz:List Value} {ts rh:List Tr},Cw ts<=n->ml ts=true->ml rh=true->aF X.K (⟨H,qi⟩:Vw) vs ts->aF X.K (⟨H,qi⟩:Vw) CA rh->Vals vs us->Vals CA uz->∀(j:Nat) (h1:j<us.toArray.size) (h2:j<uz.toArray.size),
    SeqAt.EqAt A.in1 s us.toArray[j] uz.toArray[j] (eqT (ts.getD j .a_) (rh.getD j .a_)):=by
   intro vs CA us uz ts rh d1 q1 q2 rr v3 rv Bw j h1 h2;replace h1:j<us.length:=h1;replace h2:j<uz.length:=h2;have k1:=bp (Nat.lt_of_lt_of_eq h1 rv.length.symm);have k2:=bp (Nat.lt_of_lt_of_eq h2 Bw.length.symm);obtain⟨t1,e1,p1⟩:=rr.zW k1;obtain⟨t2,e2,p2⟩:=v3.zW k2;obtain⟨w1,f1,g1⟩:=rv.get k1;obtain⟨w2,f2,g2⟩:=Bw.get k2;rw[bp h1]at f1;rw[bp h2]at f2;rw[List.getElem_toArray,List.getElem_toArray,Option.some.inj f1,Option.some.inj f2,xx e1,xx e2];have m1:=dS e1;have q2:=je q2 _ (dS e2);have q1:=je q1 _ m1;have d:=a6 (sC _ m1) d1;exact xy I n d q1 q2 p1 p2 g1 g2 (ih d q1 q2 p1 p2 g1 g2 (by show A.units+1+n<cLine;omega)).1
  have S:=sD I p r rx;have S':=sD I p' r' ry;rcases xA S S' hv with h|⟨ts,rh,⟨rfl,rfl⟩|⟨rfl,rfl⟩⟩
  ·exact h
  all_goals
   rw[dT]at hd;have it:=fun{vs CA us uz}=>@items vs CA us uz _ _ (Nat.le_of_add_le_add_right hd) p p';have e:=uy ts rh;rw[eqT]
  ·cases S with|tup q rr rv=>
   cases S' with|tup q' v3 Bw=>
   rw[<-e,<-rr.length,<-v3.length,rv.length,Bw.length];exact⟨.tuples q q' hv (it rr v3 rv Bw),.tuples q q' hv (it rr v3 rv Bw)⟩
  cases S with|lst q rr rv=>
  cases S' with|lst q' v3 Bw=>
  have l:=rr.length;have l':=v3.length;rw[rv.length]at l;rw[Bw.length]at l';by_cases hz:ts.length=rh.length
  ·rw[hz,Nat.min_self,bQ,Bool.and_true,<-hz,<-l]at e;rw[<-e];exact⟨.lists q q' (by simp;omega) hv (it rr v3 rv Bw),.lists q q' (by simp;omega) hv (it rr v3 rv Bw)⟩
  ·rw[g_ hz,oM]at e;rw[<-e];exact⟨.lists_lengths q q' (by simp;omega) hv,.lists_lengths q q' (by simp;omega) hv⟩
end
section
variable {X:Cx}
def yK(a b:Tr):Rs Tr:=if jY a=true/\jY b=true/\dT a<=40 then .ok (.bl (eqT a b))else .bad
theorem dm(hu:X.A.units+40<cLine):qZ X (compareOp .Eq) yK:=by
 intro pins s σ H x y v u Q I rx ry ⟨B,tx,ty,hb,r1,r2,q⟩;obtain⟨⟨p1,p2,hd⟩,k⟩:=eB q;exact(FV I 40 hd p1 p2 r1.up r2.up rx ry hu).1 _ _ _ _ ⟨.bl _,H,I,rfl,k _ H (ar.refl H) (.bl _)⟩
end
end L2
namespace L2
open PySem PySem.Spec PyProof.Rows
section
variable {X:Cx}{pins:List (Addr×Obj)}{σ:St}{H:Hp}{qi:Addr->Option Nat}{s:Shared}
theorem z_(I:Inv X pins σ H s)(n:Nat){A:Around}{x y:V}{v u:Value}{t t':Tr}(hd:dT t<=n)(p:jY t=true)(p':jY t'=true)(r:Rep X.K (⟨H,qi⟩:Vw) x t)(r':Rep X.K (⟨H,qi⟩:Vw) y t')(rx:RelV x v)(ry:RelV y u)(hu:A.units+n<cLine):SeqAt.EqAt A s v u (eqT t t'):=
 xy I n hd p p' r r' rx ry (FV I n hd p p' r r' rx ry hu).1
end
section
variable {X:Cx}
def tW(a b:Tr):Rs Tr:=if jY a=true/\jY b=true/\dT a<=40 then .ok (.bl (!eqT a b))else .bad
theorem CB(hu:X.A.units+40<cLine):qZ X (compareOp .NotEq) tW:=by
 intro pins s σ H x y v u Q I rx ry ⟨B,tx,ty,hb,r1,r2,q⟩;obtain⟨⟨p1,p2,hd⟩,k⟩:=eB q;exact(FV I 40 hd p1 p2 r1.up r2.up rx ry hu).2 _ _ _ _ ⟨.bl _,H,I,rfl,k _ H (ar.refl H) (.bl _)⟩
def NB:Tr->Tr->Rs Tr
 |.int i,.int j=>.ok (.bl (decide (i<j)))
 |.str a,.str b=>.ok (.bl (decide (a.cps.toList<b.cps.toList)))
 |_,_=>.bad
def JK:Tr->Tr->Rs Tr
 |.int i,.int j=>.ok (.bl (decide (j<i)))
 |_,_=>.bad
def NC:Tr->Tr->Rs Tr
 |.int i,.int j=>.ok (.bl (decide (j<=i)))
 |_,_=>.bad
theorem JL:qZ X (compareOp .Lt) NB:=by
 intro pins s σ H x y v u Q I rx ry ⟨B,tx,ty,hb,r1,r2,q⟩;unfold NB at q;split at q
 ·exact IG pins s σ H _ _ v u Q I rx ry ⟨_,_,r1.int_inv,r2.int_inv,q _ H (ar.refl H) (.bl _)⟩
 ·exact yr pins s σ H _ _ v u Q I rx ry ⟨_,_,r1.str_inv.1,r2.str_inv.1,q _ H (ar.refl H) (.bl _)⟩
 ·exact(show False from q).elim
theorem JM:qZ X (compareOp .Gt) JK:=by
 intro pins s σ H x y v u Q I rx ry ⟨B,tx,ty,hb,r1,r2,q⟩;unfold JK at q;split at q
 ·exact IH pins s σ H _ _ v u Q I rx ry ⟨_,_,r1.int_inv,r2.int_inv,q _ H (ar.refl H) (.bl _)⟩
 ·exact(show False from q).elim
theorem ND:qZ X (compareOp .GtE) NC:=by
 intro pins s σ H x y v u Q I rx ry ⟨B,tx,ty,hb,r1,r2,q⟩;unfold NC at q;split at q
 ·exact II pins s σ H _ _ v u Q I rx ry ⟨_,_,r1.int_inv,r2.int_inv,q _ H (ar.refl H) (.bl _)⟩
 ·exact(show False from q).elim
def JN:Tr->Bool
 |.a_=>true
 |_=>false
theorem sE{K:PySem.W.Frag}{H:Vw}{x:V}{t:Tr}(r:Rep K H x t):decide (x=.a_)=JN t:=by
 cases r<;>rfl
def Pw:Tr->Tr->Rs Tr
 |a,.a_=>.ok (.bl (JN a))
 |.bl a,.bl b=>.ok (.bl (a==b))
 |_,_=>.bad
def FW:Tr->Tr->Rs Tr
 |a,.a_=>.ok (.bl (!JN a))
 |.bl a,.bl b=>.ok (.bl (a !=b))
 |_,_=>.bad
theorem NF:qZ X (compareOp .Is) Pw:=by
 intro pins s σ H x y v u Q I rx ry ⟨B,tx,ty,hb,r1,r2,q⟩;unfold Pw at q;split at q
 ·exact EZ pins s σ H _ _ v u Q I rx ry ⟨r2.xr,by rw[sE r1];exact q _ H (ar.refl H) (.bl _)⟩
 ·exact Fz pins s σ H _ _ v u Q I rx ry ⟨_,_,r1.mj,r2.mj,q _ H (ar.refl H) (.bl _)⟩
 ·exact(show False from q).elim
theorem JO:qZ X (compareOp .IsNot) FW:=by
 intro pins s σ H x y v u Q I rx ry ⟨B,tx,ty,hb,r1,r2,q⟩;unfold FW at q;split at q
 ·exact BM pins s σ H _ _ v u Q I rx ry ⟨r2.xr,by rw[sE r1];exact q _ H (ar.refl H) (.bl _)⟩
 ·exact yD pins s σ H _ _ v u Q I rx ry ⟨_,_,r1.mj,r2.mj,q _ H (ar.refl H) (.bl _)⟩
 ·exact(show False from q).elim
def gD(av:List (Key×Tr))(k:Key):Option Tr:=(av.find? fun kv=>decide (kv.1=k)).map (·.2)
def jg:Tr->Option Key
 |.int i=>some (.inl i)
 |.str z=>some (.inr z)
 |_=>none
theorem ib{K:PySem.W.Frag}{H:Vw}{x:V}{t:Tr}{k:Key}(r:Rep K H x t)(e:jg t=some k):x=kV k:=by
 cases r with
 |int i=>cases e;rfl
 |str z h=>cases e;rfl
 |_=>cases e
theorem lH{K:PySem.W.Frag}{H:Vw}(k:Key):∀{ah:List (Key×V)} {av:List (Key×Tr)},ah.map (·.1)=av.map (·.1)->aF K H (ah.map (·.2)) (av.map (·.2))->(gD av k=none/\f' ah k=none)\/∃t v,gD av k=some t/\f' ah k=some v/\Rep K H v t
 |[],[],_,_=>.inl ⟨rfl,rfl⟩
 |[],_::_,e,_=>by cases e
 |_::_,[],e,_=>by cases e
 |(k1,v1)::ah,(k2,t2)::av,e,r=>by
  rw[aK,aK]at e;injection e with e1 e2
  have Aa:k1=k2:=e1;subst Aa;cases r with
  |cons h r=>
   by_cases q:k1=k
   ·refine .inr ⟨t2,v1,?_,i8 q,h⟩;unfold gD;rw[cW,dZ (show(k1,t2).1=k from q)]
    rfl
   ·rw[i9 q];have e3:gD ((k1,t2)::av) k=gD av k:=by
     unfold gD;rw[cW,cw (show¬(k1,t2).1=k from q)]
    rw[e3];exact lH k e2 r
theorem Ac{K:PySem.W.Frag}{H:Vw}{a:Addr}{ah:List (Key×V)}{av:List (Key×Tr)}{y:V}{t:Tr}{k:Key}(h:Rd H.H a (.dK ah))(e:ah.map (·.1)=av.map (·.1))(r:aF K H (ah.map (·.2)) (av.map (·.2)))(ry:Rep K H y t)(hk:jg t=some k):
  ∃o,m7 H a y o/\((gD av k=none/\o=none)\/∃t v,gD av k=some t/\o=some v/\Rep K H v t):=by
 have e1:=ib ry hk;subst e1;refine⟨_,.inl ⟨ah,k,h,rfl,rfl⟩,?_⟩;rcases lH k e r with⟨h1,h2⟩|⟨t,v,h1,h2,h3⟩
 ·exact .inl ⟨h1,h2⟩
 ·exact .inr ⟨t,v,h1,h2,h3⟩
def Bx:Tr->Bool
 |.a_=>true
 |.bl _=>true
 |.int _=>true
 |.str _=>true
 |_=>false
def eU(x:Tr)(u:Value):Bool:=match u with
 |.none=>eqT .a_ x
 |.bool b=>eqT (.bl b) x
 |.int i _=>eqT (.int i) x
 |.str z _=>eqT (.str z) x
 |_=>false
theorem v5{K:PySem.W.Frag}{H:Vw}{y:V}{t x:Tr}{u:Value}(r:Rep K H y t)(f:Bx t=true)(ry:RelV y u):eU x u=eqT t x:=by
 cases r with
 |a_=>cases(show u=Value.none from ry);rfl
 |bl b=>cases(show u=Value.bool b from ry);rfl
 |int i=>obtain⟨w,rfl⟩:=(show∃t,u=Value.int i t from ry);rfl
 |str z _=>obtain⟨w,rfl⟩:=(show∃t,u=Value.str z t from ry);rfl
 |_=>cases f
theorem pe{K:PySem.W.Frag}{H:Vw}{x:Tr}:∀{vs:List V} {ts:List Tr} {us:List Value},aF K H vs ts->ts.all Bx=true->Vals vs us->us.any (eU x)=ts.any fun y=>eqT y x
 |[],_,_,r,_,rv=>by cases r;cases rv;rfl
 |_::_,_,_,r,f,rv=>by
  cases r with
  |cons h r=>
   cases rv with
   |cons h1 rv=>
    rw[fR,a3]at f;rw[eX,eX,v5 h f.1 h1,pe r f.2 rv]
theorem CC{t:Tr}(f:Bx t=true):dT t<=0/\jY t=true:=by cases t<;>first|exact⟨aB _,rfl⟩|cases f
theorem mq{pins:List (Addr×Obj)}{σ:St}{H:Hp}{qi:Addr->Option Nat}{s:Shared}{A:Around}{x:V}{t:Tr}{v:Value}(I:Inv X pins σ H s)(hu:A.units<cLine)(rx:Rep X.K (⟨H,qi⟩:Vw) x t)(p:jY t=true)(rv:RelV x v):∀{vs:List V} {ts:List Tr} {us:List Value},aF X.K (⟨H,qi⟩:Vw) vs ts->ts.all Bx=true->Vals vs us->∀u∈us,SeqAt.EqAt A s u v (eU t u)
 |[],_,_,r,_,q=>fun u m=>by cases q;cases m
 |_::_,_,_,r,f,q=>fun u m=>by
  cases r with
  |cons h r=>
   cases q with
   |cons h1 q=>
    rw[fR,a3]at f;rcases aY.mp m with rfl|m
    ·rw[v5 h f.1 h1];obtain⟨d0,p0⟩:=CC f.1;exact z_ I 0 d0 p0 p h rx h1 rv hu
    ·exact mq I hu rx p rv r f.2 q u m
def HW(x:Tr)(ts:List Tr):Rs Bool:=if jY x=true/\ts.all Bx=true then .ok (ts.any fun y=>eqT y x)else .bad
def NG:Tr->Tr->Rs Tr
 |x,.tup ts=>Mc (HW x ts)
 |x,.lst ts=>Mc (HW x ts)
 |x,.a8 av=>match jg x with
  |some k=>.ok (.bl (gD av k).isSome)
  |none=>.bad
 |.str i,.str j=>.ok (.bl (!(Builtin.Str.occurrences j i 0 j.length 1).isEmpty))
 |_,_=>.bad
def FX:Tr->Tr->Rs Tr
 |x,.tup ts=>Mc (z3 (HW x ts))
 |x,.lst ts=>Mc (z3 (HW x ts))
 |x,.a8 av=>match jg x with
  |some k=>.ok (.bl (!(gD av k).isSome))
  |none=>.bad
 |.str i,.str j=>.ok (.bl (!(!(Builtin.Str.occurrences j i 0 j.length 1).isEmpty)))
 |_,_=>.bad
theorem nM{H:Hp}{x:Tr}{ts:List Tr}{k:Bool->Prop}(q:Fi X H (HW x ts) k):jY x=true/\ts.all Bx=true/\k (ts.any fun y=>eqT y x):=by
 unfold HW at q;split at q
 ·rename_i h;exact⟨h.1,h.2,q⟩
 ·exact q.elim
theorem xB{K:PySem.W.Frag}{B:br}{H:Hp}{x y:V}{tx:Tr}{av:List (Key×Tr)}{k:Key}(r:Rep K (aT B H) y (.a8 av))(r1:Rep K (aT B H) x tx)(ek:jg tx=some k):∃a,y=.ref a/\∃o,m7 H a x o/\o.isSome=(gD av k).isSome:=by
 cases r with
 |a8 h e rr=>
  obtain⟨o,g,ho⟩:=Ac (H:=raw _ _) (h.same aR) e (rr.same e6) r1.up ek;refine⟨_,rfl,o,g,?_⟩;rcases ho with⟨h1,rfl⟩|⟨_,_,h1,rfl,_⟩
  ·rw[h1];rfl
  ·rw[h1];rfl
theorem yL(hu:X.A.units+1<cLine):qZ X (compareOp .In) NG:=by
 intro pins s σ H x y v u Q I rx ry ⟨B,tx,ty,hb,r1,r2,q⟩;unfold NG at q;split at q
 ·have f:=nM (Fi.bind q);obtain⟨a,vs,rfl,h,rr⟩:=r2.cA;cases(show u=Value.ref a from ry);obtain⟨aV,rv,pl,_⟩:=I.tuple h.up;refine SeqAt.in_tupleAt (eU tx) pl (fun w hw=>mq I hu r1.up f.1 rx (rr.same e6) f.2.1 rv w (by simpa using hw)) ⟨.bl _,H,I,rfl,?_⟩;rw[show aV.toArray.any (eU tx)=aV.any (eU tx) by simp,pe rr f.2.1 rv];exact f.2.2 _ H (ar.refl H) (.bl _)
 ·have f:=nM (Fi.bind q);obtain⟨a,vs,rfl,h,rr⟩:=r2.lst_inv;cases(show u=Value.ref a from ry);obtain⟨aV,rv,pl,_⟩:=I.list (.of (cj h));refine SeqAt.in_listAt (eU tx) pl.isList (fun w hw=>mq I hu r1.up f.1 rx (rr.same e6) f.2.1 rv w (by simpa using hw)) ⟨.bl _,H,I,rfl,?_⟩;rw[show aV.toArray.any (eU tx)=aV.any (eU tx) by simp,pe rr f.2.1 rv];exact f.2.2 _ H (ar.refl H) (.bl _)
 ·split at q
  ·rename_i ek;obtain⟨a,rfl,g⟩:=xB r2 r1 ek;cases(show u=Value.ref a from ry);obtain⟨o,g,eo⟩:=g;refine Nj hu I g rx fun s' I'=>⟨.bl _,H,I',rfl,?_⟩;rw[eo];exact q _ H (ar.refl H) (.bl _)
  ·exact(show False from q).elim
 ·exact yt pins s σ H _ _ v u Q I rx ry ⟨_,_,r1.str_inv.1,r2.str_inv.1,q _ H (ar.refl H) (.bl _)⟩
 ·exact(show False from q).elim
theorem uA(hu:X.A.units+1<cLine):qZ X (compareOp .NotIn) FX:=by
 intro pins s σ H x y v u Q I rx ry ⟨B,tx,ty,hb,r1,r2,q⟩;unfold FX at q;split at q
 ·have f:=nM (Fi.bind (Fi.bind q));obtain⟨a,vs,rfl,h,rr⟩:=r2.cA;cases(show u=Value.ref a from ry);obtain⟨aV,rv,pl,_⟩:=I.tuple h.up;refine SeqAt.notIn_tupleAt (eU tx) pl (fun w hw=>mq I hu r1.up f.1 rx (rr.same e6) f.2.1 rv w (by simpa using hw)) ⟨.bl _,H,I,rfl,?_⟩;rw[show aV.toArray.any (eU tx)=aV.any (eU tx) by simp,pe rr f.2.1 rv];exact f.2.2 _ H (ar.refl H) (.bl _)
 ·have f:=nM (Fi.bind (Fi.bind q));obtain⟨a,vs,rfl,h,rr⟩:=r2.lst_inv;cases(show u=Value.ref a from ry);obtain⟨aV,rv,pl,_⟩:=I.list (.of (cj h));refine SeqAt.notIn_listAt (eU tx) pl.isList (fun w hw=>mq I hu r1.up f.1 rx (rr.same e6) f.2.1 rv w (by simpa using hw)) ⟨.bl _,H,I,rfl,?_⟩;rw[show aV.toArray.any (eU tx)=aV.any (eU tx) by simp,pe rr f.2.1 rv];exact f.2.2 _ H (ar.refl H) (.bl _)
 ·split at q
  ·rename_i ek;obtain⟨a,rfl,g⟩:=xB r2 r1 ek;cases(show u=Value.ref a from ry);obtain⟨o,g,eo⟩:=g;refine xg hu I g rx fun s' I'=>⟨.bl _,H,I',rfl,?_⟩;rw[eo];exact q _ H (ar.refl H) (.bl _)
  ·exact(show False from q).elim
 ·exact se pins s σ H _ _ v u Q I rx ry ⟨_,_,r1.str_inv.1,r2.str_inv.1,q _ H (ar.refl H) (.bl _)⟩
 ·exact(show False from q).elim
end
end L2
namespace L2
open PySem PySem.Spec PyProof.Rows
def mr{α:Type}:Option α->Rs α
 |some a=>.ok a
 |none=>.bad
def pj:Tr->Tr->Rs Tr
 |.tup ts,.int i=>mr (lp ts i)
 |.lst ts,.int i=>mr (lp ts i)
 |.str z,.int i=>(mr (lp z.cps.toList i)).bind fun c=>.ok (.str ⟨#[c]⟩)
 |.gq ns,.int i=>(mr (lp ns i)).bind fun n=>.ok (.int n)
 |.a8 av,t=>(mr (jg t)).bind fun k=>mr (gD av k)
 |_,_=>.bad
theorem aF.lp {K:PySem.W.Frag}{H:Vw}{vs:List V}{ts:List Tr}{i:Int}{t:Tr}(r:aF K H vs ts)(e:L2.lp ts i=some t):∃v,L2.lp vs i=some v/\Rep K H v t:=by
 unfold L2.lp at e⊢;rw[r.length];cases q:DT ts.length i with
 |none=>rw[q]at e;cases e
 |some j=>
  rw[q]at e;obtain⟨v,e1,r1⟩:=r.get (show ts[j]?=some t from e);exact⟨v,e1,r1⟩
theorem cJ{X:Cx}{H:Hp}{α:Type}{o:Option α}{k:α->Prop}(h:Fi X H (mr o) k):∃a,o=some a/\k a:=by
 cases o with
 |none=>exact h.elim
 |some a=>exact⟨a,rfl,h⟩
section
variable {X:Cx}{a b e:Expr}{pos:Pos}{F G:ax->Rs Tr}
theorem CD{α β:Type}(f:α->β)(xs:List α)(i:Int):L2.lp (xs.map f) i=(L2.lp xs i).map f:=by
 unfold L2.lp;rw[aE];cases DT xs.length i with
 |none=>rfl
 |some j=>show(xs.map f)[j]?=_;rw[bb];rfl
theorem CF(c:Nat):(⟨#[c]⟩:Str).length<=bS:=by show 1<=bS;decide
theorem CG{K:PySem.W.Frag}{B:br}{H:Hp}{x y:V}{ty t:Tr}{av:List (Key×Tr)}{k:Key}(r:Rep K (aT B H) x (.a8 av))(r2:Rep K (aT B H) y ty)(ek:jg ty=some k)(et:gD av k=some t):∃a w,x=.ref a/\m7 H a y (some w)/\Rep K (aT B H) w t:=by
 obtain⟨a,ah,e0,h,e,rr⟩:=r.sA;refine⟨a,?_⟩;rcases lH k e rr with⟨h1,_⟩|⟨t',w,h1,h2,h3⟩
 ·cases et.symm.trans h1
 ·cases et.symm.trans h1;exact⟨w,e0,.inl ⟨ah,k,h.same aR,ib r2 ek,h2.symm⟩,h3⟩
theorem JP(hu:X.A.units+1<cLine):HK X (rT X pj):=by
 intro value slice pins s σ H x y v u Q I rx ry ⟨B,tx,ty,hb,r1,r2,q⟩ hs;unfold pj at q;split at q
 ·obtain⟨a,vs,e,h,rr⟩:=r1.cA;obtain⟨t,et,k⟩:=cJ q;obtain⟨w,ew,j7⟩:=rr.lp et;exact zI value slice pins s σ H _ _ v u Q I rx ry ⟨_,_,_,w,e,r2.int_inv,h.up,ew,k w H (ar.refl H) j7⟩ hs
 ·obtain⟨a,vs,e,h,rr⟩:=r1.lst_inv;obtain⟨t,et,k⟩:=cJ q;obtain⟨w,ew,j7⟩:=rr.lp et;exact xa value slice pins s σ H _ _ v u Q I rx ry ⟨_,_,_,w,e,r2.int_inv,.of (cj h),ew,k w H (ar.refl H) j7⟩ hs
 ·obtain⟨c,et,k⟩:=cJ (Fi.bind q);exact Fc value slice pins s σ H _ _ v u Q I rx ry ⟨_,_,c,r1.str_inv.1,r2.int_inv,a6 r1.str_inv.2 lC,et,k _ H (ar.refl H) (.str _ (CF c))⟩ hs
 ·obtain⟨n,et,k⟩:=cJ (Fi.bind q);obtain⟨a,e,h⟩:=r1.xq;exact xa value slice pins s σ H _ _ v u Q I rx ry ⟨_,_,_,.int n,e,r2.int_inv,ar.seq aR h,by rw[CD,et];rfl,k _ H (ar.refl H) (.int n)⟩ hs
 ·obtain⟨k,ek,qk⟩:=cJ (Fi.bind q);obtain⟨t,et,qt⟩:=cJ qk;obtain⟨a,w,rfl,g,j7⟩:=CG r1 r2 ek et;cases(show v=Value.ref a from rx);exact tail_any (mJ I g) nS.lookup (qT hu I g ry fun w' s' I' rv=>⟨w,H,I',rv,qt w H (ar.refl H) j7⟩) hs
 ·exact(show False from q).elim
theorem NH(hu:X.A.units+1<cLine)(ha:PE X a (tP X F))(hb:PE X b (tP X G))(hs:fV b:=by exact fun _ _=>rfl):PE X (.Subscript a b pos) (tP X fun ρ=>ff pj (F ρ) (G ρ)):=
 (w_ (JP hu) ha hb hs).weak fun _ _ _ q=>i' q
inductive tO(X:Cx)(P:ax->Rs (Option Int))(σ:St)(H:Hp)(Q:Option Int->Hp->Prop):Prop
 |mk (B:br) (ρ:ax):HB B H->a4 X.K B H σ ρ->(Fi X H (P ρ) fun o=>∀H',ar H H'->Q o H')->tO X P σ H Q
def Me(r:Rs Tr):Rs (Option Int):=r.bind fun t=>match t with
 |.int i=>.ok (some i)
 |_=>.bad
theorem FY:PO X none (tO X fun _=>.ok none):=fun pins s σ H Q I ⟨B,ρ,hb,r,q⟩=>BW pins s σ H Q I (q H (ar.refl H))
theorem F0(h:PE X e (tP X F)):PO X (some e) (tO X fun ρ=>Me (F ρ)):=fun pins s σ H Q I ⟨B,ρ,hb,r,q⟩=>
 BX h pins s σ H Q I ⟨B,ρ,hb,r,q.bind.mono fun t qt v H' s' r'=>by
  split at qt
  ·exact⟨_,r'.int_inv,qt H' s'⟩
  ·exact qt.elim⟩
def m9{α:Type}(xs:List α)(lo hi:Option Int):List α:=(xs.drop (HT.cU xs.length 0 lo)).take (HT.cU xs.length xs.length hi - HT.cU xs.length 0 lo)
theorem aF.cut {K:PySem.W.Frag}{H:Vw}{vs:List V}{ts:List Tr}(r:aF K H vs ts)(lo hi:Option Int):aF K H (uc vs lo hi) (m9 ts lo hi):=by
 unfold uc m9;rw[r.length];exact(r.drop _).take _
def ic(n:Nat)(lo hi:Option Int):Bool:=HT.cU n 0 lo==0&&HT.cU n n hi==n
def NI:Tr->Option Int->Option Int->Rs Tr
 |.tup ts,lo,hi=>if ic ts.length lo hi=true then .bad else .ok (.tup (m9 ts lo hi))
 |.lst ts,lo,hi=>.ok (.lst (m9 ts lo hi))
 |.str z,lo,hi=>if(Txt.slice z lo hi).length<=bS then .ok (.str (Txt.slice z lo hi))else .bad
 |_,_,_=>.bad
inductive Px(X:Cx)(x:V)(lo:Option Int)(hi:Option Int)(H:Hp)(Q:VK):Prop
 |mk (B:br) (t:Tr):HB B H->Rep X.K (aT B H) x t->(Fi X H (NI t lo hi) fun t=>∀v H',ar H H'->Rep X.K (aT B H') v t->Q v H')->Px X x lo hi H Q
theorem NJ:HJ X (Px X):=by
 intro pins s σ H x v vl vu lo hi sl Q I rx hs pl pu ⟨B,t,hb,r,q⟩;cases r with
 |tup h rr=>
  rename_i a vs ts;have h:=Jo (K:=X.K) h;have q':Fi X H (if ic ts.length lo hi=true then Rs.bad else .ok (Tr.tup (m9 ts lo hi))) _:=q;by_cases hw:ic ts.length lo hi=true
  ·rw[ae hw]at q';exact(show False from q').elim
  ·rw[ai hw]at q';refine Fb pins s σ H _ v vl vu lo hi sl Q I rx hs pl pu ⟨_,_,rfl,h.up,fun z=>hw ?_,fun p hp=>q' _ _ (ar.upd hp) (.FT hb hp (rr.cut lo hi))⟩;rw[rr.length]at z;unfold ic;rw[z.1,z.2,bQ,bQ];rfl
 |lst h rr=>exact B6 pins s σ H _ v vl vu lo hi sl Q I rx hs pl pu ⟨_,_,rfl,.of (cj h),fun p hp=>q _ _ (ar.upd hp) (.vY hb hp (rr.cut lo hi))⟩
 |str z hz=>
  obtain⟨h1,k⟩:=eB q;exact FC pins s σ H _ v vl vu lo hi sl Q I rx hs pl pu ⟨z,rfl,a6 hz lC,k _ H (ar.refl H) (.str _ h1)⟩
 |_=>exact(show False from q).elim
variable {P1 P2:ax->Rs (Option Int)}{lo hi:Option Expr}{p2:Pos}
variable {es:List Expr}{L:ax->Rs (List Tr)}
def CH:List Tr->Rs Tr
 |[.str z]=>.ok (.int (z.length:Int))
 |[.tup ts]=>.ok (.int (ts.length:Int))
 |[.lst ts]=>.ok (.int (ts.length:Int))
 |[.gq ns]=>.ok (.int (ns.length:Int))
 |_=>.bad
theorem JQ:lD X (.builtin "len") CH:=by
 intro pins s σ H xs us Q I rv ⟨B,ts,hb,r,q⟩;unfold CH at q;split at q
 ·obtain⟨x,e,r⟩:=eO r;exact lj pins s σ H _ us Q I rv ⟨_,_,e,by rw[r.str_inv.1];exact⟨a6 r.str_inv.2 lC,rfl⟩,q _ H (ar.refl H) (.int _)⟩
 ·obtain⟨x,e,r⟩:=eO r;obtain⟨a,vs,rfl,h,rr⟩:=r.cA;exact lj pins s σ H _ us Q I rv ⟨_,_,e,.inr ⟨_,h.up,rfl⟩,q _ H (ar.refl H) (by rw[rr.length];exact .int _)⟩
 ·obtain⟨x,e,r⟩:=eO r;obtain⟨a,vs,rfl,h,rr⟩:=r.lst_inv;exact lj pins s σ H _ us Q I rv ⟨_,_,e,.inl ⟨_,.of (cj h),rfl⟩,q _ H (ar.refl H) (by rw[rr.length];exact .int _)⟩
 ·obtain⟨x,e,r⟩:=eO r;obtain⟨a,rfl,h⟩:=r.xq;exact lj pins s σ H _ us Q I rv ⟨_,_,e,.inl ⟨_,ar.seq aR h,rfl⟩,q _ H (ar.refl H) (by rw[aE];exact .int _)⟩
 ·exact(show False from q).elim
def D5:List Tr->Rs Tr
 |[.tup ts]=>.ok (.lst ts)
 |[.lst ts]=>.ok (.lst ts)
 |_=>.bad
def v7:List Tr->Rs Tr
 |[.tup ts]=>.ok (.tup ts)
 |[.lst ts]=>.ok (.tup ts)
 |_=>.bad
theorem CI:lD X (.type "tuple") v7:=by
 intro pins s σ H xs us Q I rv ⟨B,ts,hb,r,q⟩;unfold v7 at q;split at q
 ·obtain⟨x,e,r⟩:=eO r;obtain⟨a,vs,rfl,h,rr⟩:=r.zY;exact jX pins s σ H _ us Q I rv ⟨_,_,e,.inr ⟨.inl (.inl (cj h)),q _ H (ar.refl H) (.tup h rr)⟩⟩
 ·obtain⟨x,e,r⟩:=eO r;obtain⟨a,vs,rfl,h,rr⟩:=r.lst_inv;exact jX pins s σ H _ us Q I rv ⟨_,_,e,.inl ⟨.of (cj h),fun p hp=>q _ _ (ar.upd hp) (.FT hb hp rr)⟩⟩
 ·exact q.elim
def mS(h:Str->List Tr->Rs Tr)(a:Rs Tr)(l:Rs (List Tr)):Rs Tr:=a.bind fun t=>match t with
 |.str z=>l.bind (h z)
 |_=>.bad
inductive rM(X:Cx)(h:Str->List Tr->Rs Tr)(x:V)(xs:List V)(H:Hp)(Q:VK):Prop
 |mk (B:br) (z:Str) (ts:List Tr):HB B H->x=.str z->z.length<=bS->aF X.K (aT B H) xs ts->(Fi X H (h z ts) fun t=>∀v H',ar H H'->Rep X.K (aT B H') v t->Q v H')->rM X h x xs H Q
variable {o:Expr}{name:Str}{apos bj:Pos}{id:String}{h:Str->List Tr->Rs Tr}
theorem NK(slot:Slot "str" name id)(B7:typeOf (.builtin id)=pure (.type "method_descriptor"))(hm:HL X id (rM X h))(ho:PE X o (tP X F))(ha:PA X (e::es) (vq X L))(pa:PlainAttrs "str":=by exact PySem.F.plainAttrs_str)
  (lr:isCall o=false:=by rfl) (bx:aI (e::es)=true:=by rfl) (hn:(e::es).length<30:=by decide) (gv:(apos.endLine==bj.line)=true:=by rfl):
  PE X (.Call (.Attribute o name apos) (e::es) [] bj) (tP X fun ρ=>mS h (F ρ) (L ρ)):=
 (zJ pa slot B7 hm ho ha (e7 lr) (by rw[gA bx,dZ (show(e::es).length+([]:List Keyword).length+(if([]:List Keyword).isEmpty then 0 else 1)<30 from hn)];rfl) gv (aX _ _ (aD bx).1) (bu (aD bx).2)).weak fun σ H Q ⟨B,ρ,hb,r,q⟩=>⟨B,ρ,hb,r,q.bind.mono fun t qt v H1 s1 r1=>by
  split at qt
  ·rename_i z;obtain⟨rfl,hz⟩:=r1.str_inv;exact⟨rfl,B,ρ,hb.same s1,r.same s1,(Fi.bind qt|>.same s1).mono fun ts qs vs H2 s2 r2=>⟨B,z,ts,hb.same (s1.trans s2),rfl,hz,r2,(qs.same (s1.trans s2)).mono fun t qt v H3 s3 r3=>qt v H3 ((s1.trans s2).trans s3) r3⟩⟩
  ·exact qt.elim⟩
def iI:List Tr->Rs (List Str)
 |[]=>.ok []
 |.str z::ts=>(iI ts).bind fun zs=>.ok (z::zs)
 |_=>.bad
theorem uB:∀{ts:List Tr} {zs:List Str},iI ts=.ok zs->ts=zs.map Tr.str
 |[],zs,e=>by cases e;rfl
 |t::ts,zs,e=>by
  cases t with
  |str z=>
   rw[iI]at e;cases q:iI ts with
   |ok ys=>rw[q]at e;cases e;rw[uB q];rfl
   |_=>rw[q]at e;cases e
  |_=>cases e
theorem jZ{K:PySem.W.Frag}{H:Vw}:∀{zs:List Str} {vs:List V},aF K H vs (zs.map Tr.str)->vs=zs.map V.str
 |[],_,r=>by cases r;rfl
 |z::zs,_,r=>by
  cases r with
  |cons h r=>cases h;rw[jZ r];rfl
def joinM(z:Str):List Tr->Rs Tr
 |[.lst ts]=>(iI ts).bind fun zs=>if JoinOk z zs=true/\(Txt.join z zs).length<=bS then .ok (.str (Txt.join z zs))else .bad
 |_=>.bad
theorem ri:∀{ts:List Tr} {c:Tr},iI ts≠ .exc c
 |[],_=>fun e=>by cases e
 |t::ts,c=>fun e=>by
  cases t with
  |str z=>
   rw[iI]at e;cases q:iI ts with
   |ok ys=>rw[q]at e;cases e
   |exc c=>exact ri q
   |bad=>rw[q]at e;cases e
  |_=>cases e
theorem F1:HL X "str.join" (rM X joinM):=by
 intro pins s σ H x xs v us Q I rx rv ⟨B,z,ts,hb,e,hz,r,q⟩;subst e;unfold joinM at q;split at q
 ·rename_i uz;cases r with
  |cons h r=>
   cases r;cases h with
   |lst hl rr=>
    cases e:iI uz with
    |ok zs=>
     rw[e]at q;obtain⟨⟨h1,h2⟩,k⟩:=eB q;have e2:=uB e;subst e2;have e3:=jZ rr;subst e3;exact Ci pins s σ H _ _ v us Q I rx rv ⟨z,_,zs,rfl,rfl,.of (cj hl),h1,k _ H (ar.refl H) (.str _ h2)⟩
    |exc c=>exact(ri e).elim
    |bad=>rw[e]at q;exact(show False from q).elim
 ·exact(show False from q).elim
end
end L2
namespace L2
open PySem PySem.Spec PyProof.Rows
section
variable {X:Cx}{a e:Expr}{pos:Pos}{F:ax->Rs Tr}
def F2:Tr->Rs Tr
 |.int i=>.ok (.int (-i))
 |_=>.bad
theorem JR(ha:PE X a (tP X F)):PE X (.UnaryOp .USub a pos) (tP X fun ρ=>(F ρ).bind F2):=
 (IE EY ha).weak fun σ H Q ⟨B,ρ,hb,r,q⟩=>⟨B,ρ,hb,r,q.bind.mono fun t qt v H' s' r'=>by
  cases r' with
  |int i=>exact⟨i,rfl,qt _ H' s' (.int _)⟩
  |_=>exact(show False from qt).elim⟩
end
theorem cK{k:Nat}{A:Around}(hr:bq k A):A.units+40<cLine:=by have:=hr.units;omega
def yM(n m:Nat)(G:ax->Rs Out)(ts:List Tr):Rs Tr:=if ts.length=n then fW (G (startT m ts))else .bad
theorem CJ{n m:Nat}{G:ax->Rs Out}{ts:List Tr}{t:Tr}(h:yM n m G ts=.ok t):ts.length=n:=by
 unfold yM at h;split at h
 ·assumption
 ·cases h
theorem F3{n m:Nat}{G:ax->Rs Out}{ts:List Tr}{t:Tr}(h:yM n m G ts=.ok t):fW (G (startT m ts))=.ok t:=by
 unfold yM at h;split at h
 ·exact h
 ·cases h
end L2
namespace L2
open PySem PySem.Spec PyProof.Rows
def yN(av:List (Key×Tr))(k:Key)(t:Tr):List (Key×Tr):=
 if(av.any fun kv=>decide (kv.1=k))=true then av.map (fun kv=>if kv.1=k then(kv.1,t)else kv)else av++[(k,t)]
def gc(av more:List (Key×Tr)):List (Key×Tr):=more.foldl (fun acc kv=>yN acc kv.1 kv.2) av
structure bJ(K:PySem.W.Frag)(H:Vw)(ah:List (Key×V))(av:List (Key×Tr)):Prop where
 keys:ah.map (·.1)=av.map (·.1)
 vals:aF K H (ah.map (·.2)) (av.map (·.2))
section
variable {K:PySem.W.Frag}{H H':Vw}
theorem bJ.nil:bJ K H [] []:=⟨rfl,.nil⟩
theorem bJ.same {ah:List (Key×V)}{av:List (Key×Tr)}(s:b9 H H')(h:bJ K H ah av):bJ K H' ah av:=⟨h.keys,h.vals.same s⟩
theorem bJ.cons {k:Key}{v:V}{t:Tr}{ah:List (Key×V)}{av:List (Key×Tr)}(r:Rep K H v t)(h:bJ K H ah av):bJ K H ((k,v)::ah) ((k,t)::av):=⟨by rw[aK,aK,h.keys],.cons r h.vals⟩
theorem bJ.inv {k:Key}{v:V}{ah:List (Key×V)}{av:List (Key×Tr)}(h:bJ K H ((k,v)::ah) av):∃t r,av=(k,t)::r/\Rep K H v t/\bJ K H ah r:=by
 obtain⟨e,r⟩:=h
 match av,e,r with
 |(k2,t)::rest,e,r=>
  rw[aK,aK]at e;injection e with e1 e2
  have Aa:k=k2:=e1;subst Aa;cases r with
  |cons h1 h2=>exact⟨t,rest,rfl,h1,e2,h2⟩
theorem bJ.any (k:Key):∀{ah:List (Key×V)} {av:List (Key×Tr)},bJ K H ah av->(ah.any fun kv=>decide (kv.1=k))=av.any fun kv=>decide (kv.1=k)
 |[],av,h=>by
  have e:=h.keys;cases av with
  |nil=>rfl
  |cons a b=>cases e
 |(j,v)::ah,av,h=>by
  obtain⟨t,r,rfl,_,h2⟩:=h.inv;rw[eX,eX,bJ.any k h2]
theorem bJ.map (k:Key){y:V}{u:Tr}(ry:Rep K H y u):∀{ah:List (Key×V)} {av:List (Key×Tr)},bJ K H ah av->bJ K H (ah.map fun kv=>if kv.1=k then(kv.1,y)else kv) (av.map fun kv=>if kv.1=k then(kv.1,u)else kv)
 |[],av,h=>by
  have e:=h.keys;cases av with
  |nil=>exact .nil
  |cons a b=>cases e
 |(j,v)::ah,av,h=>by
  obtain⟨t,r,rfl,h1,h2⟩:=h.inv;rw[aK,aK];by_cases e:j=k
  ·rw[ae (show(j,v).1=k from e),ae (show(j,t).1=k from e)];exact .cons ry (bJ.map k ry h2)
  ·rw[ai (show¬(j,v).1=k from e),ai (show¬(j,t).1=k from e)];exact .cons h1 (bJ.map k ry h2)
theorem bJ.snoc (k:Key){y:V}{u:Tr}(ry:Rep K H y u):∀{ah:List (Key×V)} {av:List (Key×Tr)},bJ K H ah av->bJ K H (ah++[(k,y)]) (av++[(k,u)])
 |[],av,h=>by
  have e:=h.keys;cases av with
  |nil=>exact .cons ry .nil
  |cons a b=>cases e
 |(j,v)::ah,av,h=>by
  obtain⟨t,r,rfl,h1,h2⟩:=h.inv;exact .cons h1 (bJ.snoc k ry h2)
theorem bJ.put (k:Key){y:V}{u:Tr}(ry:Rep K H y u){ah:List (Key×V)}{av:List (Key×Tr)}(h:bJ K H ah av):bJ K H (putK ah k y) (yN av k u):=by
 unfold putK yN;rw[h.any k];by_cases e:(av.any fun kv=>decide (kv.1=k))=true
 ·rw[ae e,ae e];exact h.map k ry
 ·rw[ai e,ai e];exact h.snoc k ry
theorem bJ.merge:∀{more:List (Key×V)} {v8:List (Key×Tr)} {ah:List (Key×V)} {av:List (Key×Tr)},bJ K H more v8->bJ K H ah av->bJ K H (dH ah more) (gc av v8)
 |[],v8,ah,av,h,q=>by
  have e:=h.keys;cases v8 with
  |nil=>exact q
  |cons a b=>cases e
 |(k,v)::more,v8,ah,av,h,q=>by
  obtain⟨t,r,rfl,h1,h2⟩:=h.inv;exact bJ.merge (more:=more) (v8:=r) h2 (q.put k h1)
end
theorem a4.bar {K:PySem.W.Frag}{B:br}{H:Hp}{σ:St}{ρ:ax}{p:Addr}{o:HO}(h:a4 K B H σ ρ)(hp:H p=none):a4 K (gB B p) (upd H p o) σ ρ:=by
 refine⟨h.len,fun i t e=>?_,fun i ts e=>?_,h.ap⟩
 ·obtain⟨v,e1,r⟩:=h.sh i t e;exact⟨v,e1,r.same (fq hp)⟩
 ·obtain⟨D,ys,e1,e2,e3,r⟩:=h.ow i ts e;exact⟨D,ys,e1,xv.hd _ e2,by rw[aA (bf e3 hp)];exact e3,r.same (fq hp)⟩
def D6(k v:Rs Tr)(r:Rs (List (Tr×Tr))):Rs (List (Tr×Tr)):=k.bind fun x=>v.bind fun y=>r.bind fun ps=>.ok ((x,y)::ps)
def pq:List (Tr×Tr)->Rs (List (Key×Tr))
 |[]=>.ok []
 |(k,t)::r=>(mr (jg k)).bind fun k=>(pq r).bind fun l=>.ok ((k,t)::l)
def JS(r:Rs (List (Tr×Tr))):Rs Tr:=r.bind fun ps=>if ps.length<=15 then(pq ps).bind fun av=>.ok (.a8 (gc [] av))else .bad
inductive uC(K:PySem.W.Frag)(H:Vw):List (V×V)->List (Tr×Tr)->Prop where
 |nil:uC K H [] []
 |cons {x y:V} {t u:Tr} {ps:List (V×V)} {qs:List (Tr×Tr)} (h1:Rep K H x t) (h2:Rep K H y u) (r:uC K H ps qs):uC K H ((x,y)::ps) ((t,u)::qs)
theorem uC.length {K:PySem.W.Frag}{H:Vw}{ps:List (V×V)}{qs:List (Tr×Tr)}(h:uC K H ps qs):ps.length=qs.length:=by
 induction h with
 |nil=>rfl
 |cons _ _ _ ih=>rw[a5,a5,ih]
theorem rj{X:Cx}{K:PySem.W.Frag}{H:Vw}{H0:Hp}{k:List (Key×Tr)->Prop}{ps:List (V×V)}{qs:List (Tr×Tr)}(h:uC K H ps qs):Fi X H0 (pq qs) k->∃ah av,k av/\ps=ah.map (fun kv=>(kV kv.1,kv.2))/\bJ K H ah av:=by
 induction h generalizing k with
 |nil=>exact fun q=>⟨[],[],q,rfl,.nil⟩
 |cons h1 h2 r ih=>
  intro q;obtain⟨key,ek,q1⟩:=cJ (Fi.bind q);obtain⟨ah,av,k1,e1,rd⟩:=ih (Fi.bind q1);have e:=ib h1 ek;subst e;exact⟨(key,_)::ah,_,k1,by rw[aK,e1],.cons h2 rd⟩
section
variable {X:Cx}{a e o f:Expr}{pos apos bj:Pos}{F G E:ax->Rs Tr}{keys:List (Option Expr)}{vals:List Expr}{P:ax->Rs (List (Tr×Tr))}
structure QP(X:Cx)(pos:Pos)(keys:List (Option Expr))(vals:List Expr)(P:ax->Rs (List (Tr×Tr))):Prop where
 h:∃sy,HN X pos keys vals sy/\∀σ H Q,(∃B ρ,HB B H/\a4 X.K B H σ ρ/\Fi X H (P ρ) fun F4=>∀CK H',ar H H'->uC X.K (aT B H') CK F4->Q CK H')->oY sy σ H Q
theorem JT:QP X pos [] [] fun _=>.ok []:=⟨[],xj,fun σ H Q ⟨B,ρ,hb,r,q⟩=>q [] H (ar.refl H) .nil⟩
theorem CL{k v:Expr}(hk:PE X k (tP X F))(hv:PE X v (tP X G))(hr:QP X pos keys vals P):QP X pos (some k::keys) (v::vals) fun ρ=>D6 (F ρ) (G ρ) (P ρ):=by
 obtain⟨sy,h1,h2⟩:=hr.h;refine⟨_,ui hk hv h1,fun σ H Q ⟨B,ρ,hb,r,q⟩=>?_⟩;refine⟨B,ρ,hb,r,q.bind.mono fun x qx u H1 s1 r1=>⟨B,ρ,hb.same s1,r.same s1,(qx.bind.same s1).mono fun y qy w H2 s2 r2=>h2 _ _ _ ⟨B,ρ,hb.same (s1.trans s2),r.same (s1.trans s2),(qy.bind.same (s1.trans s2)).mono fun ps qp CK H3 s3 r3=>?_⟩⟩⟩;exact qp _ H3 ((s1.trans s2).trans s3) (.cons (r1.same (aW (s2.trans s3))) (r2.same (aW s3)) r3)
theorem F5(h:QP X pos keys vals P)(o4:keys.all (·.isSome)=true:=by rfl) (hl:keys.length=vals.length:=by rfl) (h0:keys.isEmpty=false:=by rfl) (yA:keys.length<=15:=by decide):PE X (.Dict keys vals pos) (tP X fun ρ=>JS (P ρ)):=by
 obtain⟨sy,h1,h2⟩:=h.h;refine(xk h1 o4 hl (fun z=>by rw[z]at h0;cases h0) yA).weak fun σ H Q ⟨B,ρ,hb,r,q⟩ p hp=>?_
 refine h2 σ _ _ ⟨gB B p,ρ,xu hb hp,r.bar hp,(q.bind.same (ar.upd hp)).mono fun F4 qp CK H2 s2 r2=>?_⟩;by_cases hz:F4.length<=15
 ·rw[ae hz]at qp;obtain⟨ah,av,k1,e1,rd⟩:=rj r2 (Fi.bind qp);refine⟨s2 _ _ aP,ah,e1,?_,?_⟩
  ·have e2:=bE List.length e1;rw[aE,r2.length]at e2;rw[<-e2];exact hz
  ·have Ri:=hb.free hp;have rm:=(bJ.merge rd bJ.nil);refine k1 _ _ (((ar.upd hp).trans s2).Cj hp) (.a8 (.inl (by rw[dc Ri];exact aP)) rm.keys (rm.vals.same ?_));have e3:aT (gB B p) (upd H2 p (.dK (dH [] ah)))=aT (gB B p) H2:=lE;rw[<-e3];exact uu
 ·rw[ai hz]at qp;exact(show False from qp).elim
theorem JU{m:Str}(hb:isCall o=false)(bx:aI [e,f]=true)(hl:(apos.endLine==bj.line)=true):M2 X o m apos e f bj:=
 ⟨e7 hb,by rw[gA bx];rfl,hl,by rw[aX _ _ (aD bx).1,aX _ _ (aD (aD bx).2).1,starEach];rfl⟩
def F6(av:List (Str×Tr)):Tr->Rs Tr
 |.str z=>mr (av.lookup z)
 |_=>.bad
variable {x:Str}{av:List (Str×Tr)}{p:Pos}
end
end L2
namespace L2
open PySem
variable {K:PySem.W.Frag}{w:World}{es:List DictEntry}{ah:List (Str×Value)}{av:List (Str×Tr)}
end L2
namespace L2
open PySem PySem.Spec PyProof.Rows
inductive Ao where
 |lst (ts:List Tr)|a8 (av:List (Key×Tr))|ins (x:Str) (fs:List (Str×Tr))|dB (av:List (List Key×Tr))|By (x:Str)|tb (x q:Str)
abbrev Ab:=List Ao
def kc(K:PySem.W.Frag)(B:br)(H:Hp)(a:Addr):Ao->Prop
 |.lst ts=>B.hd a=true/\∃vs,H a=some (.lst vs)/\aF K (aT B H) vs ts
 |.a8 av=>B.hd a=true/\∃ah,H a=some (.dK ah)/\bJ K (aT B H) ah av
 |.dB av=>B.hd a=true/\∃ah,H a=some (.dT ah)/\ah.map (·.1)=av.map (·.1)/\aF K (aT B H) (ah.map (·.2)) (av.map (·.2))
 |.ins x fs=>B.hd a=true/\∃dx c_,H a=some (.ins (clsAt K x) dx c_)/\H dx=some (.own a)/\B.ix dx=none/\c_.map (·.1)=fs.map (·.1)/\aF K (aT B H) (c_.map (·.2)) (fs.map (·.2))
 |.tb x q=>B.hd a=true/\(∃c,PySem.W.tabIn K x=some (c,a))/\H a=some (.BB #[.str q 0])
 |.By x=>B.hd a=true/\∃oe:Obj,H a=some (.ext fun h=>h.get? a=some oe)/\oe.cls=.ref (clsAt K x)
structure HA(K:PySem.W.Frag)(B:br)(A:Ab)(H:Hp):Prop where
 hb:HB B H
 ob:∀i o,A[i]?=some o->∃a,B.ix a=some i/\kc K B H a o
 inj:∀a b i,B.ix a=some i->B.ix b=some i->a=b
 lt:∀a i,B.ix a=some i->i<A.length
structure Grows(B:br)(H:Hp)(B':br)(H':Hp):Prop where
 fF:b9 (aT B H) (aT B' H')
 kp:∀b o,B.ix b=none->H b=some o->H' b=some o
 hd:∀b,B.ix b=none->B.hd b=true->B'.hd b=true
 nw:∀b i,B'.ix b=some i->B.ix b=none->H b=none
section
variable {K:PySem.W.Frag}{B B' B1 B2:br}{H H' H1 H2:Hp}{A:Ab}
theorem kc.same {a:Addr}{o:Ao}(h:kc K B H a o)(s:ar H H'):kc K B H' a o:=by
 cases o with
 |lst ts=>obtain⟨h0,vs,h1,h2⟩:=h;exact⟨h0,vs,s _ _ h1,h2.same (aW s)⟩
 |a8 av=>obtain⟨h0,vs,h1,h2⟩:=h;exact⟨h0,vs,s _ _ h1,h2.same (aW s)⟩
 |dB av=>obtain⟨h0,vs,h1,h2,h3⟩:=h;exact⟨h0,vs,s _ _ h1,h2,h3.same (aW s)⟩
 |By x=>obtain⟨h0,oe,h1,h2⟩:=h;exact⟨h0,oe,s _ _ h1,h2⟩
 |tb x q=>obtain⟨h0,h1,h2⟩:=h;exact⟨h0,h1,s _ _ h2⟩
 |ins c fs=>obtain⟨h0,dx,c_,h1,h2,h3,h4,h5⟩:=h;exact⟨h0,dx,c_,s _ _ h1,s _ _ h2,h3,h4,h5.same (aW s)⟩
theorem kc.hd {a:Addr}{o:Ao}(h:kc K B H a o):B.hd a=true:=by cases o<;>exact h.1
theorem kc.mem {a:Addr}{o:Ao}(h:kc K B H a o):∃x,H a=some x/\(∀vs,x≠ .tup vs)/\∀ob u,x≠ .gp ob u:=by
 cases o with
 |lst ts=>obtain⟨h0,vs,h1,h2⟩:=h;exact⟨_,h1,(fun _ e=>by cases e),(fun _ _ e=>by cases e)⟩
 |a8 av=>obtain⟨h0,vs,h1,h2⟩:=h;exact⟨_,h1,(fun _ e=>by cases e),(fun _ _ e=>by cases e)⟩
 |dB av=>obtain⟨h0,vs,h1,h2⟩:=h;exact⟨_,h1,(fun _ e=>by cases e),(fun _ _ e=>by cases e)⟩
 |By x=>obtain⟨h0,oe,h1,h2⟩:=h;exact⟨_,h1,(fun _ e=>by cases e),(fun _ _ e=>by cases e)⟩
 |tb x q=>obtain⟨h0,h1,h2⟩:=h;exact⟨_,h2,(fun _ e=>by cases e),(fun _ _ e=>by cases e)⟩
 |ins c fs=>obtain⟨h0,dx,c_,h1,h2⟩:=h;exact⟨_,h1,(fun _ e=>by cases e),(fun _ _ e=>by cases e)⟩
theorem HA.same (h:HA K B A H)(s:ar H H'):HA K B A H':=
 ⟨h.hb.same s,fun i o e=>by obtain⟨a,h1,h2⟩:=h.ob i o e;exact⟨a,h1,h2.same s⟩,h.inj,h.lt⟩
theorem HA.get (h:HA K B A H){a:Addr}{i:Nat}{o:Ao}(e:B.ix a=some i)(q:A[i]?=some o):kc K B H a o:=by
 obtain⟨b,h1,h2⟩:=h.ob i o q;rw[h.inj a b i e h1];exact h2
theorem HA.ex (h:HA K B A H){a:Addr}{i:Nat}(e:B.ix a=some i):∃o,A[i]?=some o/\kc K B H a o:=by
 have l:=h.lt a i e;exact⟨A[i],bp l,h.get e (bp l)⟩
theorem HA.free (h:HA K B A H){p:Addr}(hp:H p=none):B.ix p=none:=by
 cases e:B.ix p with
 |none=>rfl
 |some i=>
  obtain⟨o,_,q⟩:=h.ex e;obtain⟨x,e2,_⟩:=q.mem;rw[hp]at e2;cases e2
theorem Grows.of (s:ar H H'):Grows B H B H':=⟨aW s,fun b o _ e=>s b o e,fun _ _ e=>e,fun b i e n=>by rw[n]at e;cases e⟩
theorem Grows.refl:Grows B H B H:=.of (ar.refl H)
theorem Grows.trans (hb:HB B H)(a:Grows B H B1 H1)(b:Grows B1 H1 B2 H2):Grows B H B2 H2:=by
 have key:∀c,B.ix c=none->(∃o,H c=some o)->B1.ix c=none:=fun c n ⟨o,e⟩=>by
  cases q:B1.ix c with
  |none=>rfl
  |some i=>have:=a.nw c i q n;rw[e]at this;cases this
 refine⟨a.fF.trans b.fF,fun c o n e=>b.kp c o (key c n ⟨o,e⟩) (a.kp c o n e),fun c n e=>?_,fun c i e n=>?_⟩
 ·exact b.hd c (key c n (let⟨o,q,_⟩:=hb c e;⟨o,q⟩)) (a.hd c n e)
 ·cases q:B1.ix c with
  |none=>
   have:=b.nw c i e q;cases q2:H c with
   |none=>rfl
   |some o=>rw[a.kp c o n q2]at this;cases this
  |some j=>exact a.nw c j q n
def ke(B:br)(p:Addr)(i:Nat):br:=⟨fun b=>B.hd b||b==p,fun b=>if b=p then some i else B.ix b⟩
theorem lI{p:Addr}{i:Nat}:(ke B p i).hd p=true:=by show(B.hd p||p==p)=true;rw[bQ,Bool.or_true]
theorem d_{p:Addr}{i:Nat}:(ke B p i).ix p=some i:=ae rfl
theorem dq{p b:Addr}{i:Nat}(h:b≠p):(ke B p i).ix b=B.ix b:=ai h
theorem lJ{p b:Addr}{i:Nat}(h:b≠p):(ke B p i).hd b=B.hd b:=by show(B.hd b||b==p)=_;rw[g_ h,kX]
theorem Ad{p:Addr}{i:Nat}(hp:H p=none)(hx:B.ix p=none)(s:ar H H'):b9 (aT B H) (aT (ke B p i) H'):=⟨fun b u e=>by
 have e1:=aR b u e;have iH:b≠p:=bf e1 hp;have hB:B.hd b=false:=by
  cases q:B.hd b with
  |false=>rfl
  |true=>
   have e2:(if B.hd b=true then none else H b)=some u:=e;rw[q,ae rfl]at e2;cases e2
 rw[dc (by rw[lJ iH];exact hB)];exact s b u e1,fun b j e=>by
 have iH:b≠p:=fun z=>by rw[z]at e;rw[show(aT B H).ix p=B.ix p from rfl,hx]at e;cases e
 show(ke B p i).ix b=some j;rw[dq iH];exact e⟩
theorem HA.push {p:Addr}{o:Ao}(h:HA K B A H)(hp:H p=none)(s:ar H H')(ho:kc K (ke B p A.length) H' p o):Grows B H (ke B p A.length) H'/\HA K (ke B p A.length) (A++[o]) H':=by
 have hx:=h.free hp;have fF:b9 (aT B H) (aT (ke B p A.length) H'):=Ad hp hx s;have up:∀{a:Addr} {u:Ao},a≠p->kc K B H a u->kc K (ke B p A.length) H' a u:=fun{a u} iH q=>by
  have e0:(ke B p A.length).hd a=true:=by rw[lJ iH];exact q.hd
  cases u with
  |lst ts=>obtain⟨h0,vs,h1,h2⟩:=q;exact⟨e0,vs,s _ _ h1,h2.same fF⟩
  |a8 av=>obtain⟨h0,vs,h1,h2⟩:=q;exact⟨e0,vs,s _ _ h1,h2.same fF⟩
  |dB av=>obtain⟨h0,vs,h1,h2,h3⟩:=q;exact⟨e0,vs,s _ _ h1,h2,h3.same fF⟩
  |By x=>obtain⟨h0,oe,h1,h2⟩:=q;exact⟨e0,oe,s _ _ h1,h2⟩
  |tb x q=>obtain⟨h0,h1,h2⟩:=q;exact⟨e0,h1,s _ _ h2⟩
  |ins c fs=>
   obtain⟨h0,dx,c_,h1,h2,h3,h4,h5⟩:=q;exact⟨e0,dx,c_,s _ _ h1,s _ _ h2,by rw[dq (bf h2 hp)];exact h3,h4,h5.same fF⟩
 refine⟨⟨fF,fun b u _ e=>s b u e,fun b _ e=>?_,fun b i e n=>?_⟩,⟨fun b e=>?_,fun i u e=>?_,fun a b i e1 e2=>?_,fun a i e=>?_⟩⟩
 ·show(B.hd b||b==p)=true;rw[e,Bool.true_or]
 ·by_cases q:b=p
  ·rw[q];exact hp
  ·rw[dq q,n]at e;cases e
 ·by_cases q:b=p
  ·rw[q];obtain⟨x,e2,n,_⟩:=ho.mem;exact⟨x,e2,n⟩
  ·rw[lJ q]at e;obtain⟨x,e2,n⟩:=h.hb b e;exact⟨x,s _ _ e2,n⟩
 ·by_cases q:i<A.length
  ·rw[dn q]at e;obtain⟨a,e1,e2⟩:=h.ob i u e;have iH:a≠p:=fun z=>by rw[z,hx]at e1;cases e1
   exact⟨a,by rw[dq iH];exact e1,up iH e2⟩
  ·rw[gU (oB q)]at e;have hi:i - A.length=0:=by
    cases z:i - A.length with
    |zero=>rfl
    |succ k=>rw[z]at e;cases e
   rw[hi]at e;cases e;have:i=A.length:=by omega
   subst this;exact⟨p,d_,ho⟩
 ·by_cases q1:a=p
  ·by_cases q2:b=p
   ·rw[q1,q2]
   ·rw[q1,d_]at e1;cases e1;rw[dq q2]at e2;exact absurd (h.lt b _ e2) (cx _)
  ·by_cases q2:b=p
   ·rw[q2,d_]at e2;cases e2;rw[dq q1]at e1;exact absurd (h.lt a _ e1) (cx _)
   ·rw[dq q1]at e1;rw[dq q2]at e2;exact h.inj a b i e1 e2
 ·rw[bP,fN];by_cases q:a=p
  ·rw[q,d_]at e;cases e;exact kJ _
  ·rw[dq q]at e;exact jD (h.lt a i e)
theorem e8{a:Addr}{u:HO}(h:B.hd a=true):aT B (upd H a u)=aT B H:=by
 unfold aT;congr 1;funext b;by_cases q:b=a
 ·subst q;rw[ae h,ae h]
 ·rw[aA q]
theorem HA.write {a:Addr}{i:Nat}{o:Ao}{u:HO}(h:HA K B A H)(e:B.ix a=some i)(ho:kc K B (upd H a u) a o):Grows B H B (upd H a u)/\HA K B (A.set i o) (upd H a u):=by
 have hd:B.hd a=true:=ho.hd;have hv:aT B (upd H a u)=aT B H:=e8 hd;refine⟨⟨by rw[hv];exact b9.refl _,fun b x n q=>?_,fun _ _ q=>q,fun b j q n=>by rw[n]at q;cases q⟩,⟨fun b q=>?_,fun j x q=>?_,h.inj,fun b j q=>by rw[kS];exact h.lt b j q⟩⟩
 ·have iH:b≠a:=fun z=>by rw[z,e]at n;cases n
  rw[aA iH];exact q
 ·by_cases z:b=a
  ·subst z;obtain⟨x,e2,n,_⟩:=ho.mem;exact⟨x,e2,n⟩
  ·rw[aA z];exact h.hb b q
 ·rcases fb q with⟨rfl,_,rfl⟩|⟨xo,q⟩
  ·exact⟨a,e,ho⟩
  ·obtain⟨b,e1,e2⟩:=h.ob j x q;have iH:b≠a:=fun z=>by rw[z,e]at e1;cases e1;exact xo rfl
   refine⟨b,e1,?_⟩;cases x with
   |lst ts=>obtain⟨h0,vs,h1,h2⟩:=e2;exact⟨h0,vs,by rw[aA iH];exact h1,by rw[hv];exact h2⟩
   |a8 av=>obtain⟨h0,vs,h1,h2⟩:=e2;exact⟨h0,vs,by rw[aA iH];exact h1,by rw[hv];exact h2⟩
   |dB av=>obtain⟨h0,vs,h1,h2,h3⟩:=e2;exact⟨h0,vs,by rw[aA iH];exact h1,h2,by rw[hv];exact h3⟩
   |By x=>obtain⟨h0,oe,h1,h2⟩:=e2;exact⟨h0,oe,by rw[aA iH];exact h1,h2⟩
   |tb x q=>obtain⟨h0,h1,h2⟩:=e2;exact⟨h0,h1,by rw[aA iH];exact h2⟩
   |ins c fs=>
    obtain⟨h0,dx,c_,h1,h2,h3,h4,h5⟩:=e2;have NL:dx≠a:=fun z=>by rw[z,e]at h3;cases h3
    exact⟨h0,dx,c_,by rw[aA iH];exact h1,by rw[aA NL];exact h2,h3,h4,by rw[hv];exact h5⟩
end
mutual
def m_:Tr->Bool
 |.at _=>false
 |.tup ts=>eC ts
 |.lst ts=>eC ts
 |.a8 av=>xC av
 |.dB av=>xD av
 |.ob _ fs=>xE fs
 |_=>true
def eC:List Tr->Bool
 |[]=>true
 |t::ts=>m_ t&&eC ts
def xC:List (Key×Tr)->Bool
 |[]=>true
 |p::r=>D7 p&&xC r
def D7:Key×Tr->Bool
 |(_,t)=>m_ t
def xD:List (List Key×Tr)->Bool
 |[]=>true
 |p::r=>D8 p&&xD r
def D8:List Key×Tr->Bool
 |(_,t)=>m_ t
def xE:List (Str×Tr)->Bool
 |[]=>true
 |p::r=>D9 p&&xE r
def D9:Str×Tr->Bool
 |(_,t)=>m_ t
end
theorem rl:∀(av:List (Key×Tr)),xC av=eC (av.map (·.2))
 |[]=>rfl
 |(k,t)::r=>by rw[xC,D7,aK,eC,rl r]
theorem rn:∀(av:List (List Key×Tr)),xD av=eC (av.map (·.2))
 |[]=>rfl
 |(k,t)::r=>by rw[xD,D8,aK,eC,rn r]
theorem ro:∀(av:List (Str×Tr)),xE av=eC (av.map (·.2))
 |[]=>rfl
 |(k,t)::r=>by rw[xE,D9,aK,eC,ro r]
mutual
def Bz:Tr->Bool
 |.a_=>true
 |.bl _=>true
 |.int _=>true
 |.str _=>true
 |.ty _=>true
 |.at _=>true
 |.tup ts=>jh ts
 |_=>false
def jh:List Tr->Bool
 |[]=>true
 |t::ts=>Bz t&&jh ts
end
def az:Nat->Ab->Tr->Tr
 |0,_,t=>t
 |n+1,A,.at i=>match A[i]? with
  |some (.lst ts)=>.lst (ts.map (az n A))
  |some (.a8 av)=>.a8 (av.map fun p=>(p.1,az n A p.2))
  |some (.dB av)=>.dB (av.map fun p=>(p.1,az n A p.2))
  |some (.ins c fs)=>.ob c (fs.map fun p=>(p.1,az n A p.2))
  |some (.By x)=>.zV x
  |some (.tb _ _)=>.at i
  |none=>.at i
 |_+1,_,t=>t
def br.un (B:br):br:=⟨fun b=>B.hd b&&(B.ix b).isNone,B.ix⟩
section
variable {K:PySem.W.Frag}{B B':br}{H H':Hp}{A:Ab}
theorem D_:mK B.un B:=⟨fun b e=>by
 have e':(B.hd b&&(B.ix b).isNone)=true:=e;rw[a3]at e';exact e'.1,fun _ _ e=>e⟩
theorem dJ:b9 (aT B H) (aT B.un H):=o9 D_
theorem xF(h:HB B H):HB B.un H:=fun b e=>h b (D_.hd b e)
theorem uD{a:Addr}{i:Nat}(e:B.ix a=some i):(aT B.un H).H a=H a:=dc (by show(B.hd a&&(B.ix a).isNone)=false;rw[e];exact oM _)
theorem ji{W W':Vw}{f:Tr->Tr}(h:∀{v t},Rep K W v t->Rep K W' v (f t)):∀{vs:List V} {ts:List Tr},aF K W vs ts->aF K W' vs (ts.map f)
 |[],_,r=>by cases r;exact .nil
 |_::_,_,r=>by cases r with|cons h1 r=>exact .cons (h h1) (ji h r)
theorem eD(ha:HA K B A H):∀(n:Nat) {v:V} {t:Tr},Rep K (aT B H) v t->Rep K (aT B.un H) v (az n A t)
 |0,v,t,r=>by rw[az];exact r.same dJ
 |n+1,v,t,r=>by
  cases r with
  |@«at» a i h=>
   have e:B.ix a=some i:=h;obtain⟨o,q,ao⟩:=ha.ex e;rw[az,q];cases o with
   |lst ts=>
    obtain⟨h0,vs,h1,h2⟩:=ao;exact .lst (by rw[uD e];exact h1) (ji (fun r=>eD ha n r) h2)
   |a8 av=>
    obtain⟨h0,ah,h1,h2⟩:=ao;refine .a8 (.inl (by rw[uD e];exact h1)) (by rw[h2.keys,bR];rfl) ?_
    have:=ji (fun r=>eD ha n r) h2.vals;rw[bR]at this⊢;exact this
   |By x=>obtain⟨h0,oe,h1,h2⟩:=ao;exact .zV (by rw[uD e];exact h1) h2
   |tb x q=>exact .at e
   |dB av=>
    obtain⟨h0,ah,h1,h2,h3⟩:=ao;refine .dB (.inl (by rw[uD e];exact h1)) (by rw[h2,bR];rfl) ?_
    have:=ji (fun r=>eD ha n r) h3;rw[bR]at this⊢;exact this
   |ins c fs=>
    obtain⟨h0,dx,c_,h1,h2,h3,h4,h5⟩:=ao;refine .ob (by rw[uD e];exact h1) (by rw[h4,bR];rfl) ?_
    have:=ji (fun r=>eD ha n r) h5;rw[bR]at this⊢;exact this
  |a_=>exact .a_
  |bl b=>exact .bl b
  |int i=>exact .int i
  |str z h=>exact .str z h
  |ty m=>exact .ty m
  |gq h=>exact .gq (dJ.h.seq h)
  |tup h r=>exact .tup (dJ.h _ _ h) (r.same dJ)
  |lst h r=>exact .lst (dJ.h _ _ h) (r.same dJ)
  |a8 h e r=>exact .a8 (h.same dJ.h) e (r.same dJ)
  |dB h e r=>exact .dB (Rd.same dJ.h h) e (r.same dJ)
  |ob h e r=>exact .ob (dJ.h _ _ h) e (r.same dJ)
  |zV h c=>exact .zV (dJ.h _ _ h) c
theorem F7(ha:HA K B A H){a:Addr}{x:HO}(e:(aT B.un H).H a=some x)(hx:(∃vs,x=.tup vs)\/∃o u,x=.gp o u):(aT B H).H a=some x:=by
 have e1:=aR a x e;cases q:B.hd a with
 |false=>rw[dc q];exact e1
 |true=>
  cases z:B.ix a with
  |none=>
   have e2:(if B.un.hd a=true then none else H a)=some x:=e;rw[show B.un.hd a=(B.hd a&&(B.ix a).isNone)from rfl,q,z]at e2;cases e2
  |some i=>
   obtain⟨o,_,ao⟩:=ha.ex z;obtain⟨y,e3,n1,n2⟩:=ao.mem;rw[e1]at e3;cases e3;rcases hx with⟨vs,rfl⟩|⟨o,u,rfl⟩
   ·exact absurd rfl (n1 vs)
   ·exact absurd rfl (n2 o u)
structure gE(W W':Vw):Prop where
 h:∀a x,W.H a=some x->((∃vs,x=.tup vs)\/∃o u,x=.gp o u)->W'.H a=some x
 x:∀a i,W.ix a=some i->W'.ix a=some i
theorem gE.un (ha:HA K B A H):gE (aT B.un H) (aT B H):=⟨fun a x e hx=>F7 ha e hx,fun _ _ e=>e⟩
theorem gE.trans {W W1 W2:Vw}(a:gE W W1)(b:gE W1 W2):gE W W2:=⟨fun c x e hx=>b.h c x (a.h c x e hx) hx,fun c i e=>b.x c i (a.x c i e)⟩
theorem gE.new {p:Addr}{i:Nat}{x:HO}(hx:B.ix p=none)(hp:H p=some x)(n1:∀vs,x≠ .tup vs)(n2:∀o u,x≠ .gp o u):gE (aT B H) (aT (ke B p i) H):=⟨fun a y e hy=>by
 have e1:=aR a y e;have iH:a≠p:=fun z=>by
  rw[z,hp]at e1;cases e1;rcases hy with⟨vs,z⟩|⟨o,u,z⟩
  ·exact n1 vs z
  ·exact n2 o u z
 have hB:B.hd a=false:=by
  cases q:B.hd a with
  |false=>rfl
  |true=>
   have e2:(if B.hd a=true then none else H a)=some y:=e;rw[q,ae rfl]at e2;cases e2
 rw[dc (by rw[lJ iH];exact hB)];exact e1,fun a j e=>by
 have iH:a≠p:=fun z=>by rw[z]at e;rw[show(aT B H).ix p=B.ix p from rfl,hx]at e;cases e
 show(ke B p i).ix a=some j;rw[dq iH];exact e⟩
theorem xG{W W':Vw}(s:gE W W'){v:V}{t:Tr}(h:Rep K W v t):Bz t=true->Rep K W' v t:=by
 refine Rep.rec (motive_1:=fun v t _=>Bz t=true->Rep K W' v t) (motive_2:=fun vs ts _=>jh ts=true->aF K W' vs ts) ?_ ?_ ?_ ?_ ?_ ?_ ?_ ?_ ?_ ?_ ?_ ?_ ?_ ?_ ?_ h
 ·exact fun _=>.a_
 ·exact fun b _=>.bl b
 ·exact fun i _=>.int i
 ·exact fun z h _=>.str z h
 ·exact fun n _=>.ty n
 ·exact fun h f=>nomatch f
 ·intro a vs ts h _ ih f;refine .tup ?_ (ih f)
  exact s.h _ _ h (.inl ⟨_,rfl⟩)
 ·exact fun h _ _ f=>nomatch f
 ·exact fun h _ _ _ f=>nomatch f
 ·exact fun h _=>.at (s.x _ _ h)
 ·exact fun h _ _ _ f=>nomatch f
 ·exact fun h _ _ _ f=>nomatch f
 ·exact fun h c f=>nomatch f
 ·exact fun _=>.nil
 ·intro v t vs ts _ _ NM NN f;rw[jh,a3]at f;exact .cons (NM f.1) (NN f.2)
theorem lK{W W':Vw}(s:gE W W'):∀{vs:List V} {ts:List Tr},aF K W vs ts->jh ts=true->aF K W' vs ts
 |[],_,r,_=>by cases r;exact .nil
 |_::_,_,r,f=>by
  cases r with
  |cons h r=>
   rw[jh,a3]at f;exact .cons (xG s h f.1) (lK s r f.2)
theorem rq(ha:HA K B A H){v:V}{t:Tr}(h:Rep K (aT B.un H) v t)(f:Bz t=true):Rep K (aT B H) v t:=xG (.un ha) h f
theorem Rep.Ae {W W':Vw}(s:ar W.H W'.H){v:V}{t:Tr}(h:Rep K W v t):m_ t=true->Rep K W' v t:=by
 refine Rep.rec (motive_1:=fun v t _=>m_ t=true->Rep K W' v t) (motive_2:=fun vs ts _=>eC ts=true->aF K W' vs ts) ?_ ?_ ?_ ?_ ?_ ?_ ?_ ?_ ?_ ?_ ?_ ?_ ?_ ?_ ?_ h
 ·exact fun _=>.a_
 ·exact fun b _=>.bl b
 ·exact fun i _=>.int i
 ·exact fun z h _=>.str z h
 ·exact fun n _=>.ty n
 ·exact fun h _=>.gq (s.seq h)
 ·exact fun h _ ih f=>.tup (s _ _ h) (ih f)
 ·exact fun h _ ih f=>.lst (s _ _ h) (ih f)
 ·intro a ah av h e _ ih f;refine .a8 (Rd.same s h) e (ih ?_);rw[m_,rl]at f;exact f
 ·exact fun h f=>nomatch f
 ·intro a ah av h e _ ih f;refine .dB (Rd.same s h) e (ih ?_);rw[m_,rn]at f;exact f
 ·intro a c dx c_ fs h e _ ih f;refine .ob (s _ _ h) e (ih ?_);rw[m_,ro]at f;exact f
 ·exact fun h c _=>.zV (s _ _ h) c
 ·exact fun _=>.nil
 ·intro v t vs ts _ _ NM NN f;rw[eC,a3]at f;exact .cons (NM f.1) (NN f.2)
theorem aF.Ae {W W':Vw}(s:ar W.H W'.H):∀{vs:List V} {ts:List Tr},aF K W vs ts->eC ts=true->aF K W' vs ts
 |[],_,r,_=>by cases r;exact .nil
 |_::_,_,r,f=>by
  cases r with
  |cons h r=>
   rw[eC,a3]at f;exact .cons (h.Ae s f.1) (aF.Ae s r f.2)
end
def JV(A:Ab):Cell->Cell
 |.sh t=>.sh (az 5 A t)
 |c=>c
def aM(A:Ab)(ρ:ax):ax:=ρ.map (JV A)
theorem a4.F8 {K:PySem.W.Frag}{B:br}{H:Hp}{A:Ab}{σ:St}{ρ:ax}(ha:HA K B A H)(n:dD ρ)(h:a4 K B H σ ρ):a4 K B.un H σ (aM A ρ):=by
 have no:∀i ts,(aM A ρ)[i]? ≠some (Cell.ow ts):=fun i ts e=>by
  unfold aM at e;rw[bb]at e;cases q:ρ[i]? with
  |none=>rw[q]at e;cases e
  |some c=>
   rw[q]at e;cases c with
   |no=>cases e
   |sh t=>cases e
   |ow us=>exact n i us q
 refine⟨by unfold aM;rw[aE];exact h.len,fun i t e=>?_,fun i ts e=>absurd e (no i ts),fun i j ts us D _ e=>absurd e (no i ts)⟩;unfold aM at e;rw[bb]at e;cases q:ρ[i]? with
 |none=>rw[q]at e;cases e
 |some c=>
  rw[q]at e;cases c with
  |no=>cases e
  |ow us=>exact absurd q (n i us)
  |sh u=>
   obtain⟨v,e1,r⟩:=h.sh i u q;have e2:az 5 A u=t:=by
    have e3:=Option.some.inj e;exact(Cell.sh.inj e3)
   rw[<-e2];exact⟨v,e1,eD ha 5 r⟩
theorem a4.grow {K:PySem.W.Frag}{B B':br}{H H':Hp}{σ:St}{ρ:ax}(h:a4 K B H σ ρ)(n:dD ρ)(g:Grows B H B' H'):a4 K B' H' σ ρ:=
 ⟨h.len,fun i t e=>by obtain⟨v,e1,r⟩:=h.sh i t e;exact⟨v,e1,r.same g.fF⟩,fun i ts e=>absurd e (n i ts),fun i j ts us D _ e=>absurd e (n i ts)⟩
end L2
namespace L2
open PySem PySem.Spec PyProof.Rows
theorem bI.get {P:Program}{w:World}{H:Hp}{h:Heap}{a:Addr}{o:HO}(x:bI P w H h a o):∃u,h.get? a=some u:=by
 cases o with
 |lst xs=>obtain⟨_,_,_,_,e⟩:=x;exact⟨_,e⟩
 |tup xs=>obtain⟨_,_,_,o,e,_⟩:=x;exact⟨o,e⟩
 |dK ah=>obtain⟨_,_,_,_,o,_,_,e,_⟩:=x;exact⟨o,e⟩
 |dT ah=>obtain⟨_,_,_,_,o,_,_,e,_⟩:=x;exact⟨o,e⟩
 |set S n=>obtain⟨o,_,_,_,e,_⟩:=x;exact⟨o,e⟩
 |ins C dx fs=>obtain⟨_,_,_,e,_⟩:=x;exact⟨_,e⟩
 |own y=>exact x
 |xd fs=>obtain⟨_,⟨_,_,_,e,_⟩,_⟩:=x;exact⟨_,e⟩
 |LS lo hi=>obtain⟨_,_,_,e⟩:=x;exact⟨_,e⟩
 |gp ob u=>obtain⟨e,_⟩:=x;exact⟨_,e⟩
 |BB ps=>obtain⟨qs,e,_⟩:=x;exact⟨_,e⟩
 |met f y=>exact⟨_,(show h.get? a=some _ from x)⟩
 |ext φ=>obtain⟨_,e,_⟩:=x;exact e
structure JW(h0:Heap)(H:Hp)(h:Heap)(a:Addr)(cls:Value):Prop where
 ob:∃oe vs a0,h.get? a=some oe/\oe.cls=cls/\oe.data=.fields vs/\vs[0]?=some a0/\
  (vs[1]?=some .none\/∃T oT ts,vs[1]?=some (.ref T)/\T≠a/\h0.get? T=none/\H T=none/\h.get? T=some oT/\oT.data=.fields ts/\ts[3]?=some .none)
 fr:H a=none
 nw:h0.get? a=none
def XS(X:Cx)(H:Hp)(cls e:Value)(s:Shared):Prop:=∃a pins σ h0,e=.ref a/\Inv X pins σ H s/\JW h0 H s.heap a cls/\(∀b,h0.get? b=none->X.eu.heap.get? b=none)/\(∀p∈X.pn,∃o,h0.get? p.1=some o)/\∀b,s.heap.get? b=none->h0.get? b=none
def EX(X:Cx):XK:=fun cls _ H=>∀e s,XS X H cls e s->X.xe e s
def nc(P:Program)(w:World):t7:=fun outer H s E e s'=>∃a cls H',e=.ref a/\s'.os=s.os/\AllBare s'.gens/\Un (la outer) [] H H' s.heap s'.heap/\j4 P w H' s'.heap/\JW s.heap H' s'.heap a cls/\E cls none H'
theorem JW.JX {h0 h1 h:Heap}{H:Hp}{a:Addr}{cls:Value}(u:JW h1 H h a cls)(k:∀b,h1.get? b=none->h0.get? b=none):JW h0 H h a cls:=by
 obtain⟨⟨oe,vs,a0,e1,e2,e3,e4,e5⟩,f,n⟩:=u;refine⟨⟨oe,vs,a0,e1,e2,e3,e4,?_⟩,f,k a n⟩;rcases e5 with e5|⟨T,oT,ts,q1,q2,q3,q4⟩
 ·exact .inl e5
 ·exact .inr ⟨T,oT,ts,q1,q2,k T q3,q4⟩
theorem Inv.Af {X:Cx}{pins:List (Addr×Obj)}{σ:St}{H:Hp}{s:Shared}(I:Inv X pins σ H s)(hx:X.ex=[]){b:Addr}(n:s.heap.get? b=none):X.eu.heap.get? b=none:=by
 cases q:X.eu.heap.get? b with
 |none=>rfl
 |some o=>
  obtain⟨o',e⟩:=I.base.there b o q (by rw[hx];simp);rw[n]at e;cases e
theorem gF{X:Cx}(hx:X.ex=[]):Passes (nc X.prog X.w) X (EX X):=by
 intro pins σ H s e s' I z;obtain⟨a,cls,H',rfl,os,bare,un,bB,NO,q⟩:=z;have ce:CE X.stack X.prog X.w H s (fun _ H2=>H2=H') .none s':=⟨.a_,H',os,bare,un,bB,rfl,rfl⟩;obtain⟨v,H2,I2,_,rfl⟩:=I.after ce;exact q (.ref a) s' ⟨a,pins,σ,s.heap,rfl,I2,NO,fun b n=>I.Af hx n,fun p hp=>⟨_,(I.pin p (n_ _ hp)).1⟩,fun b n=>by
  cases z:s.heap.get? b with
  |none=>rfl
  |some o=>obtain⟨o',e⟩:=un.there b o z (by simp);rw[n]at e;cases e⟩
section
variable {P:Program}{w:World}{K:PySem.W.Frag}{mg:Str->Option Value}{base:Heap}{N:List Str}{qual:Str}{scope:Scope}{f:Addr}{cd:Value}{A:Around}{outer:List Env}{s:Shared}{H:Hp}{E:XK}
theorem Ag{H':Hp}{cls e:Value}{s':Shared}(x:XS (iR (nc P w) P w K mg base N qual scope f cd A outer s H E) H' cls e s')(q:E cls none H'):(iR (nc P w) P w K mg base N qual scope f cd A outer s H E).xe e s':=by
 obtain⟨a,pins,σ,SG,rfl,I,NP,old,_,_⟩:=x;have NO:=NP.JX (h0:=s.heap) old;obtain⟨⟨oe,vs,a0,he,BF,hd,h0,h1⟩,fr,nw⟩:=NO
 let env:=envOfC qual scope s.heap.objs.size f cd
 have HX:(A.deeper env).frames=some (env::outer):=I.ok.frames;have hk:s'.heap.FunFrames base (env::outer):=I.stack;have Mf:∀L∈la (env::outer),H' L=none/\∃o,s'.heap.get? L=some o/\∀ws,o.data≠ .fields ws:=fun L hL=>⟨I.sd L hL,(hk.mem hL).2⟩;have SH:a∉la (env::outer):=fun m=>by
  obtain⟨_,o,e1,e2⟩:=Mf a m;rw[he]at e1;cases e1;exact e2 vs hd
 have fin:∀(hs:List Addr) (h':Heap),(∀b∈hs,H' b=none/\(b∈la (env::outer)\/s.heap.get? b=none))->(∀b∈la (env::outer),b∈hs)->a∈hs->(∀b∈hs,b∈la (env::outer)\/b=a\/H' b=none)->
   Heap.LeftW (PySem.W.hideAll s'.heap hs) (env::outer) a cls a0 s'.heap h'->nc P w outer H s E (.ref a) {s' with heap:=h'}:=by
  intro hs h' hh JY Rj _ ⟨k1,k2,k3,k4⟩;have kp:∀b o,b∉hs->s'.heap.get? b=some o->h'.get? b=some o:=fun b o nb e=>k1 b o (kK _ e nb);have old:∀b o,s.heap.get? b=some o->b∉la outer->b∉hs:=fun b o e nf m=>by
   rcases(hh b m).2 with z|z
   ·unfold la at z;rw[kD]at z;have z':b∈s.heap.objs.size::la outer:=z;rcases aY.mp z' with z'|z'
    ·exact absurd (aH e) (by rw[z'];exact cx _)
    ·exact nf z'
   ·rw[e]at z;cases z
  have sl:∀b o,s'.heap.get? b=some o->b∈la outer->∃sl,h'.get? b=some {o with slots:=sl}:=fun b o e m=>by
   obtain⟨_,o2,e2,nf⟩:=Mf b (by unfold la at m⊢;rw[kD];exact bC _ m);rw[e]at e2;cases e2;exact k4 b o e nf
  have U:Un (la outer) [] H H' s.heap s'.heap:=I.base;refine⟨a,cls,H',rfl,I.os,I.bare,⟨fun b o e n nf nx=>?_,fun b o e n m nx=>?_,U.free,fun b o e nx=>?_,U.kZ,U.jP,U.k_⟩,fun b o e=>?_,⟨?_,fr,nw⟩,q⟩
  ·exact kp b o (old b o e nf) (U.keep b o e n nf nx)
  ·obtain⟨s1,e1⟩:=U.slot b o e n m nx;obtain⟨s2,e2⟩:=sl b _ e1 m;exact⟨s2,e2⟩
  ·obtain⟨o1,e1⟩:=U.there b o e nx;by_cases m:b∈la outer
   ·obtain⟨s2,e2⟩:=sl b o1 e1 m;exact⟨_,e2⟩
   ·exact⟨o1,kp b o1 (old b o e m) e1⟩
  ·refine(I.bB b o e).qm (fun c u hc z=>kp c u (fun m=>?_) z) (fun _ z=>z) fun _ _ z=>z;have n:=(hh c m).1;rcases hc with rfl|hc
   ·rw[n]at e;cases e
   ·rw[n]at hc;cases hc
  ·obtain⟨Rk,NQ,T,oT,ts,q1,⟨q2,q3⟩,q4,q5,q6,q7,q8,q9,Rm⟩:=k3;refine⟨Rk,NQ,a0,q1,q2,q4,q3,.inr ⟨T,oT,ts,q5,q7,?_,?_,q8,q9,Rm⟩⟩
   ·by_cases m:T∈hs
    ·rcases(hh T m).2 with z|z
     ·obtain⟨o3,e3,n3⟩:=(k2.mem z).2;rw[q8]at e3;cases e3;exact absurd q9 (n3 ts)
     ·exact z
    ·cases z:s.heap.get? T with
     |none=>rfl
     |some o=>
      obtain⟨o1,e1⟩:=U.there T o z (by simp);rw[kK _ e1 m]at q6;cases q6
   ·by_cases m:T∈hs
    ·exact(hh T m).1
    ·cases z:H' T with
     |none=>rfl
     |some o=>
      obtain⟨u,e1⟩:∃u,s'.heap.get? T=some u:=(I.bB T o z).get;rw[kK _ e1 m]at q6;cases q6
 have kq:∀e∈(env::outer),∀b,e.frame=some b->b∈la (env::outer):=fun e he b hb=>oj.mpr ⟨e,he,hb⟩;show wpAny (model P w) (A.deeper env) (leaving env (.ref a)) (fun _ E8=>nc P w outer H s E (.ref a) E8) _ s';rcases h1 with h1|⟨T,oT,ts,h1,Rn,Ro,Py,hT,Rp,h3⟩
 ·let hs:=a::la (env::outer)
  refine wpAny_leaving_firstW (base:=PySem.W.hideAll s'.heap hs) HX (PySem.W.funFrames_hide hk fun e he b hb=>bC _ (kq e he b hb)) rfl he (fun b o z=>oh _ z) (nF _ (cg ..)) hd h1 h0 fun h' hL=>?_
  rw[BF]at hL;refine fin hs h' (fun b m=>?_) (fun b m=>bC _ m) (cg ..) (fun b m=>?_) hL
  ·rcases aY.mp m with rfl|m
   ·exact⟨fr,.inr nw⟩
   ·exact⟨(Mf b m).1,.inl m⟩
  ·rcases aY.mp m with rfl|m
   ·exact .inr (.inl rfl)
   ·exact .inl m
 ·let hs:=a::T::la (env::outer)
  refine wpAny_leaving_nextW (base:=PySem.W.hideAll s'.heap hs) (cls:=cls) (a0:=a0) HX (PySem.W.funFrames_hide hk fun e he b hb=>bC _ (bC _ (kq e he b hb))) rfl
   ⟨oe,vs,T,oT,ts,he,⟨BF,h0⟩,hd,h1,nF _ (bC _ (cg ..)),Rn,hT,Rp,h3⟩ (fun b o z=>oh _ z) (nF _ (cg ..)) fun h' hL=>?_
  refine fin hs h' (fun b m=>?_) (fun b m=>bC _ (bC _ m)) (cg ..) (fun b m=>?_) hL
  ·rcases aY.mp m with rfl|m
   ·exact⟨fr,.inr nw⟩
   ·rcases aY.mp m with rfl|m
    ·exact⟨Py,.inr Ro⟩
    ·exact⟨(Mf b m).1,.inl m⟩
  ·rcases aY.mp m with rfl|m
   ·exact .inr (.inl rfl)
   ·rcases aY.mp m with rfl|m
    ·exact .inr (.inr Py)
    ·exact .inl m
end
end L2
namespace L2
open PySem PySem.Spec PyProof.Rows
inductive Rz(α:Type) where
 |bad|ok (a:α) (A:Ab)|exc (c:Tr) (A:Ab)
def Rz.bind {α β:Type}(r:Rz α)(f:α->Ab->Rz β):Rz β:=match r with
 |.ok a A=>f a A
 |.exc c A=>.exc c A
 |.bad=>.bad
def dE(xc:Tr->Ab->Prop){α:Type}(r:Rz α)(k:α->Ab->Prop):Prop:=match r with
 |.ok a A=>k a A
 |.exc c A=>xc c A
 |.bad=>False
section
variable {α β:Type}{r:Rz α}{k k':α->Ab->Prop}{xc Jh:Tr->Ab->Prop}
theorem dE.mono (h:dE xc r k)(w:∀a A,k a A->k' a A):dE xc r k':=by
 cases r with
 |ok a A=>exact w a A h
 |exc c A=>exact h
 |bad=>exact h
theorem dE.imp (h:dE xc r k)(w:∀c A,xc c A->Jh c A):dE Jh r k:=by
 cases r with
 |ok a A=>exact h
 |exc c A=>exact w c A h
 |bad=>exact h
theorem dE.bind {f:α->Ab->Rz β}{k:β->Ab->Prop}(h:dE xc (r.bind f) k):dE xc r fun a A=>dE xc (f a A) k:=by
 cases r with
 |ok a A=>exact h
 |exc c A=>exact h
 |bad=>exact h
end
def bw{α:Type}(r:Rs α)(A:Ab):Rz α:=match r with
 |.ok a=>.ok a A
 |_=>.bad
theorem lL{X:Cx}{H:Hp}{α:Type}{xc:Tr->Ab->Prop}{r:Rs α}{A:Ab}{k:α->Ab->Prop}(q:dE xc (bw r A) k):Fi X H r fun a=>k a A:=by
 cases r with
 |ok a=>exact q
 |exc c=>exact(show False from q).elim
 |bad=>exact q
def JZ(K:PySem.W.Frag):Tr->Value
 |.str x=>.ref (clsAt K x)
 |_=>.none
def XE(X:Cx)(B:br)(H:Hp):Tr->Ab->Prop:=fun c A=>∀B' H',Grows B H B' H'->HA X.K B' A H'->EX X (JZ X.K c) none H'
theorem XE.grow {X:Cx}{B B':br}{H H':Hp}{c:Tr}{A:Ab}(hb:HB B H)(h:XE X B H c A)(g:Grows B H B' H'):XE X B' H' c A:=fun B2 H2 g2 ha=>h B2 H2 (g.trans hb g2) ha
inductive tE(X:Cx)(F:ax->Ab->Rz Tr)(σ:St)(H:Hp)(Q:VK):Prop
 |mk (B:br) (A:Ab) (ρ:ax):HA X.K B A H->a4 X.K B H σ ρ->dD ρ->(dE (XE X B H) (F ρ A) fun t A'=>∀v B' H',Grows B H B' H'->HA X.K B' A' H'->Rep X.K (aT B' H') v t->Q v H')->tE X F σ H Q
inductive J0(X:Cx)(F:ax->Ab->Rz Bool)(σ:St)(H:Hp)(Q:Bool->Hp->Prop):Prop
 |mk (B:br) (A:Ab) (ρ:ax):HA X.K B A H->a4 X.K B H σ ρ->dD ρ->(dE (XE X B H) (F ρ A) fun b A'=>∀B' H',Grows B H B' H'->HA X.K B' A' H'->Q b H')->J0 X F σ H Q
inductive CM(X:Cx)(F:ax->Ab->Rz (List Tr))(σ:St)(H:Hp)(Q:List V->Hp->Prop):Prop
 |mk (B:br) (A:Ab) (ρ:ax):HA X.K B A H->a4 X.K B H σ ρ->dD ρ->(dE (XE X B H) (F ρ A) fun ts A'=>∀vs B' H',Grows B H B' H'->HA X.K B' A' H'->aF X.K (aT B' H') vs ts->Q vs H')->CM X F σ H Q
def F9(H H':Hp)(p:Addr):Prop:=H p=none/\∀o u,H' p≠some (.gp o u)
theorem F9.lst {K:PySem.W.Frag}{B:br}{H H':Hp}{p:Addr}{ts:List Tr}(h:H p=none)(r:Rep K (aT B H') (.ref p) (.lst ts)):F9 H H' p:=by
 cases r with
 |lst e _=>exact⟨h,fun o u z=>by rw[aR _ _ e]at z;cases z⟩
theorem F9.upd {H H1:Hp}{p:Addr}{x:HO}(h:H p=none)(hx:∀o u,x≠ .gp o u):F9 H (L2.upd H1 p x) p:=⟨h,fun o u z=>by rw[aP]at z;cases z;exact hx _ _ rfl⟩
inductive tF(X:Cx)(F:ax->Rs Tr)(σ:St)(H:Hp)(Q:VK):Prop
 |mk (B:br) (ρ:ax):HB B H->a4 X.K B H σ ρ->(Fi X H (F ρ) fun t=>∀v H',ar H H'->Rep X.K (aT B H') v t->(∀p,v=.ref p->F9 H H' p)->Q v H')->tF X F σ H Q
def ie(r:Rs Tr)(A:Ab):Rz Tr:=match r with
 |.ok t=>if Bz t=true then .ok t A else .bad
 |_=>.bad
def kf(r:Rs Tr)(A:Ab):Rz Tr:=match r with
 |.ok (.lst ts)=>if jh ts=true then .ok (.at A.length) (A++[.lst ts])else .bad
 |.ok (.a8 av)=>if jh (av.map (·.2))=true then .ok (.at A.length) (A++[.a8 av])else .bad
 |.ok (.dB av)=>if jh (av.map (·.2))=true then .ok (.at A.length) (A++[.dB av])else .bad
 |_=>.bad
section
variable {X:Cx}{e:Expr}{es:List Expr}{F:ax->Rs Tr}{P:ax->Rs Bool}{L:ax->Rs (List Tr)}{FZ GZ:ax->Ab->Rz Tr}{LZ:ax->Ab->Rz (List Tr)}
theorem uE{σ:St}{H:Hp}{Q:VK}(q:tE X (fun ρ A=>bw (F ρ) A) σ H Q):tP X F σ H Q:=by
 obtain⟨B,A,ρ,ha,r,_,q⟩:=q;exact⟨B,ρ,ha.hb,r,(lL q).mono fun t qt v H' s rv=>qt v B H' (.of s) (ha.same s) rv⟩
theorem F_(h:PE X e (tP X F)):PE X e (tE X fun ρ A=>bw (F ρ) A):=h.weak fun σ H Q q=>uE q
theorem F'(h:PE X e (tP X F)):PE X e (tE X fun ρ A=>ie (F (aM A ρ)) A):=
 h.weak fun σ H Q ⟨B,A,ρ,ha,r,n,q⟩=>⟨B.un,aM A ρ,xF ha.hb,r.F8 ha n,by
   have q:dE (XE X B H) (ie (F (aM A ρ)) A) _:=q;cases e:F (aM A ρ)with
   |bad=>rw[e]at q;exact q
   |exc c=>rw[e]at q;exact(show False from q).elim
   |ok t=>
    rw[e]at q;intro v H' s rv;by_cases f:Bz t=true
    ·have q':dE _ (if Bz t=true then Rz.ok t A else .bad) _:=q;rw[ae f]at q';exact q' v B H' (.of s) (ha.same s) (rq (ha.same s) rv f)
    ·have q':dE _ (if Bz t=true then Rz.ok t A else .bad) _:=q;rw[ai f]at q';exact(show False from q').elim⟩
theorem CN(h:PT X e (tQ X P)):PT X e (J0 X fun ρ A=>bw (P (aM A ρ)) A):=
 h.weak fun σ H Q ⟨B,A,ρ,ha,r,n,q⟩=>⟨B.un,aM A ρ,xF ha.hb,r.F8 ha n,(lL q).mono fun t qt H' s=>qt B H' (.of s) (ha.same s)⟩
theorem eP{c:Prop}[Decidable c]{α:Type}{xc:Tr->Ab->Prop}{r:Rz α}{k:α->Ab->Prop}(h:dE xc (if c then r else .bad) k):c/\dE xc r k:=by
 by_cases q:c
 ·rw[ae q]at h;exact⟨q,h⟩
 ·rw[ai q]at h;exact(show False from h).elim
theorem kg{σ:St}{H:Hp}{Q:VK}(q:tE X (fun ρ A=>kf (F (aM A ρ)) A) σ H Q):tF X F σ H Q:=by
  obtain⟨B,A,ρ,ha,r,n,q⟩:=q;refine⟨B.un,aM A ρ,xF ha.hb,r.F8 ha n,?_⟩;have q:dE (XE X B H) (kf (F (aM A ρ)) A) _:=q;cases e:F (aM A ρ)with
  |bad=>rw[e]at q;exact q
  |exc c=>rw[e]at q;exact(show False from q).elim
  |ok t=>
   rw[e]at q;intro v H' s rv fr;have gz:=ha.same s;cases rv with
   |@lst p vs ts h rr=>
    have hp:=(fr p rfl).1;obtain⟨f,q'⟩:=eP q;have h1:H' p=some (.lst vs):=aR _ _ h;obtain⟨g,h2⟩:=ha.push (o:=.lst ts) hp s ⟨lI,vs,h1,lK ((gE.un gz).trans (.new (ha.free hp) h1 (fun _ z=>by cases z) fun _ _ z=>by cases z)) rr f⟩;exact q' _ _ H' g h2 (.at d_)
   |@a8 p ah av h ek rr=>
    have hp:=(fr p rfl).1;obtain⟨f,q'⟩:=eP q;have h1:H' p=some (.dK ah):=by
     rcases h.same aR with h|⟨o,h⟩
     ·exact h
     ·exact((fr p rfl).2 _ _ h).elim
    obtain⟨g,h2⟩:=ha.push (o:=.a8 av) hp s ⟨lI,ah,h1,ek,lK ((gE.un gz).trans (.new (ha.free hp) h1 (fun _ z=>by cases z) fun _ _ z=>by cases z)) rr f⟩;exact q' _ _ H' g h2 (.at d_)
   |@dB p ah av h ek rr=>
    have hp:=(fr p rfl).1;obtain⟨f,q'⟩:=eP q;have h1:H' p=some (.dT ah):=by
     rcases h.same aR with h|⟨o,h⟩
     ·exact h
     ·exact((fr p rfl).2 _ _ h).elim
    obtain⟨g,h2⟩:=ha.push (o:=.dB av) hp s ⟨lI,ah,h1,ek,lK ((gE.un gz).trans (.new (ha.free hp) h1 (fun _ z=>by cases z) fun _ _ z=>by cases z)) rr f⟩;exact q' _ _ H' g h2 (.at d_)
   |_=>exact(show False from q).elim
theorem J1(h:PE X e (tF X F)):PE X e (tE X fun ρ A=>kf (F (aM A ρ)) A):=h.weak fun σ H Q q=>kg q
end
end L2
namespace L2
open PySem PySem.Spec PyProof.Rows
def Ah(X:Cx)(D:Ends)(B0:br)(H0:Hp):Out->Ab->Prop
 |.nx ρ,A=>∀bL B' H',Grows B0 H0 B' H'->HA X.K B' A H'->a4 X.K B' H' bL ρ->dD ρ->D.nx bL H'
 |.ret t,A=>∀v B' H',Grows B0 H0 B' H'->HA X.K B' A H'->Rep X.K (aT B' H') v t->D.rt v H'
 |.bk ρ,A=>∀bL B' H',Grows B0 H0 B' H'->HA X.K B' A H'->a4 X.K B' H' bL ρ->dD ρ->D.bk bL H'
 |.ct ρ,A=>∀bL B' H',Grows B0 H0 B' H'->HA X.K B' A H'->a4 X.K B' H' bL ρ->dD ρ->D.ct bL H'
inductive tZ(X:Cx)(G:ax->Ab->Rz Out)(D:Ends)(σ:St)(H:Hp):Prop
 |mk (B0:br) (H0:Hp) (B:br) (A:Ab) (ρ:ax):HB B0 H0->Grows B0 H0 B H->HA X.K B A H->a4 X.K B H σ ρ->dD ρ->dE (XE X B0 H0) (G ρ A) (Ah X D B0 H0)->tZ X G D σ H
section
variable {X:Cx}{a b c e:Expr}{pos:Pos}{F:ax->Ab->Rz Tr}{G G':ax->Ab->Rz Out}{P:ax->Ab->Rz Bool}{st:Stmt}{rest Jv:List Stmt}
def dr(r:Rz Out)(G:ax->Ab->Rz Out):Rz Out:=r.bind fun o A=>match o with
 |.nx ρ=>G ρ A
 |.ret t=>.ok (.ret t) A
 |.bk ρ=>.ok (.bk ρ) A
 |.ct ρ=>.ok (.ct ρ) A
theorem J2:jQ X [] (tZ X fun ρ A=>.ok (.nx ρ) A):=wV.weak fun D σ H ⟨B0,H0,B,A,ρ,hb,g,ha,r,n,q⟩=>q σ B H g ha r n
theorem Ga(h1:PS X st (tZ X G))(h2:jQ X rest (tZ X G')):jQ X (st::rest) (tZ X fun ρ A=>dr (G ρ A) G'):=
 (t6 h1 h2).weak fun D σ H ⟨B0,H0,B,A,ρ,hb,g,ha,r,n,q⟩=>⟨B0,H0,B,A,ρ,hb,g,ha,r,n,q.bind.mono fun o A1 qo=>by
  cases o with
  |nx gR=>exact fun bL B' H' g' gz r' n'=>⟨B0,H0,B',A1,gR,hb,g',gz,r',n',qo⟩
  |ret t=>exact qo
  |bk gR=>exact qo
  |ct gR=>exact qo⟩
theorem J3(h1:PS X st (tZ X G)):jQ X [st] (tZ X G):=wW h1
theorem J4:PS X st (tZ X fun _ _=>.bad):=fun _ _ _ _ _ _ ⟨_,_,_,_,_,_,_,_,_,_,q⟩=>(show False from q).elim
theorem J5:PE X e (tE X fun _ _=>.bad):=fun _ _ _ _ _ _ ⟨_,_,_,_,_,_,q⟩=>(show False from q).elim
theorem fX{B0 B:br}{H0 H:Hp}{A:Ab}{σ:St}{ρ:ax}{k:Tr->Ab->Prop}(hb:HB B0 H0)(g:Grows B0 H0 B H)(ha:HA X.K B A H)(r:a4 X.K B H σ ρ)(n:dD ρ)(q:dE (XE X B0 H0) (F ρ A) k){Q:VK}
  (hq:∀t A' v B' H',k t A'->Grows B0 H0 B' H'->HA X.K B' A' H'->a4 X.K B' H' σ ρ->Rep X.K (aT B' H') v t->Grows B H B' H'->Q v H'):tE X F σ H Q:=
 ⟨B,A,ρ,ha,r,n,(q.imp fun c A' x=>x.grow hb g).mono fun t A' qp v B' H' g' gz rv=>hq t A' v B' H' qp (g.trans hb g') gz (r.grow n g') rv g'⟩
theorem Gb{B0 B:br}{H0 H:Hp}{A:Ab}{σ:St}{ρ:ax}{k:Bool->Ab->Prop}(hb:HB B0 H0)(g:Grows B0 H0 B H)(ha:HA X.K B A H)(r:a4 X.K B H σ ρ)(n:dD ρ)(q:dE (XE X B0 H0) (P ρ A) k){Q:Bool->Hp->Prop}
  (hq:∀t A' B' H',k t A'->Grows B0 H0 B' H'->HA X.K B' A' H'->a4 X.K B' H' σ ρ->Q t H'):J0 X P σ H Q:=
 ⟨B,A,ρ,ha,r,n,(q.imp fun c A' x=>x.grow hb g).mono fun t A' qp B' H' g' gz=>hq t A' B' H' qp (g.trans hb g') gz (r.grow n g')⟩
def ig(i:Nat)(r:Rz Tr)(ρ:ax):Rz Out:=r.bind fun t A=>.ok (.nx (ρ.set i (.sh t))) A
theorem J7{i:Nat}{x:Str}{pos':Pos}(he:PE X e (tE X F))(hN:X.N.Nodup:=by assumption) (hi:X.N[i]?=some x:=by rfl) (hx:Loc X.env.scope x:=by first|exact Or.inl rfl|exact Or.inr rfl) (hs:j_ e=false:=by rfl) (hf:X.fn x=true\/X.env.scope.names.lookup x=some .local:=by first|exact .inl rfl|exact .inr rfl|assumption):
  PS X (.Assign [.Name x pos'] e pos) (tZ X fun ρ A=>ig i (F ρ A) ρ):=
 (zu hN hi hx he (o_ hs) hf).weak fun D σ H ⟨B0,H0,B,A,ρ,hb,g,ha,r,n,q⟩=>fX hb g ha r n q.bind fun t A' v B' H' qt g' gz r' rv _=>qt _ B' H' g' gz (r'.set i rv) (n.set i t)
def qB(r:Rz Tr):Rz Out:=r.bind fun t A=>.ok (.ret t) A
theorem J8(he:PE X e (tE X F)):PS X (.Return (some e) pos) (tZ X fun ρ A=>qB (F ρ A)):=
 (zr he).weak fun D σ H ⟨B0,H0,B,A,ρ,hb,g,ha,r,n,q⟩=>fX hb g ha r n q.bind fun t A' v B' H' qt g' gz r' rv _=>qt v B' H' g' gz rv
theorem Gd:PS X (.Return none pos) (tZ X fun _ A=>.ok (.ret .a_) A):=
 BI.weak fun D σ H ⟨B0,H0,B,A,ρ,hb,g,ha,r,n,q⟩=>q .a_ B H g ha .a_
def dt(r:Rz Tr)(ρ:ax):Rz Out:=r.bind fun _ A=>.ok (.nx ρ) A
theorem Ge(he:PE X e (tE X F))(hs:j_ e=false:=by rfl):PS X (.Expr e pos) (tZ X fun ρ A=>dt (F ρ A) ρ):=
 (BH he (o_ hs)).weak fun D σ H ⟨B0,H0,B,A,ρ,hb,g,ha,r,n,q⟩=>fX hb g ha r n q.bind fun t A' v B' H' qt g' gz r' rv _=>qt _ B' H' g' gz r' n
def Ai(c:Rz Bool)(a b:Ab->Rz Out):Rz Out:=c.bind fun k A=>if k then a A else b A
theorem NR{ys ns:List Stmt}(hc:PT X c (J0 X P))(h1:jQ X ys (tZ X G))(h2:jQ X ns (tZ X G')):PS X (.If c ys ns pos) (tZ X fun ρ A=>Ai (P ρ A) (G ρ) (G' ρ)):=
 (DL hc h1 h2).weak fun D σ H ⟨B0,H0,B,A,ρ,hb,g,ha,r,n,q⟩=>Gb hb g ha r n q.bind fun k A' B' H' qk g' gz r'=>by
  cases k with
  |true=>exact Fv ⟨B0,H0,B',A',ρ,hb,g',gz,r',n,qk⟩
  |false=>exact Fu ⟨B0,H0,B',A',ρ,hb,g',gz,r',n,qk⟩
def J9(T:kx)(r:Rz Tr)(ρ:ax):Rz Out:=r.bind fun t A=>(bw (T t ρ) A).bind fun gR A=>.ok (.nx gR) A
theorem D'{T:kx}{B0 B:br}{H0 H:Hp}{A:Ab}{σ:St}{ρ:ax}{v:V}{t:Tr}{k:ax->Ab->Prop}(hT:fG T)(hb:HB B0 H0)(g:Grows B0 H0 B H)(ha:HA X.K B A H)(r:a4 X.K B H σ ρ)(n:dD ρ)(rv:Rep X.K (aT B H) v t){xc:Tr->Ab->Prop}(q:dE xc (bw (T t ρ) A) k){Q:St->Hp->Prop}
  (hq:∀gR bL H',k gR A->Grows B0 H0 B H'->HA X.K B A H'->a4 X.K B H' bL gR->dD gR->ar H H'->Q bL H'):tG X T v σ H Q:=by
 refine⟨B,ρ,t,ha.hb,r,rv,?_⟩;cases e:T t ρ with
 |ok gR=>rw[e]at q;exact fun bL H' s r'=>hq gR bL H' q (g.trans hb (.of s)) (ha.same s) r' (hT t ρ gR n e) s
 |exc c=>rw[e]at q;exact(show False from q).elim
 |bad=>rw[e]at q;exact q
theorem J_{tg:Expr}{T:kx}(hg:PG X tg (tG X T))(hT:fG T)(he:PE X e (tE X F))(hs:swapsWithSole [tg] e pos.line X.env=pure false:=by rfl) (hw:swappedStores [tg] e X.env=pure none:=by rfl)
  (h1:(assignEach [tg] X.env).map (·.2)=[assign tg X.env]:=by rfl):PS X (.Assign [tg] e pos) (tZ X fun ρ A=>J9 T (F ρ A) ρ):=
 (EK he hg hs hw h1).weak fun D σ H ⟨B0,H0,B,A,ρ,hb,g,ha,r,n,q⟩=>fX hb g ha r n q.bind fun t A' v B' H' qt g' gz r' rv _=>
  D' hT hb g' gz r' n rv (dE.bind qt) fun jR wY H2 q2 g2 ky r2 n2 _=>q2 wY B' H2 g2 ky r2 n2
def iT(T:kx)(G:ax->Ab->Rz Out):List Tr->ax->Ab->Rz Out
 |[],ρ,A=>.ok (.nx ρ) A
 |t::ts,ρ,A=>(bw (T t ρ) A).bind fun ur A=>(G ur A).bind fun o A=>match o with
  |.nx jR=>iT T G ts jR A
  |.ct jR=>iT T G ts jR A
  |.bk jR=>.ok (.nx jR) A
  |.ret t=>.ok (.ret t) A
def rA(T:kx)(G:ax->Ab->Rz Out)(l:Rz (List Tr))(ρ:ax):Rz Out:=l.bind fun ts A=>iT T G ts ρ A
theorem J'{tg iter:Expr}{body:List Stmt}{W:ax->Rs (List Tr)}{T:kx}(hi:PI X tg iter (tI X W))(hg:PG X tg (tG X T))(hT:fG T)(hb:jQ X body (tZ X G))(hp:PassesOwn (model X.prog X.w) X.A X.env X.xe:=by first|exact PassesOwn.never|exact PassesOwn.leaving) (hc:X.calm=true:=by rfl)
  (hs:isSet iter=false:=by rfl):PS X (.For tg iter body [] pos) (tZ X fun ρ A=>rA T G (bw (W ρ) A) ρ):=
 (EL hp hc hi hg hb (fc hs)).weak fun D σ H ⟨B0,H0,B,A,ρ,Ea,g,ha,r,n,q⟩=>⟨B,ρ,ha.hb,r,(lL (dE.bind q)).mono fun ts qt J H1 s1 gt=>by
  have g1:Grows B0 H0 B H1:=g.trans Ea (.of s1);have zj:HB B H1:=ha.hb.same s1;refine⟨fun i m bL H'=>m=ts.length - i/\i<=ts.length/\∃B' A' gR,Grows B H1 B' H'/\HA X.K B' A' H'/\a4 X.K B' H' bL gR/\dD gR/\dE (XE X B0 H0) (iT T G (ts.drop i) gR A') (Ah X D B0 H0),⟨_,rfl,bZ _,B,A,ρ,.refl,ha.same s1,r.same s1,n,qt⟩,?_⟩
  rintro i m bL H' ⟨rfl,hi,B',A',gR,g',gz,r',n',q'⟩
  by_cases jc:i<ts.length
  ·rw[nT jc]at q';refine .inr ⟨gt.go i B' H' jc g'.fF gz.hb,fun wY H2=>∃B2 A2 jR,Grows B H1 B2 H2/\HA X.K B2 A2 H2/\a4 X.K B2 H2 wY jR/\dD jR/\dE (XE X B0 H0) (iT T G (ts.drop (i+1)) jR A2) (Ah X D B0 H0),
    fun wY H2 x=>⟨ts.length - (i+1),by omega,rfl,jc,x⟩,fun x H2 hx=>?_⟩
   obtain⟨s2,t,et,rt⟩:=gt.zv i B' H' x H2 jc g'.fF gz.hb hx;have Nx:ts[i]=t:=by rw[bp jc]at et;exact Option.some.inj et
   rw[Nx]at q';have g2:Grows B H1 B' H2:=g'.trans zj (.of s2);refine D' hT zj g2 (gz.same s2) (r'.same s2) n' rt (dE.bind q') fun ur EM H3 q1 g3 v9 r3 n3 _=>?_
   refine⟨B,H1,B',A',ur,zj,g3,v9,r3,n3,((dE.bind q1).imp fun c SI x=>x.grow Ea g1).mono fun o A4 qo=>?_⟩;cases o with
   |nx jR=>exact fun NS B4 H4 g4 Gf r4 n4=>⟨B4,A4,jR,g4,Gf,r4,n4,qo⟩
   |ct jR=>exact fun NS B4 H4 g4 Gf r4 n4=>⟨B4,A4,jR,g4,Gf,r4,n4,qo⟩
   |bk jR=>exact fun NS B4 H4 g4 Gf r4 n4=>qo NS B4 H4 (g1.trans Ea g4) Gf r4 n4
   |ret t=>exact fun v B4 H4 g4 Gf r4=>qo v B4 H4 (g1.trans Ea g4) Gf r4
  ·have e:i=ts.length:=by omega
   subst e;rw[oC]at q';exact .inl ⟨gt.stop B' H' g'.fF,q' bL B' H' (g1.trans Ea g') gz r' n'⟩⟩
end
section
variable {X:Cx}{a e o:Expr}{es:List Expr}{F:ax->Ab->Rz Tr}{L:ax->Ab->Rz (List Tr)}{name:Str}{apos bj:Pos}{id:String}
def b_(r:Rz Tr)(l:Ab->Rz (List Tr)):Rz (List Tr):=r.bind fun x A=>(l A).bind fun xs A=>.ok (x::xs) A
theorem Aj:PA X [] (CM X fun _ A=>.ok [] A):=sk.weak fun σ H Q ⟨B,A,ρ,ha,r,n,q⟩=>q [] B H .refl ha .nil
theorem xH(h1:PE X a (tE X F))(hr:PA X es (CM X L))(hs:isStar a=false:=by rfl):PA X (a::es) (CM X fun ρ A=>b_ (F ρ A) (L ρ)):=
 (nG h1 hr (aX _ _ hs)).weak fun σ H Q ⟨B,A,ρ,ha,r,n,q⟩=>⟨B,A,ρ,ha,r,n,q.bind.mono fun x A1 qx v B1 H1 g1 iU r1=>⟨B1,A1,ρ,iU,r.grow n g1,n,((dE.bind qx).imp fun c A' x=>x.grow ha.hb g1).mono fun xs A2 qs vs B2 H2 g2 ky r2=>qs _ B2 H2 (g1.trans ha.hb g2) ky (.cons (r1.same g2.fF) r2)⟩⟩
def NT(X:Cx)(r:V->List V->Hp->VK->Prop)(h:Nat->List Tr->Ab->Rz Tr):Prop:=
 ∀(B:br) (A:Ab) (H:Hp) (a:Addr) (i:Nat) (xs:List V) (ts:List Tr) (Q:VK),HA X.K B A H->B.ix a=some i->aF X.K (aT B H) xs ts->
  dE (XE X B H) (h i ts A) (fun t A'=>∀v B' H',Grows B H B' H'->HA X.K B' A' H'->Rep X.K (aT B' H') v t->Q v H')->r (.ref a) xs H Q
def Ka(A:Ab)(i:Nat):Bool:=match A[i]? with
 |some (.lst _)=>true
 |_=>false
theorem Gg{K:PySem.W.Frag}{B:br}{A:Ab}{H:Hp}{a:Addr}{i:Nat}(ha:HA K B A H)(e:B.ix a=some i)(h:Ka A i=true):∃xs,H a=some (.lst xs):=by
 obtain⟨o,eo,ao⟩:=ha.ex e;unfold Ka at h;rw[eo]at h;cases o with
 |lst ts=>obtain⟨_,vs,h1,_⟩:=ao;exact⟨vs,h1⟩
 |a8 _=>cases h
 |dB _=>cases h
 |By _=>cases h
 |tb _ _=>cases h
 |ins _ _=>cases h
def CO(h:Nat->List Tr->Ab->Rz Tr)(r:Rz Tr)(l:Ab->Rz (List Tr)):Rz Tr:=r.bind fun t A=>match t with
 |.at i=>if Ka A i=true then(l A).bind fun ts A=>h i ts A else .bad
 |_=>.bad
variable {r:V->List V->Hp->VK->Prop}{h:Nat->List Tr->Ab->Rz Tr}
theorem Kb(slot:Slot "list" name id)(B7:typeOf (.builtin id)=pure (.type "method_descriptor"))(hm:L7 X id r)(hz:NT X r h)(ho:PE X o (tE X F))(ha:PA X (e::es) (CM X L))(pa:PlainAttrs "list":=by exact PySem.F.plainAttrs_list)
  (lr:isCall o=false:=by rfl) (bx:aI (e::es)=true:=by rfl) (hn:(e::es).length<30:=by decide) (gv:(apos.endLine==bj.line)=true:=by rfl):
  PE X (.Call (.Attribute o name apos) (e::es) [] bj) (tE X fun ρ A=>CO h (F ρ A) (L ρ)):=
 (zJ pa slot B7 hm ho ha (e7 lr) (by rw[gA bx,dZ (show(e::es).length+([]:List Keyword).length+(if([]:List Keyword).isEmpty then 0 else 1)<30 from hn)];rfl) gv (aX _ _ (aD bx).1) (bu (aD bx).2)).weak fun σ H Q ⟨B,A,ρ,ha,r,n,q⟩=>⟨B,A,ρ,ha,r,n,q.bind.mono fun t A1 qt v B1 H1 g1 iU rv=>by
  split at qt
  ·rename_i i;obtain⟨a,rfl,jS⟩:=rv.ia;obtain⟨hl,q2⟩:=eP qt;obtain⟨xs,Rq⟩:=Gg iU jS hl;exact⟨.inl ⟨rfl,xs,iF.of Rq⟩,B1,A1,ρ,iU,r.grow n g1,n,((dE.bind q2).imp fun c A' x=>x.grow ha.hb g1).mono fun ts A2 qs vs B2 H2 g2 ky rs=>hz B2 A2 H2 a i vs ts Q ky (g2.fF.x _ _ jS) rs ((qs.imp fun c A' x=>x.grow ha.hb (g1.trans ha.hb g2)).mono fun t A3 qt v B3 H3 g3 v9 r3=>qt v B3 H3 ((g1.trans ha.hb g2).trans ha.hb g3) v9 r3)⟩
  ·exact qt.elim⟩
def lM(i:Nat):List Tr->Ab->Rz Tr
 |[t],A=>match A[i]? with
  |some (.lst ts)=>if ts.length<iS then .ok .a_ (A.set i (.lst (ts++[t])))else .bad
  |_=>.bad
 |_,_=>.bad
theorem jj:NT X xb lM:=by
 intro B A H a i xs ts Q ha jS rs q;unfold lM at q;split at q
 ·obtain⟨y,rfl,r1⟩:=eO rs;split at q
  ·rename_i eo;obtain⟨hz,q⟩:=eP q;obtain⟨hd,vs,h1,h2⟩:=ha.get jS eo;obtain⟨g,h3⟩:=ha.write (o:=.lst (_++[_])) (u:=.lst (vs++[y])) jS ⟨hd,_,aP,by rw[e8 hd];exact h2.append (.cons r1 .nil)⟩;exact⟨a,vs,y,rfl,rfl,h1,by rw[h2.length,<-fo];exact hz,q .a_ B _ g h3 .a_⟩
  ·exact q.elim
 ·exact q.elim
end
def xI(r:Rz Out):Rs Tr:=match r with
 |.ok (.nx _) _=>.ok .a_
 |.ok (.ret t) A=>if m_ (az 3 A t)=true then .ok (az 3 A t)else .bad
 |_=>.bad
theorem pv{n:Nat}{ts:List Tr}:dD (startT n ts):=fun i us e=>by
 rcases jG e with q|⟨u,_,q⟩<;>cases q
theorem qg.Rr {P:Program}{w:World}{K:PySem.W.Frag}{mg:Str->Option Value}{base:Heap}{x qual:Str}{st:Stmt}{f:Addr}{fd:FuncData}{N ps:List Str}{k:Nat}{h:List Tr->Rs Tr}(Fn:qg K x qual st f fd)(S:cY N ps (aC st))(len:∀ts t,h ts=.ok t->ts.length=ps.length)
  (fm:∀(cC:Value) (A:Around) (outer:List Env) (s:Shared) (H:Hp) (E:XK),bq k (A.deeper (envOfC qual (aC st) s.heap.objs.size f cC))->
   ∃G,jQ (iR j8 P w K mg base N qual (aC st) f cC A outer s H E).zi (cz st) (tZ (iR j8 P w K mg base N qual (aC st) f cC A outer s H E).zi G)/\∀ts t,h ts=.ok t->eC ts=true/\xI (G (startT N.length ts) [])=.ok t):cf P w K mg base j8 (k+1) f fd ps (spT K h):=by
 refine Fn.ok S (fun vs H Q E q=>?_) (fun cC A outer s H vs Q E hr q=>?_)
 ·obtain⟨B,ts,hb,r,t,e,_⟩:=q;rw[r.length];exact len ts t e
 ·obtain⟨B,ts,hb,r,t,e,q⟩:=q;obtain⟨G,hG,hE⟩:=fm cC A outer s H E hr;obtain⟨na,e1⟩:=hE ts t e
  let B0:br:=⟨B.hd,fun _=>none⟩
  have Ea:HB B0 H:=hb;have Rt:HA K B0 [] H:=⟨Ea,fun i o z=>by simp at z,(fun a b i z=>by cases(show(none:Option Nat)=some i from z)),(fun a i z=>by cases(show(none:Option Nat)=some i from z))⟩;have r0:aF K (aT B0 H) vs ts:=aF.Ae (W:=aT B H) (W':=aT B0 H) (fun _ _ e=>e) r na;have sm:∀{B':br} {H':Hp},Grows B0 H B' H'->ar H H':=fun g b o z=>g.kp b o rfl z;refine⟨_,hG,B0,H,B0,[],startT N.length ts,Ea,.refl,Rt,a4.start r0,pv,?_⟩;cases eo:G (startT N.length ts) []with
  |ok o A1=>
   rw[eo]at e1;cases o with
   |nx ρ=>cases e1;exact fun bL B' H' g ha r' n'=>q .a_ H' (sm g) .a_
   |ret u=>
    have e2:(if m_ (az 3 A1 u)=true then Rs.ok (az 3 A1 u)else .bad)=.ok t:=e1;by_cases z:m_ (az 3 A1 u)=true
    ·rw[ae z]at e2;cases e2;intro v B' H' g ha r';refine q v H' (sm g) (Rep.Ae (fun b o z=>?_) (eD ha 3 r') z);have z1:=aR b o z;cases hB:B.hd b with
     |false=>rw[dc hB];exact z1
     |true=>
      have h2:B'.hd b=true:=g.hd b rfl hB;have h3:B'.ix b=none:=by
       cases h4:B'.ix b with
       |none=>rfl
       |some i=>have h5:=g.nw b i h4 rfl;obtain⟨o2,h6,_⟩:=hb b hB;rw[h5]at h6;cases h6
      have z2:(if B'.un.hd b=true then none else H' b)=some o:=z;rw[show B'.un.hd b=(B'.hd b&&(B'.ix b).isNone)from rfl,h2,h3]at z2;cases z2
    ·rw[ai z]at e2;cases e2
   |bk ρ=>cases e1
   |ct ρ=>cases e1
  |exc c A1=>rw[eo]at e1;cases e1
  |bad=>rw[eo]at e1;cases e1
def uF(n m:Nat)(G:ax->Ab->Rz Out)(ts:List Tr):Rs Tr:=if ts.length=n/\eC ts=true then xI (G (startT m ts) [])else .bad
theorem Ak{n m:Nat}{G:ax->Ab->Rz Out}{ts:List Tr}{t:Tr}(h:uF n m G ts=.ok t):ts.length=n:=by
 unfold uF at h;split at h
 ·rename_i z;exact z.1
 ·cases h
theorem CQ{n m:Nat}{G:ax->Ab->Rz Out}{ts:List Tr}{t:Tr}(h:uF n m G ts=.ok t):eC ts=true/\xI (G (startT m ts) [])=.ok t:=by
 unfold uF at h;split at h
 ·rename_i z;exact⟨z.2,h⟩
 ·cases h
end L2
namespace L2
open PySem PySem.Spec PyProof.Rows
section
variable {X:Cx}{a b e:Expr}{es:List Expr}{pos:Pos}{F G:ax->Rs Tr}{L:ax->Rs (List Tr)}{A:ax->Rs Bool}
theorem Kc(h:PA X es (vq X L)):PE X (.List es pos) (tF X fun ρ=>z5 (L ρ)):=
 (E6 h).weak fun σ H Q ⟨B,ρ,hb,r,q⟩=>⟨B,ρ,hb,r,q.bind.mono fun ts qt vs H1 s1 r1=>by
  by_cases hz:ts.length<=iS
  ·rw[ae hz]at qt;refine⟨by rw[r1.length,<-fo];exact hz,fun p hp=>qt (.ref p) _ (s1.Cj (s1.free hp)) (.lst ((hb.same s1).new hp) (r1.same (aW (ar.upd hp)))) fun p' e=>by cases e;exact .upd (s1.free hp) (fun _ _ z=>by cases z)⟩
  ·rw[ai hz]at qt;exact qt.elim⟩
theorem Gh:PE X (.Dict [] [] pos) (tF X fun _=>.ok (.a8 [])):=
 zO.weak fun σ H Q ⟨B,ρ,hb,r,q⟩ p hp=>q (.ref p) _ (ar.upd hp) (.a8 (.inl (hb.new hp)) rfl .nil) fun p' e=>by cases e;exact .upd hp (fun _ _ z=>by cases z)
theorem Gi:PE X (.Dict [] [] pos) (tF X fun _=>.ok (.dB [])):=
 zP.weak fun σ H Q ⟨B,ρ,hb,r,q⟩ p hp=>q (.ref p) _ (ar.upd hp) (.dB (.inl (hb.new hp)) rfl .nil) fun p' e=>by cases e;exact .upd hp (fun _ _ z=>by cases z)
variable {scope:Scope}{N':List Str}{ix:List (Option Nat)}{elt iter tg:Expr}{ifs:List Expr}{T:kx}{W:ax->Rs (List Tr)}
theorem rB{σ:St}{H:Hp}{Q:VK}(hT:fG T)(q:tF X (fun ρ=>mM ix T A F (W ρ) ρ) σ H Q):HP (tI X W) ix (D3 X.K T) (D2 X.K A) (D1 X.K F) σ H Q:=by
 obtain⟨B,ρ,hb,r,q⟩:=q;refine⟨B,ρ,hb,r,q.bind.mono fun ts qt J H1 s1 gt D hD=>?_⟩;by_cases hz:ts.length<=iS
 ·rw[ae hz]at qt;exact nL hT (nK ix ρ) (hb.same s1) gt hz ((r.same s1).comp ix (fq hD)) hD (Fi.bind qt) fun ys H' k s' rp=>k _ H' (s1.trans s') rp fun p e=>by cases e;exact .lst (s1.free hD) rp
 ·rw[ai hz]at qt;exact qt.elim
theorem NU(Lk:dI X N' ix scope)(hi:PI X tg iter (tI X W))(kq:D4 X scope N' tg elt ifs T A F)(hT:fG T)(hc:X.calm=true:=by rfl) (hs:isSet iter=false:=by rfl):
  PE X (.ListComp elt [⟨tg,iter,ifs,0⟩] scope pos) (tF X fun ρ=>mM ix T A F (W ρ) ρ):=
 (zT Lk hc hi kq.JH (fc hs)).weak fun σ H Q q=>rB hT q
theorem CT{i:Nat}{x:Str}{px lB:Pos}(Lk:dI X N' ix scope)(hit:PI X tg iter (tI X W))(kq:D4 X scope N' tg elt ifs T A F)(hT:fG T)(hN:X.N.Nodup:=by assumption) (hc:X.calm=true:=by rfl) (hi:X.N[i]?=some x:=by rfl) (hx:Loc X.env.scope x:=by first|exact Or.inl rfl|exact Or.inr rfl)
  (Cf:swapsWith (.ListComp elt [⟨tg,iter,ifs,0⟩] scope pos) (some (.Name x px)) lB.line X.env=pure true:=by rfl) (hs:isSet iter=false:=by rfl) (hf:X.fn x=true\/X.env.scope.names.lookup x=some .local:=by first|exact .inl rfl|exact .inr rfl|assumption):
  PS X (.Assign [.Name x px] (.ListComp elt [⟨tg,iter,ifs,0⟩] scope pos) lB) (tZ X fun ρ A'=>ig i (kf (mM ix T A F (W (aM A' ρ)) (aM A' ρ)) A') ρ):=
 (uk Lk hc hN hi hx hit kq.JH Cf (fc hs) hf).weak fun D σ H ⟨B0,H0,B,A',ρ,hb,g,ha,r,n,q⟩=>rB hT (kg (F:=fun ρ=>mM ix T A F (W ρ) ρ) (fX (F:=fun ρ A'=>kf (mM ix T A F (W (aM A' ρ)) (aM A' ρ)) A') hb g ha r n q.bind fun t A2 v B' H' qt g' gz r' rv _=>qt _ B' H' g' gz (r'.set i rv) (n.set i t)))
inductive rF(X:Cx)(h:List Tr->Rs Tr)(xs:List V)(H:Hp)(Q:VK):Prop
 |mk (B:br) (ts:List Tr):HB B H->aF X.K (aT B H) xs ts->(Fi X H (h ts) fun t=>∀v H',ar H H'->Rep X.K (aT B H') v t->(∀p,v=.ref p->F9 H H' p)->Q v H')->rF X h xs H Q
theorem Al{T:String}{x:Str}{p:Pos}{e:Expr}{h:List Tr->Rs Tr}(hc:cV X (.type T) (rF X h))(hm:X.mg x=none)(ha:PA X (e::es) (vq X L))(hv:bootBuiltins x=some (.type T):=by rfl) (hg:Gl X x:=by rfl) (hn:x≠"__name__":=by decide) (dG:(x==("__debug__":Str))=false:=by decide)
  (bx:aI (e::es)=true:=by rfl):PE X (.Call (.Name x p) (e::es) [] pos) (tF X fun ρ=>cp h (L ρ)):=
 (mf hc hg hm hv ha hn dG (aX _ _ (aD bx).1) (bu (aD bx).2)).weak fun σ H Q ⟨B,ρ,hb,r,q⟩=>⟨B,ρ,hb,r,q.bind.mono fun ts qt vs H1 s1 r1=>⟨B,ts,hb.same s1,r1,(qt.same s1).mono fun t qt v H2 s2 r2 fr=>qt v H2 (s1.trans s2) r2 fun p e=>⟨s1.free (fr p e).1,(fr p e).2⟩⟩⟩
theorem CU:cV X (.type "list") (rF X D5):=by
 intro pins s σ H xs us Q I rv ⟨B,ts,hb,r,q⟩;unfold D5 at q;split at q
 ·obtain⟨x,e,r1⟩:=eO r;obtain⟨a,vs,rfl,h,rr⟩:=r1.cA;exact lq pins s σ H _ us Q I rv ⟨_,_,e,.inr h.up,fun p hp=>q _ _ (ar.upd hp) (.vY hb hp rr) fun p' e=>by cases e;exact .upd hp (fun _ _ z=>by cases z)⟩
 ·obtain⟨x,e,r1⟩:=eO r;obtain⟨a,vs,rfl,h,rr⟩:=r1.lst_inv;exact lq pins s σ H _ us Q I rv ⟨_,_,e,.inl (.of (cj h)),fun p hp=>q _ _ (ar.upd hp) (.vY hb hp rr) fun p' e=>by cases e;exact .upd hp (fun _ _ z=>by cases z)⟩
 ·exact q.elim
end
end L2
namespace L2
open PySem PySem.Spec PyProof.Rows
inductive Dk:HO->Prop
 |k (ah:List (Key×V)):Dk (.dK ah)
 |t (ah:List (List Key×V)):Dk (.dT ah)
section
variable {X:Cx}{pins:List (Addr×Obj)}{σ:St}{H H1 H':Hp}{s:Shared}{a:Addr}{o:Obj}{u0:HO}{B:br}
theorem Inv.frozen (I:Inv X pins σ H s)(ha:H a=some u0)(hk:Dk u0)(ho:s.heap.get? a=some o):Inv X pins σ (upd H a (.gp o u0)) s:=by
 have ne:∀{b:Addr} {u:HO},H b=some u->u≠u0->b≠a:=fun{b u} e d z=>by subst z;rw[ha]at e;cases e;exact d rfl
 have nn:∀{b:Addr},H b=none->b≠a:=fun{b} e z=>by subst z;rw[ha]at e;cases e
 refine⟨I.ok,I.os,I.bare,⟨I.base.keep,I.base.slot,fun b ob e n hx=>?_,I.base.there,fun b xs e=>?_,fun b ob u e=>?_,fun b ps e=>?_⟩,I.loc,I.cell,?_,fun x c e=>?_,fun p hp=>?_,fun b u e=>?_,I.len⟩
 ·have q:=I.base.free b ob e n hx;rw[aA (nn q)];exact q
 ·have q:=I.base.kZ b xs e;rw[aA (ne q (fun z=>by subst z;cases hk))];exact q
 ·have q:=I.base.jP b ob u e;rw[aA (ne q (fun z=>by subst z;cases hk))];exact q
 ·obtain⟨m,q⟩:=I.base.k_ b ps e;exact⟨m,by rw[aA (ne q (fun z=>by subst z;cases hk))];exact q⟩
 ·rw[aA (nn I.free)];exact I.free
 ·rw[aA (nn (I.fU x c e))];exact I.fU x c e
 ·obtain⟨p1,p2,p3⟩:=I.pin p hp;exact⟨p1,by rw[aA (nn p2)];exact p2,p3⟩
 ·have ow:∀c d,H c=some (.own d)->upd H a (.gp o u0) c=some (.own d):=fun c d q=>by rw[aA (ne q (fun z=>by subst z;cases hk))];exact q
  have tu:∀c xs,H c=some (.tup xs)->upd H a (.gp o u0) c=some (.tup xs):=fun c d q=>by rw[aA (ne q (fun z=>by subst z;cases hk))];exact q
  by_cases z:b=a
  ·subst z;rw[aP]at e;cases e;exact⟨ho,(I.bB b _ ha).qm (fun _ _ _ q=>q) (fun c q=>ow c b q) tu⟩
  ·rw[aA z]at e;exact(I.bB b u e).qm (fun _ _ _ q=>q) (fun c q=>ow c b q) tu
theorem Inv.Gj (I:Inv X pins σ H s)(ha:H a=some (.gp o u0))(hk:Dk u0)(h0:∀o' u,X.tV a≠some (.gp o' u)):Inv X pins σ (upd H a u0) s:=by
 have ne:∀{b:Addr} {u:HO},H b=some u->u≠ .gp o u0->b≠a:=fun{b u} e d z=>by subst z;rw[ha]at e;cases e;exact d rfl
 have nn:∀{b:Addr},H b=none->b≠a:=fun{b} e z=>by subst z;rw[ha]at e;cases e
 refine⟨I.ok,I.os,I.bare,⟨I.base.keep,I.base.slot,fun b ob e n hx=>?_,I.base.there,fun b xs e=>?_,fun b ob u e=>?_,fun b ps e=>?_⟩,I.loc,I.cell,?_,fun x c e=>?_,fun p hp=>?_,fun b u e=>?_,I.len⟩
 ·have q:=I.base.free b ob e n hx;rw[aA (nn q)];exact q
 ·have q:=I.base.kZ b xs e;rw[aA (ne q (fun z=>by cases z))];exact q
 ·have q:=I.base.jP b ob u e;rw[aA (fun z=>by subst z;exact h0 _ _ e)];exact q
 ·obtain⟨m,q⟩:=I.base.k_ b ps e;exact⟨m,by rw[aA (ne q (fun z=>by cases z))];exact q⟩
 ·rw[aA (nn I.free)];exact I.free
 ·rw[aA (nn (I.fU x c e))];exact I.fU x c e
 ·obtain⟨p1,p2,p3⟩:=I.pin p hp;exact⟨p1,by rw[aA (nn p2)];exact p2,p3⟩
 ·have ow:∀c d,H c=some (.own d)->upd H a u0 c=some (.own d):=fun c d q=>by rw[aA (ne q (fun z=>by cases z))];exact q
  have tu:∀c xs,H c=some (.tup xs)->upd H a u0 c=some (.tup xs):=fun c d q=>by rw[aA (ne q (fun z=>by cases z))];exact q
  by_cases z:b=a
  ·subst z;rw[aP]at e;cases e;exact(I.bB b _ ha).2.qm (fun _ _ _ q=>q) (fun c q=>ow c b q) tu
  ·rw[aA z]at e;exact(I.bB b u e).qm (fun _ _ _ q=>q) (fun c q=>ow c b q) tu
structure qC(H H':Hp)(a:Addr)(u u':HO)(u0:HO):Prop where
 fr:H a=some u
 to:H'=upd H a u'
 ok:(u=u0/\∃o,u'=.gp o u0)\/(u'=u0/\∃o,u=.gp o u0)
 dk:Dk u0
variable {u u':HO}
theorem qC.mO (w:qC H H' a u u' u0){b:Addr}{x:HO}(e:H b=some x)(h1:¬Dk x)(h2:∀o u,Dk u->x≠ .gp o u):H' b=some x:=by
 rw[w.to,aA ?_]
 ·exact e
 ·intro z;subst z;rw[w.fr]at e;cases e;rcases w.ok with⟨e1,_⟩|⟨_,o,e1⟩
  ·exact h1 (by rw[e1];exact w.dk)
  ·exact h2 _ _ w.dk e1
theorem jk{B:br}{H H':Hp}{b:Addr}{x:HO}(e:(aT B H).H b=some x)(h:H b=some x->H' b=some x):(aT B H').H b=some x:=by
 have e':(if B.hd b=true then none else H b)=some x:=e;show(if B.hd b=true then none else H' b)=some x;split at e'
 ·cases e'
 ·rename_i n;rw[ai n];exact h e'
theorem qC.seq {K:PySem.W.Frag}(w:qC H H' a u u' u0){b:Addr}{xs:List V}(h:iF K (aT B H).H b xs):iF K (aT B H').H b xs:=by
 rcases h with(h|⟨o,h⟩)|h
 ·exact .inl (.inl (jk h fun e=>w.mO e (fun z=>by cases z) fun _ _ d z=>by cases z<;>cases d))
 ·exact .inl (.inr ⟨o,jk h fun e=>w.mO e (fun z=>by cases z) fun _ _ d z=>by cases z<;>cases d⟩)
 ·exact .inr h
theorem qC.rd (w:qC H H' a u u' u0){b:Addr}{x:HO}(hx:Dk x)(h:Rd (aT B H).H b x):Rd (aT B H').H b x:=by
 by_cases z:b=a
 ·subst z;have hb:B.hd b=false:=by
   cases q:B.hd b with
   |false=>rfl
   |true=>
    have n:(aT B H).H b=none:=by show(if B.hd b=true then none else H b)=none;rw[ae q]
    rcases h with h|⟨o,h⟩<;>(rw[n]at h;cases h)
  have h':Rd H b x:=by unfold Rd at h⊢;rw[dc hb]at h;exact h
  have dk:=w.dk;have ek:x=u0:=by
   rcases h' with h|⟨o,h⟩<;>rw[w.fr]at h<;>rcases w.ok with⟨e1,_⟩|⟨_,o',e1⟩<;>rw[e1]at h<;>cases h
   ·rfl
   ·cases hx
   ·cases dk
   ·rfl
  subst ek;unfold Rd;rw[dc hb,w.to,aP];rcases w.ok with⟨_,o',e1⟩|⟨e1,_⟩
  ·rw[e1];exact .inr ⟨o',rfl⟩
  ·rw[e1];exact .inl rfl
 ·have hn:(aT B H').H b=(aT B H).H b:=by
   show(if B.hd b=true then none else H' b)=(if B.hd b=true then none else H b);rw[w.to,aA z]
  unfold Rd;rw[hn];exact h
theorem qC.rep {K:PySem.W.Frag}(w:qC H H' a u u' u0){v:V}{t:Tr}(h:Rep K (aT B H) v t):Rep K (aT B H') v t:=by
 refine Rep.rec (motive_1:=fun v t _=>Rep K (aT B H') v t) (motive_2:=fun vs ts _=>aF K (aT B H') vs ts) ?_ ?_ ?_ ?_ ?_ ?_ ?_ ?_ ?_ ?_ ?_ ?_ ?_ ?_ ?_ h
 ·exact .a_
 ·exact fun b=>.bl b
 ·exact fun i=>.int i
 ·exact fun z h=>.str z h
 ·exact fun n=>.ty n
 ·exact fun h=>.gq (w.seq h)
 ·exact fun h _ r=>.tup (jk h fun e=>w.mO e (fun z=>by cases z) fun _ _ d z=>by cases z<;>cases d) r
 ·exact fun h _ r=>.lst (jk h fun e=>w.mO e (fun z=>by cases z) fun _ _ d z=>by cases z<;>cases d) r
 ·exact fun h e _ r=>.a8 (w.rd (.k _) h) e r
 ·exact fun h=>.at h
 ·exact fun h e _ r=>.dB (w.rd (.t _) h) e r
 ·exact fun h e _ r=>.ob (jk h fun e=>w.mO e (fun z=>by cases z) fun _ _ d z=>by cases z<;>cases d) e r
 ·exact fun h c=>.zV (jk h fun e=>w.mO e (fun z=>by cases z) fun _ _ d z=>by cases z<;>cases d) c
 ·exact .nil
 ·exact fun _ _ h r=>.cons h r
theorem qC.yO {K:PySem.W.Frag}(w:qC H H' a u u' u0):∀{vs:List V} {ts:List Tr},aF K (aT B H) vs ts->aF K (aT B H') vs ts
 |[],_,h=>by cases h;exact .nil
 |_::_,_,h=>by cases h with|cons h r=>exact .cons (w.rep h) (qC.yO w r)
theorem qC.Am {K:PySem.W.Frag}{ρ:ax}(w:qC H H' a u u' u0)(h:a4 K B H σ ρ):a4 K B H' σ ρ:=
 ⟨h.len,fun i t e=>by obtain⟨v,e1,r⟩:=h.sh i t e;exact⟨v,e1,w.rep r⟩,
   fun i ts e=>by obtain⟨D,ys,e1,e2,e3,r⟩:=h.ow i ts e;exact⟨D,ys,e1,e2,w.mO e3 (fun z=>by cases z) (fun _ _ d z=>by cases z<;>cases d),w.yO r⟩,h.ap⟩
theorem qC.hb (w:qC H H' a u u' u0)(h:HB B H):HB B H':=fun b e=>by
 obtain⟨o,q,n⟩:=h b e;by_cases z:b=a
 ·subst z;rw[w.to];refine⟨_,aP,fun vs z=>?_⟩;rcases w.ok with⟨_,o',e1⟩|⟨e1,_⟩
  ·rw[e1]at z;cases z
  ·rw[e1]at z;have d:=w.dk;rw[z]at d;cases d
 ·exact⟨o,by rw[w.to,aA z];exact q,n⟩
def v_(X:Cx)(B:br)(H H':Hp):Prop:=ar H H'\/∃H1 a o u0,Dk u0/\ar H H1/\B.hd a=false/\H1 a=some u0/\H'=upd H1 a (.gp o u0)/\∀o u,X.tV a≠some (.gp o u)
def fw(X:Cx)(H:Hp)(k:Hp->Prop):Prop:=k H\/∃a o u0,Dk u0/\H a=some (.gp o u0)/\(∀o u,X.tV a≠some (.gp o u))/\k (upd H a u0)
theorem fw.inv {k:Hp->Prop}(q:fw X H k)(I:Inv X pins σ H s):∃H',Inv X pins σ H' s/\k H':=by
 rcases q with q|⟨a,o,u0,hk,e,h0,q⟩
 ·exact⟨H,I,q⟩
 ·exact⟨_,I.Gj e hk h0,q⟩
theorem PE.Kd {e:Expr}{t:TE}(h:PE X e t):PE X e (fun σ H Q=>t σ H fun v H'=>fw X H' (Q v)):=fun pins s σ H Q I q=>
 cn (h pins s σ H _ I q) fun u s' ⟨v,H',I',r,z⟩=>by
  obtain⟨H2,I2,q2⟩:=z.inv I';exact⟨v,H2,I2,r,q2⟩
def Ends.Kd (X:Cx)(D:Ends):Ends:=⟨fun σ H=>fw X H (D.nx σ),fun v H=>fw X H (D.rt v),fun σ H=>fw X H (D.bk σ),fun σ H=>fw X H (D.ct σ)⟩
theorem PS.Kd {st:Stmt}{t:TS}(h:PS X st t):PS X st (fun D σ H=>t (D.Kd X) σ H):=fun pins s σ H D I q=>
 cn (h pins s σ H _ I q) fun f s' z=>by
  cases f with
  |next=>obtain⟨bL,H',I',z⟩:=z;obtain⟨H2,I2,q2⟩:=fw.inv z I';exact⟨bL,H2,I2,q2⟩
  |brk=>obtain⟨bL,H',I',z⟩:=z;obtain⟨H2,I2,q2⟩:=fw.inv z I';exact⟨bL,H2,I2,q2⟩
  |cont=>obtain⟨bL,H',I',z⟩:=z;obtain⟨H2,I2,q2⟩:=fw.inv z I';exact⟨bL,H2,I2,q2⟩
  |ret u=>obtain⟨v,bL,H',I',r,z⟩:=z;obtain⟨H2,I2,q2⟩:=fw.inv z I';exact⟨v,bL,H2,I2,r,q2⟩
theorem v_.Am {K:PySem.W.Frag}{ρ:ax}(h:v_ X B H H')(r:a4 K B H σ ρ):a4 K B H' σ ρ:=by
 rcases h with s|⟨H1,a,o,u0,hk,s,hv,ha,rfl,h0⟩
 ·exact r.same s
 ·exact qC.Am (u:=u0) ⟨ha,rfl,.inl ⟨rfl,o,rfl⟩,hk⟩ (r.same s)
theorem v_.hb (h:v_ X B H H')(r:HB B H):HB B H':=by
 rcases h with s|⟨H1,a,o,u0,hk,s,hv,ha,rfl,h0⟩
 ·exact r.same s
 ·exact qC.hb (u:=u0) ⟨ha,rfl,.inl ⟨rfl,o,rfl⟩,hk⟩ (r.same s)
theorem v_.free {p:Addr}(h:v_ X B H H')(e:H' p=none):H p=none:=by
 rcases h with s|⟨H1,a,o,u0,hk,s,hv,ha,rfl,h0⟩
 ·exact s.free e
 ·refine s.free ?_
  by_cases z:p=a
  ·subst z;rw[aP]at e;cases e
  ·rw[aA z]at e;exact e
theorem v_.back {H2:Hp}{B2:br}{C:br}(h:v_ X B H H')(si:cP C B H' B2 H2):∃Hu,cP C B H B2 Hu/\(∀{K:PySem.W.Frag} {B3:br} {v:V} {t:Tr},Rep K (aT B3 H2) v t->Rep K (aT B3 Hu) v t)/\(∀{K:PySem.W.Frag} {σ:St} {ρ:ax},a4 K B2 H2 σ ρ->a4 K B2 Hu σ ρ)/\∀k:Hp->Prop,k Hu->fw X H2 k:=by
 rcases h with s|⟨H1,a,o,u0,hk,s,hv,ha,rfl,h0⟩
 ·exact⟨H2,⟨fun b o c e=>si.kp b o c (s _ _ e),(aW s).trans si.fF,si.sub,si.hb⟩,fun r=>r,fun r=>r,fun k q=>.inl q⟩
 ·have e1:(aT B (upd H1 a (.gp o u0))).H a=some (.gp o u0):=by rw[dc hv];exact aP
  have e2:=si.fF.h _ _ e1;have e3:H2 a=some (.gp o u0):=aR _ _ e2;have w:qC H2 (upd H2 a u0) a (.gp o u0) u0 u0:=⟨e3,rfl,.inr ⟨rfl,o,rfl⟩,hk⟩;have Ru:B2.hd a=false:=by
   cases q:B2.hd a with
   |false=>rfl
   |true=>
    have n:(aT B2 H2).H a=none:=by show(if B2.hd a=true then none else H2 a)=none;rw[ae q]
    rw[n]at e2;cases e2
  refine⟨upd H2 a u0,⟨fun b ob c e=>?_,⟨fun b ob e=>?_,fun b i e=>?_⟩,si.sub,w.hb si.hb⟩,fun r=>w.rep r,fun r=>w.Am r,fun k q=>.inr ⟨a,o,u0,hk,e3,h0,q⟩⟩
  ·have q:=s _ _ e;by_cases z:b=a
   ·subst z;rw[ha]at q;cases q;exact aP
   ·rw[aA z];exact si.kp b ob c (by rw[aA z];exact q)
  ·by_cases z:b=a
   ·subst z;have q:=s _ _ (aR _ _ e);rw[ha]at q;cases q;rw[dc Ru];exact aP
   ·have q:(aT B (upd H1 a (.gp o u0))).H b=some ob:=jk e fun e=>by rw[aA z];exact s _ _ e
    exact jk (si.fF.h _ _ q) fun e=>by rw[aA z];exact e
  ·exact si.fF.x b i e
theorem v_.Eb {H2:Hp}(h:v_ X B H H')(hb:HB B H)(s2:ar H' H2):∃Hu,ar H Hu/\(∀{K:PySem.W.Frag} {B3:br} {v:V} {t:Tr},Rep K (aT B3 H2) v t->Rep K (aT B3 Hu) v t)/\∀k:Hp->Prop,k Hu->fw X H2 k:=by
 obtain⟨Hu,si,r,_,k⟩:=h.back (C:=B) (B2:=B) (H2:=H2) ⟨fun b o _ e=>s2 _ _ e,aW s2,.refl,(h.hb hb).same s2⟩;exact⟨Hu,si.same,r,k⟩
end
def NV(a:Addr)(o:Obj)(ah:List (Key×V)):It:=
 ⟨fun i H=>H a=some (.gp o (.dK ah))/\i<ah.length,fun i H x H'=>H'=H/\∃k v,ah[i]?=some (k,v)/\x=kV k,fun i H=>H a=some (.gp o (.dK ah))/\ah.length<=i⟩
theorem Gk{ah:List (Key×V)}{vs:List (Key×Value)}(r:KV ah vs){i:Nat}{k:Key}{v:V}(e:ah[i]?=some (k,v)):∃u,vs[i]?=some (k,u):=by
 have r':Paired _ ah vs:=r
 clear r
 induction r' generalizing i with
 |nil=>simp at e
 |cons h t ih=>
  cases i with
  |zero=>
   simp at e;subst e;rename_i q _ _;obtain⟨qk,qu⟩:=q;cases h.1;exact⟨qu,rfl⟩
  |succ j=>exact ih (by simpa using e)
theorem wa{κ:Type}{ah:List (κ×V)}{vs:List (κ×Value)}(r:KV ah vs):ah.length=vs.length:=by
 have r':Paired _ ah vs:=r
 clear r
 induction r' with
 |nil=>rfl
 |cons h t ih=>rw[a5,a5,ih]
theorem yP{P:Program}{w:World}{K:PySem.W.Frag}{tg:Expr}(a it:Addr)(o:Obj)(ah:List (Key×V))(es:Array DictEntry)(ep:Nat)(hd:o.data=.dict es ep):Turn P w K tg (NV a o ah) [it] it (fun i h=>h.IsKeyIter it a i ah.length ep) where
 mem:=by simp
 obj:=fun i h st b hb=>by
  have e:b=it:=by simpa using hb
  subst e;obtain⟨o,e,c,d⟩:=st;exact⟨o,e,fun v z=>by rw[d]at z;cases z⟩
 keep:=fun i h h' st k=>by
  obtain⟨o,e,c⟩:=st;exact⟨o,k it (by simp) o e,c⟩
 item:=by
  intro X hP hw hK hc i pins s σ H E I hf st ⟨hg,hi⟩;subst hP hw hK;obtain⟨ho,hz,hs,vs,rv,o',tD,EC,h1,h2,h3,h4⟩:=(show bI X.prog X.w H s.heap a (.gp o (.dK ah))from I.bB a _ hg);rw[ho]at h1;cases h1;rw[hd]at h3;cases h3;obtain⟨f0,f1,f2,f3,f4,f5⟩:=hf it (by simp);have hl:=wa rv;have ex:ah[i]?=some (ah[i].1,ah[i].2):=by simp[hi]
  obtain⟨u,hu⟩:=Gk rv ex;rw[hl]at st;refine wpAny_pyNext_dict_item (knd:=aO X.prog X.w) st ⟨o,es,ho,h2,hd,h4⟩ hu fun key h' hk tH sb=>?_
  have I1:Inv X pins σ H {s with heap:=h'}:=I.turned (t':=s.toks) (fun b o hb e=>(sb.2 b hb).trans e) f0 f1 f3 f4 f5;obtain⟨oi,e,c,d⟩:=id tH;refine⟨key,rfl,qM (s:={s with heap:=h'}) e c d (by decide) ⟨kV ah[i].1,H,I1,?_,⟨rfl,_,_,ex,rfl⟩,by rw[hl];exact tH,fun b hb=>(hf b hb).1⟩⟩;rcases bz hk with⟨j,t,e1,e2⟩|⟨y,t,e1,e2⟩
  ·rw[e1,e2];exact⟨t,rfl⟩
  ·rw[e1,e2];exact⟨t,rfl⟩
 done:=by
  intro X hP hw hK hc i pins s σ H E I hf st ⟨hg,hi⟩;subst hP hw hK;obtain⟨ho,hz,hs,vs,rv,o',tD,EC,h1,h2,h3,h4⟩:=(show bI X.prog X.w H s.heap a (.gp o (.dK ah))from I.bB a _ hg);rw[ho]at h1;cases h1;rw[hd]at h3;cases h3;obtain⟨f0,f1,f2,f3,f4,f5⟩:=hf it (by simp);have hl:=wa rv;rw[hl]at st;exact wpAny_pyNext_dict_end (knd:=aO X.prog X.w) (I.ok.hd hc) st ⟨o,es,ho,h2,hd,h4⟩ (nE (by rw[<-hl];exact hi)) fun h' eb=>⟨rfl,I.turned (t':=s.toks) (fun b o hb e=>eb b o hb e) f0 f1 f3 f4 f5⟩
 self:=fun _ _ _ _ _ st h=>wpAny_pyIter_keyiter st h
def uG:Key->Tr
 |.inl i=>.int i
 |.inr z=>.str z
def keyOk:Key->Bool
 |.inl _=>true
 |.inr z=>decide (z.length<=bS)
theorem yQ{K:PySem.W.Frag}{W:Vw}{k:Key}(h:keyOk k=true):Rep K W (kV k) (uG k):=by
 cases k with
 |inl i=>exact .int i
 |inr z=>exact .str z (bY h)
def Ke(av:List (Key×Tr)):Rs (List Tr):=if av.all (fun p=>keyOk p.1)=true then .ok (av.map fun p=>uG p.1)else .bad
def Kf(r:Rs Tr):Rs (List Tr):=r.bind fun t=>match t with
 |.a8 av=>Ke av
 |_=>.bad
inductive tJ(X:Cx)(W:ax->Rs (List Tr))(σ:St)(H:Hp)(R:It->Hp->Prop):Prop
 |mk (B:br) (ρ:ax):HB B H->a4 X.K B H σ ρ->(Fi X H (W ρ) fun ts=>∀J H',v_ X B H H'->ja X.K B J H' ts->R J H')->tJ X W σ H R
theorem wb{K:PySem.W.Frag}{B:br}{H:Hp}{a:Addr}{o:Obj}{ah:List (Key×V)}{av:List (Key×Tr)}(h:(aT B H).H a=some (.gp o (.dK ah)))(e:ah.map (·.1)=av.map (·.1))(hk:av.all (fun p=>keyOk p.1)=true):ja K B (NV a o ah) H (av.map fun p=>uG p.1):=by
 have hl:ah.length=av.length:=by have q:=bE List.length e;rw[aE,aE]at q;exact q
 refine⟨fun i B' H' hi s hb=>⟨aR _ _ (s.h _ _ h),by rw[aE]at hi;rw[hl];exact hi⟩,fun i B' H' x Cp hi s hb ⟨eh,k,v,ek,ex⟩=>?_,fun B' H' s=>⟨aR _ _ (s.h _ _ h),by rw[aE,hl];exact aB _⟩⟩;subst eh ex;have e1:(ah.map (·.1))[i]?=some k:=by rw[bb,ek];rfl
 rw[e,bb]at e1;cases e2:av[i]? with
 |none=>rw[e2]at e1;cases e1
 |some p=>
  rw[e2]at e1;have e3:p.1=k:=Option.some.inj e1;refine⟨ar.refl _,uG k,by rw[bb,e2,<-e3];rfl,yQ ?_⟩;rw[<-e3];exact g7.mp hk p (dS e2)
section
variable {X:Cx}{pins:List (Addr×Obj)}{σ:St}
theorem Kg{tg l:Expr}{F:ax->Rs Tr}(hl:PE X l (tP X F)):PI X tg l (tJ X fun ρ=>Kf (F ρ)):=by
 intro pins s σ H R I ⟨B,ρ,hb,r,q⟩;refine cn (hl pins s σ H (fun x H1=>∃(a:Addr) (ah:List (Key×V)) (av:List (Key×Tr)),x=.ref a/\ar H H1/\Rd (aT B H1).H a (.dK ah)/\ah.map (·.1)=av.map (·.1)/\av.all (fun p=>keyOk p.1)=true/\∀J H',v_ X B H H'->ja X.K B J H' (av.map fun p=>uG p.1)->R J H') I ⟨B,ρ,hb,r,q.bind.mono fun t qt v H1 s1 r1=>?_⟩) fun v s1 ⟨x,H1,I1,r1,a,ah,av,ex,sm,rd,ek,hk,k⟩=>?_
 ·skip
  split at qt
  ·obtain⟨a,ah,e0,h,e,rr⟩:=r1.sA;obtain⟨z,q1⟩:=eB qt;exact⟨a,ah,_,e0,s1,h,e,z,q1⟩
  ·exact qt.elim
 ·subst ex;cases r1;have Pz:Rd H1 a (.dK ah):=rd.same aR;have hv:B.hd a=false:=by
   cases z:B.hd a with
   |false=>rfl
   |true=>
    have n:(aT B H1).H a=none:=by show(if B.hd a=true then none else H1 a)=none;rw[ae z]
    rcases rd with h|⟨o,h⟩<;>(rw[n]at h;cases h)
  obtain⟨hz,hs,vs,rv,o,es,ep,h1,h2,h3,h4⟩:=(show bI X.prog X.w H1 s1.heap a (.dK ah)from Pz.ok I1.bB);refine wpAny_pyIter_dict (knd:=aO X.prog X.w) hs ⟨o,es,h1,h2,h3,h4⟩ ?_
  have fin:∀{H2:Hp},Inv X pins σ H2 s1->H2 a=some (.gp o (.dK ah))->v_ X B H H2->LY X pins σ tg R (.ref s1.heap.objs.size) {s1 with heap:=s1.heap.push {cls:=.type "dict_keyiterator",data:=.fields #[.ref a,.int 0 0,.int vs.length 0,.int ep 0]}}:=fun{H2} I2 e2 tf=>
   ⟨s1.heap.objs.size,[s1.heap.objs.size],_,NV a o ah,H2,rfl,I2.kept (t':=s1.toks) fun b o e=>aQ _ e,yP a _ o ah es ep h3,⟨_,bg _ rfl,rfl,by rw[wa rv];rfl⟩,fun b hb=>by
    have e:b=s1.heap.objs.size:=by simpa using hb
    subst e;exact I2.yn (aB _) (I2.bB.fresh (aB _)),k _ H2 tf (wb (by rw[dc hv];exact e2) ek hk)⟩
  rcases Pz with e1|⟨o',e1⟩
  ·refine fin (I1.frozen e1 (.k _) h1) aP (.inr ⟨H1,a,o,_,.k ah,sm,hv,e1,rfl,fun o' u e0=>?_⟩);have q:=I1.base.jP a o' u e0;rw[e1]at q;cases q
  ·have eo:o'=o:=by
    have q:=(show bI X.prog X.w H1 s1.heap a (.gp o' (.dK ah))from I1.bB a _ e1).1;rw[h1]at q;cases q;rfl
   subst eo;exact fin I1 e1 (.inl sm)
variable {a b e:Expr}{es:List Expr}{pos:Pos}{F G:ax->Rs Tr}{A:ax->Rs Bool}{scope:Scope}{N':List Str}{ix:List (Option Nat)}{elt iter tg:Expr}{ifs:List Expr}{T:kx}{W:ax->Rs (List Tr)}
theorem yR{σ:St}{H:Hp}{Q:VK}(hT:fG T)(q:tP X (fun ρ=>mM ix T A F (W ρ) ρ) σ H Q):HP (tJ X W) ix (D3 X.K T) (D2 X.K A) (D1 X.K F) σ H (fun v H'=>fw X H' (Q v)):=by
 obtain⟨B,ρ,hb,r,q⟩:=q;refine⟨B,ρ,hb,r,q.bind.mono fun ts qt J H1 tf gt D hD=>?_⟩;by_cases hz:ts.length<=iS
 ·rw[ae hz]at qt;exact nL hT (nK ix ρ) (tf.hb hb) gt hz ((tf.Am r).comp ix (fq hD)) hD (Fi.bind qt) fun ys H' k s' rp=>by
   obtain⟨Hu,su,ru,ku⟩:=tf.Eb hb s';exact ku _ (k _ Hu su (ru rp))
 ·rw[ai hz]at qt;exact qt.elim
theorem Kh(Lk:dI X N' ix scope)(hi:PI X tg iter (tJ X W))(kq:D4 X scope N' tg elt ifs T A F)(hT:fG T)(hc:X.calm=true:=by rfl) (hs:isSet iter=false:=by rfl):
  PE X (.ListComp elt [⟨tg,iter,ifs,0⟩] scope pos) (tP X fun ρ=>mM ix T A F (W ρ) ρ):=
 (zT Lk hc hi kq.JH (fc hs)).Kd.weak fun σ H Q q=>yR hT q
end
end L2
namespace L2
open PySem PySem.Spec PyProof.Rows
def eE(xs:Array Nat):Prop:=xs.toList.Pairwise (· <·)
theorem eE.lt {xs:Array Nat}(h:eE xs){i j:Nat}(xo:i<j)(hj:j<xs.size):xs.getD i 0<xs.getD j 0:=by
 have q:=List.pairwise_iff_getElem.mp h i j (by rw[bW];omega) (by rw[bW];exact hj) xo;rw[fJ,fJ,fK (by omega),fK hj];simpa using q
theorem pw{xs:Array Nat}{j:Nat}(h:eE xs):∀(f lo hi:Nat),lo<=hi->hi<=xs.size->hi - lo<=f->(∀k,k<lo->xs.getD k 0<j)->(∀k,hi<=k->k<xs.size->j<=xs.getD k 0)->
  ∀p,SetTable.below.go xs j f lo hi=p->p<=xs.size/\(∀k,k<p->xs.getD k 0<j)/\∀k,p<=k->k<xs.size->j<=xs.getD k 0
 |0,lo,hi,h1,h2,h3,h4,h5,p,e=>by
  have:lo=hi:=by omega
  subst this;subst e;exact⟨h2,h4,h5⟩
 |f+1,lo,hi,h1,h2,h3,h4,h5,p,e=>by
  unfold SetTable.below.go at e;by_cases hl:lo<hi
  ·rw[ae hl]at e;dsimp only at e;have hm:(lo+hi)/2<xs.size:=by omega
   have hg:xs.getD ((lo+hi)/2) j=xs.getD ((lo+hi)/2) 0:=by
    rw[fJ,fJ,fK hm];rfl
   rw[hg]at e;by_cases hv:xs.getD ((lo+hi)/2) 0<j
   ·rw[ae hv]at e;refine pw h f _ hi (by omega) h2 (by omega) (fun k hk=>?_) h5 p e;by_cases HY:k=(lo+hi)/2
    ·rw[HY];exact hv
    ·exact fS (h.lt (show k<(lo+hi)/2 by omega) hm) hv
   ·rw[ai hv]at e;refine pw h f lo _ (by omega) (by omega) (by omega) h4 (fun k hk Rv=>?_) p e;by_cases HY:k=(lo+hi)/2
    ·rw[HY];omega
    ·have:=h.lt (show(lo+hi)/2<k by omega) Rv;omega
  ·rw[ai hl]at e;have:lo=hi:=by omega
   subst this;subst e;exact⟨h2,h4,h5⟩
theorem below_at{xs:Array Nat}(h:eE xs)(j:Nat):SetTable.below xs j<=xs.size/\(∀k,k<SetTable.below xs j->xs.getD k 0<j)/\∀k,SetTable.below xs j<=k->k<xs.size->j<=xs.getD k 0:=
 pw h xs.size 0 xs.size (bZ _) (aB _) (aB _) (fun k hk=>absurd hk (Nat.not_lt_zero _)) (fun k h1 h2=>absurd h2 (by omega)) _ rfl
theorem wc{xs:Array Nat}(h:eE xs):SetTable.below xs 0=0:=by
 have q:=(below_at h 0).2.1;cases e:SetTable.below xs 0 with
 |zero=>rfl
 |succ n=>exact absurd (q 0 (by omega)) (by omega)
theorem wd{xs:Array Nat}(h:eE xs){i:Nat}(hi:i<xs.size):SetTable.below xs (xs.getD i 0+1)=i+1:=by
 have⟨q0,q1,q2⟩:=below_at h (xs.getD i 0+1);by_cases h1:SetTable.below xs (xs.getD i 0+1)<=i
 ·have:=q2 i h1 hi;omega
 ·by_cases h2:i+1<SetTable.below xs (xs.getD i 0+1)
  ·have:=q1 (i+1) h2;have:=h.lt (show i<i+1 by omega) (by omega);omega
  ·omega
theorem An{xs:Array Nat}(h:eE xs){j:Nat}(hj:¬xs[SetTable.below xs j]?=some j):eE (SetTable.insertAt xs (SetTable.below xs j) j):=by
 have⟨q0,q1,q2⟩:=below_at h j;generalize SetTable.below xs j=p at*;have e:(SetTable.insertAt xs p j).toList=xs.toList.take p++j::xs.toList.drop p:=by
  unfold SetTable.insertAt;simp;exact List.take_of_length_le (by simp)
 unfold eE;rw[e,List.pairwise_append];have gl:∀{k:Nat} (hk:k<xs.toList.length),xs.toList[k]=xs.getD k 0:=fun{k} hk=>by
  rw[fJ,fK (by rw[<-bW];exact hk)];simp
 have Ki:∀a∈xs.toList.take p,a<j:=fun a ha=>by
  obtain⟨k,hk,e⟩:=List.mem_iff_getElem.mp ha;rw[kP,bW]at hk;rw[List.getElem_take,gl (by rw[bW];omega)]at e;rw[<-e];exact q1 k (by omega)
 have Ec:∀b∈xs.toList.drop p,j<b:=fun b hb=>by
  obtain⟨k,hk,e⟩:=List.mem_iff_getElem.mp hb;rw[oA,bW]at hk;rw[List.getElem_drop,gl (by rw[bW];omega)]at e;have h1:=q2 (p+k) (by omega) (by omega);rw[e]at h1;rcases Nat.lt_or_ge j b with h2|h2
  ·exact h2
  ·have h3:b=j:=Nat.le_antisymm h2 h1;subst h3;exfalso;by_cases Rw:k=0
   ·subst Rw;refine hj ?_
    rw[fK (by omega)];rw[fJ,fK (by omega)]at e;simpa using e
   ·have h4:=h.lt (show p<p+k by omega) (by omega);have h5:=q2 p (aB _) (by omega);omega
 refine⟨h.sublist (List.take_sublist _ _),List.pairwise_cons.mpr ⟨Ec,h.sublist (List.drop_sublist _ _)⟩,fun a ha b hb=>?_⟩;rcases aY.mp hb with rfl|hb
 ·exact Ki a ha
 ·exact fS (Ki a ha) (Ec b hb)
theorem ij{n:Nat}:eE (Array.range n):=by
 unfold eE;rw[Array.toList_range];exact List.pairwise_lt_range
theorem kh{t:SetTable}{ha:Nat->Int}{h:Int}:∀(f:Nat) (p:SetTable.Probe) {j:Nat} {d:Option Nat},(∀k,p.dummy=some k->¬t.place[SetTable.below t.place k]?=some k)->SetTable.probe.go t ha h f p=some (.empty j d)->
  ¬t.place[SetTable.below t.place (d.getD j)]?=some (d.getD j)
 |0,p,j,d,_,e=>by cases e
 |f+1,p,j,d,hd,e=>by
  unfold SetTable.probe.go at e;have PB:∀q:SetTable.Probe,(t.advance q).dummy=q.dummy:=fun q=>by unfold SetTable.advance;split<;>rfl
  cases hs:t.slot p.j with
  |empty=>
   rw[hs]at e;injection e with e;injection e with e1 e2
   subst e1 e2;cases hp:p.dummy with
   |none=>
    unfold SetTable.slot at hs;dsimp only at hs;intro z;rw[Option.getD_none]at z;rw[ae (by rw[z];exact bQ _)]at hs;cases hs
   |some k=>exact hd k hp
  |dummy=>
   rw[hs]at e;refine kh f _ (fun k hk=>?_) e;rw[PB]at hk;have hk:p.j=k:=Option.some.inj hk;subst hk;unfold SetTable.slot at hs;dsimp only at hs;intro z;rw[ae (by rw[z];exact bQ _)]at hs;cases hs
  |live i=>
   rw[hs]at e;dsimp only at e;split at e
   ·cases e
   ·exact kh f _ (fun k hk=>hd k (by rw[PB]at hk;exact hk)) e
theorem yS{t:SetTable}{h:Int}{j:Nat}{b:Bool}(hr:eE t.place)(e:t.freeSlot h=some (j,b)):eE (t.put j).1.place:=by
 unfold SetTable.freeSlot at e;split at e
 ·rename_i k d q;injection e with e;injection e with e1 e2
  subst e1;exact An hr (kh _ _ (fun k hk=>by cases hk) q)
 ·cases e
theorem sF{t:SetTable}{n:Nat}(h:eE t.place):eE (t.orStandIn n).place:=by
 unfold SetTable.orStandIn;split
 ·exact h
 ·exact ij
theorem uH{t:SetTable}{es:Array (Int×Value)}{h:Int}{x:Value}(hr:eE t.place):eE (layNew t es h x).2.1.place:=by
 unfold layNew;split
 ·rename_i e;exact sF (yS hr e)
 ·exact ij
theorem uI{t t':SetTable}{hs:Array Int}{n:Nat}{o:Array Nat}(h:t.relaid hs n=some (t',o)):eE t'.place:=by
 unfold SetTable.relaid SetTable.laid at h;simp only[bind,Option.bind]at h;split at h
 ·cases h
 ·cases h;unfold eE;dsimp only;rw[List.map_filterMap];refine List.Pairwise.filterMap _ (fun a b yJ c hc d hd=>?_) List.pairwise_lt_range;simp only[Option.map_map,Option.mem_def,Option.map_eq_some_iff]at hc hd;obtain⟨_,_,rfl⟩:=hc;obtain⟨_,_,rfl⟩:=hd;exact yJ
theorem qD{t:SetTable}{es:Array (Int×Value)}{n:Nat}:eE (relayAll t es n).2.1.place:=by
 unfold relayAll;split
 ·rename_i e;dsimp only;split
  ·exact uI e
  ·exact ij
 ·exact ij
end L2
namespace L2
open PySem PySem.Spec PyProof.Rows
theorem ki{α:Type}:∀(l:List α) (i:Nat) (hi:i<l.length),(l[i]::l.eraseIdx i).Perm l
 |x::r,0,_=>List.Perm.refl _
 |x::r,i+1,hi=>by
  have ih:=ki r i (by simpa using hi);have SJ:i<r.length:=by simpa using hi
  show(r[i]::x::r.eraseIdx i).Perm (x::r);exact(List.Perm.swap _ _ _).trans (ih.cons x)
theorem perm_back{α β:Type}{f:α->β}(g:β->α)(fe:∀p,g (f p)=p){l:List α}{es:List β}(hp:es.Perm (l.map f)):∃l':List α,es=l'.map f/\l'.Perm l:=by
 have h1:∀e∈es,f (g e)=e:=fun e he=>by
  obtain⟨p,_,rfl⟩:=eY.mp (hp.mem_iff.mp he);rw[fe]
 refine⟨es.map g,?_,?_⟩
 ·rw[bR]
  conv=>lhs;rw[<-h9 es]
  exact eV fun e he=>(h1 e he).symm
 ·have h2:=hp.map g;rw[bR,show List.map (g∘f) l=l by
   conv=>rhs;rw[<-h9 l]
   exact eV fun p _=>fe p]at h2
  exact h2
section
variable {prog:Program}{w:World}{A:Around}{E:Value->Shared->Prop}{s:Shared}
theorem we{M:Model}{src:Source}{n:Nat}{Q:Nat->Shared->Prop}(hn:n≠0)(h:∀i,i<n->∀d,Q i {s with drawn:=d}):wpAny M A (choose src n) Q E s:=fun Γ p _=>by
 unfold choose;rw[Sem.wp];refine⟨hn,?_⟩;rw[Sem.wp];exact h _ (Nat.mod_lt _ (Nat.pos_of_ne_zero hn)) _
theorem j0{M:Model}{α:Type}:∀(n:Nat) (xs:List α) (s:Shared) (Q:List α->Shared->Prop),xs.length=n->(∀ys d,ys.Perm xs->Q ys {s with drawn:=d})->wpAny M A (drawOrder n xs) Q E s
 |0,xs,s,Q,hl,h=>by
  cases xs with
  |nil=>exact ak (h [] s.drawn (List.Perm.refl _))
  |cons _ _=>cases hl
 |n+1,[],s,Q,hl,h=>by cases hl
 |n+1,x::r,s,Q,hl,h=>by
  unfold drawOrder;refine ab (we (by simp) fun i hi d=>?_);have hx:(x::r)[i]?=some (x::r)[i]:=bp hi
  rw[hx];dsimp only;refine ab (j0 n _ _ _ (by rw[tN hi];simpa using hl) fun ys d' hp=>?_);refine ak (h _ d' ?_);exact(hp.cons _).trans (ki _ i hi)
end
abbrev tK(w:World):Bool:=w.params.followText "set-order"
def kW:Key->Tok->Value
 |.inl i,t=>.int i t
 |.inr x,t=>.str x t
def ent(w:World)(p:Key×Tok):Int×Value:=(qj w p.1,kW p.1 p.2)
theorem xJ{k:Key}{t:Tok}:fj k (kW k t)=true:=by cases k<;>simp[fj,kW,Value.isInt,Value.isStrOf]
theorem Ap{k:Key}{t:Tok}:(kW k t).scannable=true:=by cases k<;>rfl
def fH(w:World)(h:Heap)(a:Addr)(ss:List Key):Prop:=
 ∃(o:Obj) (es:Array (Int×Value)) (ep:Nat) (t:SetTable) (l:List (Key×Tok)),h.get? a=some o/\o.ExactSet/\o.data=.set es ep t/\es.toList=l.map (ent w)/\(l.map (·.1)).Perm ss/\ss.Nodup/\es.size<scanBound/\
  t.fits es.size=true/\(tK w=true\/t.led=true)/\eE t.place
theorem yT{prog:Program}{w:World}{l:List (Key×Tok)}:ElemsOf (aO prog w) (l.map (ent w)):=fun e he=>by
 obtain⟨p,_,rfl⟩:=eY.mp he;exact⟨⟨p.1,xJ,rfl⟩,Ap⟩
theorem fH.typeIs {w:World}{s:Shared}{a:Addr}{ss:List Key}(h:fH w s.heap a ss):s.TypeIs (.ref a) "set":=by
 obtain⟨o,_,_,_,_,ho,hx,_⟩:=h;exact⟨o,ho,hx.1⟩
theorem qE(t:SetTable)(n:Nat):(t.orStandIn n).led=t.led:=by
 unfold SetTable.orStandIn;split<;>rfl
theorem CV(t:SetTable)(j:Nat):(t.put j).1.led=t.led:=by
 unfold SetTable.put
 rfl
theorem wg(t:SetTable)(es:Array (Int×Value))(h:Int)(x:Value):(layNew t es h x).2.1.led=t.led:=by
 unfold layNew;split
 ·dsimp only;rw[qE,CV]
 ·rfl
theorem wj{t t':SetTable}{hs:Array Int}{n:Nat}{o:Array Nat}(h:t.relaid hs n=some (t',o)):t'.led=t.led:=by
 unfold SetTable.relaid SetTable.laid at h;simp only[bind,Option.bind]at h;split at h
 ·cases h
 ·cases h
  rfl
theorem sG(t:SetTable)(es:Array (Int×Value))(n:Nat):(relayAll t es n).2.1.led=t.led:=by
 unfold relayAll;split
 ·rename_i t' o e;dsimp only;split
  ·exact wj e
  ·rfl
 ·rfl
theorem xK(x:Key)(p:Key×Tok){w:World}:fj x (ent w p).2=decide (x=p.1):=by
 have h:(aO default w).is p.1 (ent w p).2=true:=xJ;exact KeyKind.is_eq_decide h x
section
variable {prog:Program}{w:World}{A:Around}{E:Value->Shared->Prop}{s:Shared}
theorem pA{h:Heap}{a:Addr}{o:Obj}{es:Array (Int×Value)}{ep:Nat}{t:SetTable}(ho:h.get? a=some o)(hex:o.ExactSet)(hd:o.data=.set es ep t){tD:Array (Int×Value)}{t':SetTable}{l':List (Key×Tok)}{Ed:List Key}
  (he:tD.toList=l'.map (ent w)) (hp:(l'.map (·.1)).Perm Ed) (hn:Ed.Nodup) (hb:tD.size<scanBound) (hf:t'.fits tD.size=true) (hl:tK w=true\/t'.led=true) (jF:eE t'.place):
  (h.update a (Obj.putSet tD t')).get? a=some {o with data:=.set tD (ep+1) t'}/\fH w (h.update a (Obj.putSet tD t')) a Ed:=by
 have hg:(h.update a (Obj.putSet tD t')).get? a=some {o with data:=.set tD (ep+1) t'}:=by
  have q:=oo (Obj.putSet tD t') ho (by rw[putSet_of tD t' hd];rfl);rw[putSet_of tD t' hd]at q;exact q
 exact⟨hg,_,tD,ep+1,t',l',hg,hex,rfl,he,hp,hn,hb,hf,hl,jF⟩
theorem kj{l:List (Key×Tok)}{es:List (Int×Value)}(hp:es.Perm (l.map (ent w))):∃l':List (Key×Tok),es=l'.map (ent w)/\l'.Perm l:=
 perm_back (fun e=>match e.2 with
  |.str y t=>(.inr y,t)
  |.int i t=>(.inl i,t)
  |_=>(.inl 0,0)) (fun p=>by obtain⟨k,t⟩:=p;cases k<;>rfl) hp
theorem Aq{g:Bool->Sem Unit}(hg:∀(b:Bool) (ba:Shared) (Q':Unit->Shared->Prop),Q' () ba->wpAny (model prog w) A (g b) Q' E ba){a:Addr}{o:Obj}{es:Array (Int×Value)}{ep:Nat}{t:SetTable}
  (ho:s.heap.get? a=some o) (hex:o.ExactSet) (hd:o.data=.set es ep t) {jH:Array (Int×Value)} {t2:SetTable} {l1:List (Key×Tok)} {ss:List Key}
  (NW:jH.toList=l1.map (ent w)) (PC:(l1.map (·.1)).Perm ss) (PD:ss.Nodup) (zj:jH.size<scanBound) (Rx:t2.fits jH.size=true) (Nf:tK w=true\/t2.led=true) (NX:eE t2.place) {pB:Bool} {R:Option Bool->Shared->Prop}
  (h:∀h',Heap.SameBut a s.heap h'->fH w h' a ss->R (some true) {s with heap:=h'}):
  wpAny (model prog w) A (do
    storeSet a jH t2
    if(!pB&&t2.tooFull)=true then do
       g (relayAll t2 jH (SetTable.grown jH.size)).2.2
       storeSet a (relayAll t2 jH (SetTable.grown jH.size)).1 (relayAll t2 jH (SetTable.grown jH.size)).2.1
       pure (some true)
     else pure (some true)) R E s:=by
 refine ab (wpAny_storeSet_of ho hd ?_ (oN zj));obtain⟨Kj,Kk⟩:=pA (w:=w) ho hex hd NW PC PD zj Rx Nf NX;have PH:=oE s.heap a (Obj.putSet jH t2);split
 ·have hp:=relayAll_perm t2 jH (SetTable.grown jH.size);have HX:=relayAll_fits t2 jH (SetTable.grown jH.size);have NY:=sG t2 jH (SetTable.grown jH.size);have NZ:=qD (t:=t2) (es:=jH) (n:=SetTable.grown jH.size);generalize relayAll t2 jH (SetTable.grown jH.size)=Rl at hp HX NY NZ⊢;obtain⟨PJ,t3,PK⟩:=Rl;dsimp only at hp HX NY NZ⊢;rw[NW]at hp;obtain⟨l2,e2,p2⟩:=kj hp;have hsz:PJ.size=jH.size:=by
   have q:=hp.length_eq;rw[<-NW,bW,bW]at q;exact q
  have HZ:PJ.size<scanBound:=by rw[hsz];exact zj
  refine ab (hg _ _ _ ?_);refine ab (wpAny_storeSet_of Kj rfl ?_ (oN HZ));obtain⟨_,N0⟩:=pA (w:=w) (h:=s.heap.update a (Obj.putSet jH t2)) Kj hex rfl e2 ((p2.map _).trans PC) PD HZ HX (Nf.imp id fun z=>NY.trans z) NZ;exact ak (h _ (PH.trans (oE _ a _)) N0)
 ·exact ak (h _ PH Kk)
def cv{α:Type}[DecidableEq α](ss:List α)(x:α):List α:=if x∈ss then ss else ss++[x]
theorem N1{a:Addr}{ss:List Key}{x:Key}{u:Tok}{Q:Bool->Shared->Prop}(hS:fH w s.heap a ss)(PL:ss.length+1<scanBound)
  (h:∀b h',Heap.SameBut a s.heap h'->fH w h' a (cv ss x)->Q b {s with heap:=h'}):wpAny (model prog w) A (setAddHashed a (kW x u) (qj w x)) Q E s:=by
 obtain⟨o,es,ep,t,l,ho,hex,hd,he,hp,hn,hb,hf,hl,jF⟩:=id hS;have PM:ElemsOf (aO prog w) es.toList:=by rw[he];exact yT
 have hlen:es.size=ss.length:=by
  have q:=bE List.length he;rw[bW,aE]at q;have q2:=hp.length_eq;rw[aE]at q2;omega
 have zA:(aO prog w).is x (kW x u)=true:=xJ;unfold setAddHashed setAddHashedIn;refine d3 (ab (g8 ho hd hf ?_));dsimp only;rw[byScan_of (knd:=aO prog w) Ap hb PM];simp only[↓reduceIte];unfold setAddByScan;refine ab ?_
 refine ab (fi ?_);refine ab (wpAny_setScan_of (knd:=aO prog w) zA ho hd hf PM ?_);have yU:x∈ss↔∃e∈es.toList,(aO prog w).is x e.2=true:=by
  rw[he,<-hp.mem_iff];constructor
  ·intro m;obtain⟨p,N2,rfl⟩:=eY.mp m;exact⟨ent w p,kL N2,by show fj _ _=true;rw[xK];simp⟩
  ·rintro ⟨e,N3,hx⟩
   obtain⟨p,N2,rfl⟩:=eY.mp N3;have hx:fj x (ent w p).2=true:=hx;rw[xK,fP]at hx;rw[hx];exact kL N2
 cases hr:List.findIdx? (fun e=>(aO prog w).is x e.2) es.toList with
 |some j=>
  dsimp only;obtain⟨hj,Ry,_⟩:=tL.mp hr;have hx:x∈ss:=yU.mpr ⟨es.toList[j],oF hj,Ry⟩;refine ak (ak ?_);have q:=h false s.heap (Heap.SameBut.refl a s.heap) (by unfold cv;rw[ae hx];exact hS);exact q
 |none=>
  dsimp only;have hx:¬x∈ss:=fun m=>by
   obtain⟨e,N3,q⟩:=yU.mp m;have z:=List.findIdx?_eq_none_iff.mp hr e N3;rw[q]at z;cases z
  have RA:∀(b:Bool) {ba:Shared} {Q':Unit->Shared->Prop},Q' () ba->wpAny (model prog w) A (match b with|true=>rule "set.scan.the-table-gave-way"|false=>pure ()) Q' E ba:=
   fun b ba Q' hq=>by cases b<;>first|exact ak hq|exact fi hq
  have pC:=layNew_perm t es (qj w x) (kW x u);have uJ:=layNew_fits t es (qj w x) (kW x u);have Ar:=wg t es (qj w x) (kW x u);have Kl:=uH (es:=es) (h:=qj w x) (x:=kW x u) jF;generalize layNew t es (qj w x) (kW x u)=L at pC uJ Ar Kl⊢;obtain⟨jH,t1,pB,RB⟩:=L;dsimp only at pC uJ Ar Kl⊢;rw[Array.toList_push,he,show l.map (ent w)++[(qj w x,kW x u)]=(l++[(x,u)]).map (ent w) by rw[hJ];rfl]at pC;obtain⟨l1,e1,p1⟩:=kj pC;have hsz:jH.size=es.size+1:=by
   have q:=pC.length_eq;rw[hJ,bP,<-he,bW,bW]at q;simpa using q
  have zj:jH.size<scanBound:=by omega
  have HM:(l1.map (·.1)).Perm (ss++[x]):=by
   have q:=p1.map (·.1);rw[hJ]at q;exact q.trans (hp.append_right _)
  have HF:(ss++[x]).Nodup:=by
   rw[List.nodup_append];refine⟨hn,by simp,fun y hy z hz e=>?_⟩;rw[dW]at hz;subst hz e;exact hx hy
  have N4:∀h',Heap.SameBut a s.heap h'->fH w h' a (ss++[x])->Q true {s with heap:=h'}:=fun h' sb CW=>h true h' sb (by unfold cv;rw[ai hx];exact CW);refine ab (RA _ ?_);have go:∀(t2:SetTable),t2.fits jH.size=true->t2.led=t1.led->eE t2.place->wpAny (model prog w) A (do
    storeSet a jH t2
    if(!pB&&t2.tooFull)=true then do
       (match(relayAll t2 jH (SetTable.grown jH.size)).2.2 with|true=>rule "set.scan.the-table-gave-way"|false=>pure ())
       storeSet a (relayAll t2 jH (SetTable.grown jH.size)).1 (relayAll t2 jH (SetTable.grown jH.size)).2.1
       pure (some true)
     else pure (some true)) (fun o s'=>wpAny (model prog w) A (match o with|some added=>pure added|none=>setAddHashedIn a (kW x u) (qj w x) 99999) Q E s') E s:=fun t2 f2 l2 r2=>
   Aq (g:=fun b=>match b with|true=>rule "set.scan.the-table-gave-way"|false=>pure ()) (fun b ba Q' hq=>by cases b<;>first|exact ak hq|exact fi hq) ho hex hd e1 HM HF zj f2 (hl.imp id fun z=>l2.trans (Ar.trans z)) r2 fun h' sb CW=>ak (N4 h' sb CW)
  split
  ·refine ab ?_
   rw[hashByValue_scannable 8 Ap];refine ak ?_
   cases plainKind (kW x u)with
   |true=>exact go t1 uJ rfl Kl
   |false=>exact go _ (SetTable.fits_plain_off uJ) rfl Kl
  ·refine ab (ak ?_);exact go t1 uJ rfl Kl
end
end L2
namespace L2
open PySem PySem.Spec PyProof.Rows
theorem bF:Slot "set_iterator" "__next__" "set_iterator.__next__":=.of (owner:="set_iterator") (n:="__next__")
 (by rw[typeLookup_type,oq];kernel_rfl) (by decide+kernel) (by decide+kernel) (by decide+kernel) (by first|exact .inl (by decide+kernel)|exact .inr (by decide+kernel))
 (by rw[isSubtype_type];kernel_rfl)
theorem gG:entryFor table "set_iterator.__next__"=some Builtin.«set_iterator.__next__»:=entryFor_of_tree (by kernel_rfl)
theorem mP:Manifest.owners.lookup (String.ofList ['r', 'o', 't', 'a', 'r', 'e', 't', 'i', '_', 't', 'e', 's'].reverse)=some Manifest.sig_set_iterator:=by kernel_rfl
theorem iJ(a:Value):argsOk "set_iterator.__next__" ⟨[a],[]⟩:=by
 unfold argsOk;rw[signature?_of (id:="set_iterator.__next__") (n:=['_', '_', 't', 'x', 'e', 'n', '_', '_']) (o:=['r', 'o', 't', 'a', 'r', 'e', 't', 'i', '_', 't', 'e', 's']) (by kernel_rfl) mP];kernel_rfl
theorem iK:Slot "set_iterator" "__iter__" "set_iterator.__iter__":=.of (owner:="set_iterator") (n:="__iter__")
 (by rw[typeLookup_type,oq];kernel_rfl) (by decide+kernel) (by decide+kernel) (by decide+kernel) (by first|exact .inl (by decide+kernel)|exact .inr (by decide+kernel))
 (by rw[isSubtype_type];kernel_rfl)
theorem ng:entryFor table "set.__iter__"=some Builtin.«frozenset.__iter__»:=entryFor_alias (id':="frozenset.__iter__") (by kernel_rfl) rfl (by decide+kernel) (by kernel_rfl)
def mQ(F:Value)(i:Nat)(a:Addr)(n ep:Nat):Obj:={cls:=.type "set_iterator",dict:=none,data:=.fields #[F,rawInt i,.ref a,rawInt n,rawInt ep],slots:=#[]}
section
variable {prog:Program}{w:World}{A:Around}{E:Value->Shared->Prop}{s:Shared}{I a:Addr}{o:Obj}{es:Array (Int×Value)}{ep:Nat}{t:SetTable}
theorem gf{Q:Array (Int×Value)->Shared->Prop}(ho:s.heap.get? a=some o)(hd:o.data=.set es ep t)(hf:t.fits es.size=true)(h:Q es s):wpAny (model prog w) A (setEntries a) Q E s:=by
 unfold setEntries;exact ab (g8 ho hd hf (ak h))
theorem uK{α:Type}{R:α->Shared->Prop}(hh:A.handled=none)
  (h:∀h' (x:Addr),Shared.TypeIs {s with heap:=h'} (.ref x) "StopIteration"->(∀b o,s.heap.get? b=some o->h'.get? b=some o)->E (.ref x) {s with heap:=h'}):
  wpAny (model prog w) A.in1 (newExc (.type "StopIteration") []) (fun x s'=>wpAny (model prog w) A.in1 (raiseNew x:Sem α) R E s') E s:=by
 simp only[newExc,newTuple];refine ab (dX ?_ (by size_fits));refine ab (m:=firstArgMember _ _) (wpAny_of_eq (a:=Value.none) (by first|rfl|(simp only[firstArgMember];rfl)) ?_);refine dX ?_ (by size_fits)
 simp only[raiseNew];refine ab (wpAny_handled ?_)
 first|rw[show A.in1.handled=none from hh]|rw[hh]
 refine ab (ak (wpAny_throw ?_));exact h _ _ ⟨_,bg _ rfl,rfl⟩ fun b o e=>aQ _ (aQ _ e)
theorem sH{slot i:Nat}{r:Option (Value×Nat)}{Q:Option Value->Shared->Prop}(hh:A.handled=none)(hit:s.heap.get? I=some (mQ (rawInt slot) i a es.size ep))(ho:s.heap.get? a=some o)(hd:o.data=.set es ep t)(hf:t.fits es.size=true)
  (hn:∀(B:Around) (E':Value->Shared->Prop) (Q':Option (Value×Nat)->Shared->Prop),Q' r s->wpAny (model prog w) B (setNext a slot i ep) Q' E' s)
  (h1:∀x nx,r=some (x,nx)->∀h',h'.get? I=some (mQ (rawInt nx) (i+1) a es.size ep)->Heap.SameBut I s.heap h'->Q (some x) {s with heap:=h'})
  (h2:r=none->∀h',Heap.ExtBut I s.heap h'->Q none {s with heap:=h'}):wpAny (model prog w) A (pyNext (.ref I)) Q E s:=by
 have hT:s.TypeIs (.ref I) "set_iterator":=⟨_,hit,rfl⟩;unfold pyNext;refine ab (wpAny_attempt (nD (name:=Str.ofString "__next__") hT bF (g9 bF hT gG ?_ (iJ _))));unfold Builtin.«set_iterator.__next__»;refine ab (m:=slotArgs "__next__" 0 _) (ak ?_);refine ab (wpAny_fieldsOf hit rfl ?_);dsimp only;refine ab (gf ho hd hf ?_);rw[ai (by simp)];show wpAny _ _ (setNext a (slot:Int).toNat (i:Int).toNat (ep:Int).toNat>>=_) _ _ s;rw[eW,eW,eW];refine ab (hn _ _ _ ?_);cases r with
 |none=>
  dsimp only;refine ab (wpAny_setField hit rfl (by show 2<5;decide) ?_);refine ab (uK hh fun h' x hx hk=>?_);refine ab (wpAny_isInstance (T:="StopIteration") (b:=true) hx isSubtype_stop ?_);exact ak (h2 rfl _ fun b o hb e=>hk b o ((oE s.heap I _).extBut b o hb e))
 |some p=>
  obtain⟨x,nx⟩:=p;dsimp only;refine ab (kI hit (by show 0<5;decide) fun dC As Au=>?_);refine ab (kI (s:={s with heap:=dC}) As (by show 1<5;decide) fun uf Km Gm=>?_);exact ak ⟨_,rfl,ak (h1 x nx rfl uf Km (Au.trans Gm))⟩
end
end L2
namespace L2
open PySem PySem.Spec PyProof.Rows
theorem mv:entryFor table "set_iterator.__iter__"=some Builtin.«dict_keyiterator.__iter__»:=entryFor_alias (id':="dict_keyiterator.__iter__") (by kernel_rfl) rfl (by decide+kernel) (by kernel_rfl)
theorem nh(a:Value):argsOk "set_iterator.__iter__" ⟨[a],[]⟩:=by
 unfold argsOk;rw[signature?_of (id:="set_iterator.__iter__") (n:=['_', '_', 'r', 'e', 't', 'i', '_', '_']) (o:=['r', 'o', 't', 'a', 'r', 'e', 't', 'i', '_', 't', 'e', 's']) (by kernel_rfl) mP];kernel_rfl
theorem xM{α:Type}(next:Nat->Nat):∀(fuel k:Nat) (left:List α) (out:Array α),left.length=fuel->(pickOrder.go next fuel k left out).toList.Perm (out.toList++left)
 |0,k,left,out,h=>by
  rw[List.eq_nil_of_length_eq_zero h];simp[pickOrder.go]
 |fuel+1,k,left,out,h=>by
  have hi:next k % left.length<left.length:=Nat.mod_lt _ (by omega)
  unfold pickOrder.go;rw[bp hi];dsimp only;refine(xM next fuel (k+1) _ _ (by rw[tN hi];omega)).trans ?_
  rw[Array.toList_push,kF];exact(ki left _ hi).append_left _
theorem yV{α:Type}(next:Nat->Nat)(xs:Array α):(pickOrder next xs).toList.Perm xs.toList:=by
 have h:=xM next xs.size 0 xs.toList #[] (by simp)
 unfold pickOrder;simpa using h
def slotAt(t:SetTable):Nat->Nat
 |0=>0
 |i+1=>t.place.getD i 0+1
theorem pD{t:SetTable}(h:eE t.place):∀{i:Nat},i<=t.place.size->SetTable.below t.place (slotAt t i)=i
 |0,_=>wc h
 |i+1,hi=>wd h hi
section
variable {prog:Program}{w:World}{A:Around}{E:Value->Shared->Prop}{s:Shared}{I a:Addr}{o:Obj}{es:Array (Int×Value)}{ep:Nat}{t:SetTable}
theorem sI{F:Value}{i n e:Nat}{Q:Value->Shared->Prop}(hit:s.heap.get? I=some (mQ F i a n e))(h:Q (.ref I) s):wpAny (model prog w) A (pyIter (.ref I)) Q E s:=by
 have hT:s.TypeIs (.ref I) "set_iterator":=⟨_,hit,rfl⟩;refine wpAny_pyIter_slot hT iK (g9 iK hT mv ?_ (nh _));show wpAny _ _ (ret (.ref I)) _ _ s;exact ak ⟨_,rfl,"set_iterator",_,hT,bF.lookup,h⟩
theorem Av{tp:Addr}{i m:Nat}{ot:Obj}{pl:Array Value}{Q:Option Value->Shared->Prop}(hh:A.handled=none)(hit:s.heap.get? I=some (mQ (.ref tp) i a es.size ep))(ho:s.heap.get? a=some o)(hd:o.data=.set es ep t)(hf:t.fits es.size=true)
  (RC:s.heap.get? tp=some ot) (Mg:ot.data=.seq pl m)
  (h1:∀(p:Nat) (e:Int×Value),pl[i]?=some (rawInt p)->es[p]?=some e->∀h',h'.get? I=some (mQ (.ref tp) (i+1) a es.size ep)->Heap.SameBut I s.heap h'->Q (some e.2) {s with heap:=h'})
  (h2:pl[i]?=none->∀h',Heap.ExtBut I s.heap h'->Q none {s with heap:=h'})
  (jF:∀v,pl[i]?=some v->∃(p:Nat) (e:Int×Value),v=rawInt p/\es[p]?=some e):wpAny (model prog w) A (pyNext (.ref I)) Q E s:=by
 have hT:s.TypeIs (.ref I) "set_iterator":=⟨_,hit,rfl⟩;unfold pyNext;refine ab (wpAny_attempt (nD (name:=Str.ofString "__next__") hT bF (g9 bF hT gG ?_ (iJ _))));unfold Builtin.«set_iterator.__next__»;refine ab (m:=slotArgs "__next__" 0 _) (ak ?_);refine ab (wpAny_fieldsOf hit rfl ?_);dsimp only;refine ab (gf ho hd hf ?_);rw[ai (by simp)];show wpAny _ _ (seqItems? (.ref tp)>>=_) _ _ s;refine ab (wpAny_seqItems RC Mg ?_);dsimp only;rw[eW];cases hv:pl[i]? with
 |none=>
  dsimp only;refine ab (kI hit (by show 0<5;decide) fun dC As Au=>?_);refine ab (kI (s:={s with heap:=dC}) As (by show 2<5;decide) fun uf Km Gm=>?_);refine ab (uK hh fun h' x hx hk=>?_);refine ab (wpAny_isInstance (T:="StopIteration") (b:=true) hx isSubtype_stop ?_);exact ak (h2 hv _ fun b o hb e=>hk b o (Gm.extBut b o hb (Au.extBut b o hb e)))
 |some v=>
  obtain⟨p,e,rfl,he⟩:=jF v hv;show wpAny _ _ (setNextDrawn a (p:Int).toNat (ep:Int).toNat>>=_) _ _ s;rw[eW,eW];refine ab ?_
  unfold setNextDrawn;refine ab (g8 ho hd hf ?_);dsimp only;rw[ai (by simp),he];dsimp only;refine ak ?_
  refine ab (kI hit (by show 1<5;decide) fun dC As Au=>?_);exact ak ⟨_,rfl,ak (h1 p e hv he dC As Au)⟩
theorem jI{Q:Bool->Shared->Prop}(h:Q (tK w) s):wpAny (model prog w) A setsByText Q E s:=by
 unfold setsByText;exact ab (wpAny_askSetting (ak h))
theorem rD{slot i:Nat}{Q:Option (Value×Nat)->Shared->Prop}(hb:tK w=true)(ho:s.heap.get? a=some o)(hd:o.data=.set es ep t)(hf:t.fits es.size=true)
  (h:Q (((pickOrder (w.params.setOrder a ep) es)[i]?).map fun e=>(e.2,slot)) s):wpAny (model prog w) A (setNext a slot i ep) Q E s:=by
 unfold setNext;refine ab (g8 ho hd hf ?_);dsimp only;refine ab (jI ?_);rw[hb,ae rfl];simp only[oy,kO,i4];refine ab ?_
 unfold setWalk;refine ab (g8 ho hd hf ?_);dsimp only;refine ab (jI ?_);rw[hb,ae rfl];refine ab (wpAny_askSetting ?_);exact ak (ak h)
theorem uL{slot i:Nat}{Q:Option (Value×Nat)->Shared->Prop}(hb:tK w=false)(hl:t.led=true)(hz:t.plain=true\/es.size<=1)(ho:s.heap.get? a=some o)(hd:o.data=.set es ep t)(hf:t.fits es.size=true)
  (h:Q (match es[SetTable.below t.place slot]?,t.place[SetTable.below t.place slot]? with
   |some (_,x),some j=>some (x,j+1)
   |_,_=>none) s):wpAny (model prog w) A (setNext a slot i ep) Q E s:=by
 unfold setNext;refine ab (g8 ho hd hf ?_);dsimp only;refine ab (jI ?_);rw[hb];simp only[kO,i4];refine jE (fun yJ=>absurd (show(!t.plain&&decide (es.size>1))=true from yJ) ?_) (fun _=>?_)
 ·rcases hz with z|z
  ·rw[z];exact dU
  ·rw[cw (p:=es.size>1) (by omega),oM];exact dU
 ·refine ab (m:=(if(!t.led&&!es.isEmpty)=true then unsupported "set:maker-not-led"else pure ())) ?_
  rw[hl,ai (by simp)];exact ak (ak h)
end
end L2
namespace L2
open PySem PySem.Spec PyProof.Rows
def ni(p:Key×Tok):Value:=kW p.1 p.2
def strAt(l:List (Key×Tok))(i:Nat)(v:Value):Prop:=(l[i]?).map ni=some v
section
variable {prog:Program}{w:World}{A:Around}{E:Value->Shared->Prop}{s:Shared}{I a:Addr}{o:Obj}{es:Array (Int×Value)}{ep:Nat}{t:SetTable}
theorem xN{l:List (Key×Tok)}(he:es.toList=l.map (ent w))(p:Nat):es[p]?=(l[p]?).map (ent w):=by
 rw[<-kB,he,bb]
theorem yW(hb:tK w=true)(hd:o.data=.set es ep t)(hf:t.fits es.size=true){l:List (Key×Tok)}(he:(pickOrder (w.params.setOrder a ep) es).toList=l.map (ent w))(hl:l.length=es.size)(iH:I≠a)(A':Around)(hh:A'.handled=none):
  Walks prog w A' I [I,a] [I] l.length (strAt l) (fun i h=>h.get? I=some (mQ (rawInt 0) i a es.size ep)/\h.get? a=some o) where
 sub:=fun b hb=>by simp at hb;simp[hb]
 frame:=fun i h h' st k=>⟨k I (by simp) _ st.1,k a (by simp) _ st.2⟩
 item:=fun i s Q E hi st hQ=>by
  have e1:(pickOrder (w.params.setOrder a ep) es)[i]?=(l[i]?).map (ent w):=by rw[<-kB,he,bb]
  rw[bp hi]at e1;refine sH (slot:=0) (r:=some ((ent w l[i]).2,0)) hh st.1 st.2 hd hf (fun B E' Q' q=>rD hb st.2 hd hf (by rw[e1];exact q)) (fun x nx e h' g sb=>?_) fun e=>nomatch e;cases e;exact hQ _ h' s.toks (by unfold strAt;rw[bp hi];rfl) ⟨g,(sb.2 a (bt iH)).trans st.2⟩ fun b o hb e=>sb.extBut b o (fun z=>hb (by simp[z])) e
 done:=fun s Q E st hQ=>by
  have e1:(pickOrder (w.params.setOrder a ep) es)[l.length]?=none:=by
   rw[<-kB,he,bb,List.getElem?_eq_none_iff.mpr (aB _)];rfl
  refine sH (slot:=0) (r:=none) hh st.1 st.2 hd hf (fun B E' Q' q=>rD hb st.2 hd hf (by rw[e1];exact q)) (fun x nx e=>nomatch e) fun _ h' eb=>?_
  exact hQ h' s.toks fun b o hb e=>eb b o (fun z=>hb (by simp[z])) e
 self:=fun i s Q E st hQ=>sI st.1 hQ
theorem Aw(hb:tK w=false)(hl:t.led=true)(hz:t.plain=true\/es.size<=1)(hr:eE t.place)(hd:o.data=.set es ep t)(hf:t.fits es.size=true){l:List (Key×Tok)}(he:es.toList=l.map (ent w))(iH:I≠a)(A':Around)(hh:A'.handled=none):
  Walks prog w A' I [I,a] [I] l.length (strAt l) (fun i h=>h.get? I=some (mQ (rawInt (slotAt t i:Nat)) i a es.size ep)/\h.get? a=some o):=by
 have hlen:l.length=es.size:=by have q:=bE List.length he;rw[bW,aE]at q;exact q.symm
 have H_:t.place.size=es.size:=by
  simp only[SetTable.fits,a3,eZ]at hf;exact hf.1
 exact{
  sub:=fun b hb=>by simp at hb;simp[hb]
  frame:=fun i h h' st k=>⟨k I (by simp) _ st.1,k a (by simp) _ st.2⟩
  item:=fun i s Q E hi st hQ=>by
   have e0:es[i]?=some (ent w l[i]):=by rw[xN he,bp hi];rfl
   have e1:t.place[i]?=some (t.place.getD i 0):=by rw[fJ,fK (by omega)];rfl
   refine sH (slot:=slotAt t i) (r:=some ((ent w l[i]).2,t.place.getD i 0+1)) hh st.1 st.2 hd hf (fun B E' Q' q=>uL hb hl hz st.2 hd hf (by rw[pD hr (by omega),e0,e1];exact q)) (fun x nx e h' g sb=>?_) fun e=>nomatch e;cases e;exact hQ _ h' s.toks (by unfold strAt;rw[bp hi];rfl) ⟨g,(sb.2 a (bt iH)).trans st.2⟩ fun b o hb e=>sb.extBut b o (fun z=>hb (by simp[z])) e
  done:=fun s Q E st hQ=>by
   have e1:es[l.length]?=none:=tR.mpr (by omega)
   refine sH (slot:=slotAt t l.length) (r:=none) hh st.1 st.2 hd hf (fun B E' Q' q=>uL hb hl hz st.2 hd hf (by rw[pD hr (by omega),e1];exact q)) (fun x nx e=>nomatch e) fun _ h' eb=>?_
   exact hQ h' s.toks fun b o hb e=>eb b o (fun z=>hb (by simp[z])) e
  self:=fun i s Q E st hQ=>sI st.1 hQ}
theorem wk{tp:Addr}{ot:Obj}{ps:List Nat}{m:Nat}(hd:o.data=.set es ep t)(hf:t.fits es.size=true)(Mg:ot.data=.seq (ps.map fun i=>rawInt (i:Nat)).toArray m){l l':List (Key×Tok)}(he:es.toList=l.map (ent w))(RD:∀i:Nat,l'[i]?=(ps[i]?).bind fun p=>l[p]?)(H_:∀p∈ps,p<l.length)
  (hlen:l'.length=ps.length) (iH:I≠a) (RE:I≠tp) (A':Around) (hh:A'.handled=none):
  Walks prog w A' I [I,a,tp] [I] l'.length (strAt l') (fun i h=>h.get? I=some (mQ (.ref tp) i a es.size ep)/\h.get? a=some o/\h.get? tp=some ot) where
 sub:=fun b hb=>by simp at hb;simp[hb]
 frame:=fun i h h' st k=>⟨k I (by simp) _ st.1,k a (by simp) _ st.2.1,k tp (by simp) _ st.2.2⟩
 item:=fun i s Q E hi st hQ=>by
  have N5:i<ps.length:=by omega
  have jF:(ps.map fun i=>rawInt (i:Nat)).toArray[i]?=some (rawInt (ps[i]:Nat)):=by simp[N5]
  have hp:ps[i]<l.length:=H_ _ (oF N5);have e1:es[ps[i]]?=some (ent w l[ps[i]]):=by rw[xN he,bp hp];rfl
  have e2:l'[i]?=some l[ps[i]]:=by rw[RD,bp N5];exact bp hp
  refine Av hh st.1 st.2.1 hd hf st.2.2 Mg (fun p e h1 h2 h' g sb=>?_) (fun z=>by rw[jF]at z;cases z) (fun v hv=>?_)
  ·rw[jF]at h1;have N6:((ps[i]:Nat):Int)=(p:Int):=by
    have q:=Option.some.inj h1;injection q
   have N7:ps[i]=p:=by omega
   subst N7;rw[e1]at h2;cases h2;exact hQ _ h' s.toks (by unfold strAt;rw[e2];rfl) ⟨g,(sb.2 a (bt iH)).trans st.2.1,(sb.2 tp (bt RE)).trans st.2.2⟩ fun b o hb e=>sb.extBut b o (fun z=>hb (by simp[z])) e
  ·rw[jF]at hv;cases hv;exact⟨_,_,rfl,e1⟩
 done:=fun s Q E st hQ=>by
  have jF:(ps.map fun i=>rawInt (i:Nat)).toArray[l'.length]?=none:=by simp[hlen]
  refine Av hh st.1 st.2.1 hd hf st.2.2 Mg (fun p e h1=>by rw[jF]at h1;cases h1) (fun _ h' eb=>?_) (fun v hv=>by rw[jF]at hv;cases hv);exact hQ h' s.toks fun b o hb e=>eb b o (fun z=>hb (by simp[z])) e
 self:=fun i s Q E st hQ=>sI st.1 hQ
theorem yX{ss:List Key}{Q:Value->Shared->Prop}(hS:fH w s.heap a ss)
  (hQ:∀(h':Heap) (d:Drawn) (I:Addr) (fp:List Addr) (St:Nat->Heap->Prop) (l:List (Key×Tok)),(l.map (·.1)).Perm ss->(∀b o,s.heap.get? b=some o->h'.get? b=some o)->s.heap.objs.size<=I->(∀b∈fp,b=a\/s.heap.objs.size<=b)->
   (∀A':Around,A'.handled=none->Walks prog w A' I fp [I] l.length (strAt l) St)->St 0 h'->Q (.ref I) {s with heap:=h',drawn:=d}):wpAny (model prog w) A (pyIter (.ref a)) Q E s:=by
 obtain⟨o,es,ep,t,l,ho,hex,hd,he,hp,hn,hb,hf,hl,jF⟩:=id hS;have jc:a<s.heap.objs.size:=aH ho;have hlen:l.length=es.size:=by have q:=bE List.length he;rw[bW,aE]at q;exact q.symm
 refine wpAny_pyIter_slot hS.typeIs PySem.F.slot_set_iter (g9 PySem.F.slot_set_iter hS.typeIs ng ?_ (PySem.F.args_set_iter_1 _));unfold Builtin.«frozenset.__iter__»;refine ab (m:=Builtin.Frozenset.slot0 "__iter__" _) (ak ?_);refine ab ?_
 unfold Builtin.Frozenset.sizeOf;refine ab (gf ho hd hf (ak ?_));refine ab ?_
 unfold setDrawn;refine ab (g8 ho hd hf ?_);dsimp only;refine ab (jI (ak ?_));refine jE (fun PN=>?_) (fun PN=>?_)
 ·
  refine ab (j0 _ _ _ _ (kG ..) fun ps d H_=>?_);have hz:((ps.map fun(i:Nat)=>rawInt i)).length<=sizeLine:=by
   rw[aE,H_.length_eq,kG];exact oN hb
  refine ab (wpAny_newTuple (hsz:=hz) ?_);have Kj:(s.heap.push {cls:=.type "tuple",data:=.seq (ps.map fun(i:Nat)=>rawInt i).toArray}).get? a=some o:=aQ _ ho;have Fy:(s.heap.push {cls:=.type "tuple",data:=.seq (ps.map fun(i:Nat)=>rawInt i).toArray}).objs.size=s.heap.objs.size+1:=hU ..;refine ab (wpAny_setEpoch_of Kj hd hf ?_);refine ab (dX ?_);refine ak ⟨_,rfl,"set_iterator",_,⟨_,bg _ rfl,rfl⟩,bF.lookup,?_⟩;have Kn:∀p∈ps,p<l.length:=fun p hm=>by
   have q:=List.mem_range.mp (H_.mem_iff.mp hm);omega
  have pC:(ps.map fun p=>l.getD p (.inl 0,0)).Perm l:=by
   have q:=H_.map fun p=>l.getD p (.inl 0,0);have e:(List.range es.size).map (fun p=>l.getD p (.inl 0,0))=l:=by
    rw[<-hlen];refine List.ext_getElem (by simp) fun i h1 h2=>?_
    simp[h2]
   rw[e]at q;exact q
  refine hQ _ d _ [_,a,s.heap.objs.size] _ (ps.map fun p=>l.getD p (.inl 0,0)) ((pC.map _).trans hp) (fun b o e=>aQ _ (aQ _ e)) (by rw[Fy];exact kY _) (fun b hm=>?_)
   (fun A' hA=>wk (ot:={cls:=.type "tuple",data:=.seq (ps.map fun(i:Nat)=>rawInt i).toArray}) (ps:=ps) hd hf rfl he (fun i=>?_) Kn (aE ..) ?_ ?_ A' hA)
   ⟨bg _ rfl,aQ _ Kj,aQ _ (bg _ rfl)⟩
  ·simp only[aY,oG,or_false]at hm;rcases hm with rfl|rfl|rfl
   ·right;rw[Fy];exact kY _
   ·left;rfl
   ·right;exact aB _
  ·rw[bb];cases e:ps[i]? with
   |none=>rfl
   |some p=>
    have jF:=Kn p (dS e);show some (l.getD p (.inl 0,0))=l[p]?
    rw[kz,bp jF];rfl
  ·rw[Fy];exact gr (jD jc)
  ·rw[Fy];exact Nat.succ_ne_self _
 ·refine ab (ak ?_);refine ab (wpAny_setEpoch_of ho hd hf ?_);refine ab (dX ?_);refine ak ⟨_,rfl,"set_iterator",_,⟨_,bg _ rfl,rfl⟩,bF.lookup,?_⟩;have Mh:∀b∈[s.heap.objs.size,a],b=a\/s.heap.objs.size<=b:=fun b hm=>by
   simp only[aY,oG,or_false]at hm;rcases hm with rfl|rfl
   ·exact .inr (aB _)
   ·exact .inl rfl
  have iH:s.heap.objs.size≠a:=gr jc;cases Mi:tK w with
  |true=>
   have N6:=yV (w.params.setOrder a ep) es;rw[he]at N6;obtain⟨l2,e2,p2⟩:=kj N6;exact hQ _ s.drawn _ [_,a] _ l2 ((p2.map _).trans hp) (fun b o e=>aQ _ e) (aB _) Mh (fun A' hA=>yW Mi hd hf e2 (p2.length_eq.trans hlen) iH A' hA) ⟨bg _ rfl,aQ _ ho⟩
  |false=>
   have Mj:t.plain=true\/es.size<=1:=by
    cases hp:t.plain with
    |true=>exact .inl rfl
    |false=>
     refine .inr (oB fun hz=>PN ?_);show(!tK w&&(!t.plain&&decide (es.size>1)))=true;rw[Mi,hp,dZ hz]
     rfl
   have Ar:t.led=true:=hl.resolve_left (by rw[Mi];exact dU);exact hQ _ s.drawn _ [_,a] _ l hp (fun b o e=>aQ _ e) (aB _) Mh (fun A' hA=>Aw Mi Ar Mj jF hd hf he iH A' hA) ⟨bg _ rfl,aQ _ ho⟩
end
end L2
namespace L2
open PySem PySem.Spec PyProof.Rows
def bG{α:Type}[DecidableEq α](ss xs:List α):List α:=xs.foldl cv ss
theorem pE{α:Type}[DecidableEq α](ss:List α)(x:α):(cv ss x).length<=ss.length+1:=by
 unfold cv;split
 ·omega
 ·simp
section
variable {prog:Program}{w:World}{A:Around}{R:Result->Shared->Prop}{I S:Addr}{fp:List Addr}{n:Nat}{P:Nat->Value->Prop}{St:Nat->Heap->Prop}
theorem fH.keep {h h':Heap}{a:Addr}{ss:List Key}(x:fH w h a ss)(k:∀o,h.get? a=some o->h'.get? a=some o):fH w h' a ss:=by
 obtain⟨o,es,ep,t,l,ho,r⟩:=x;exact⟨o,es,ep,t,l,k o ho,r⟩
theorem Ax(W:Walks prog w A.in1 I fp [I] n P St)(Ml:S∉fp)(val:Nat->Key)(CY:∀i v,P i v->∃t,v=kW (val i) t)(hb:n+1<scanBound):
  ∀(k i:Nat) (s:Shared) (ss:List Key),n - i=k->i<=n->St i s.heap->fH w s.heap S ss->ss.length<=i->
   (∀h' tk,(∀b o,b≠S->b≠I->s.heap.get? b=some o->h'.get? b=some o)->fH w h' S (bG ss ((List.range' i k).map val))->R (.ok (.ret .none)) {s with heap:=h',toks:=tk})->
   codeAny (model prog w) A (.builtin "set.update.loop" ⟨[.ref S,.ref I],[]⟩) R s:=by
 have RF:I∈fp:=W.sub I (by simp);have PQ:S≠I:=fun e=>Ml (e▸RF);intro k
 induction k with
 |zero=>
  intro i s ss hk hi bx hS _ hR;have kq:i=n:=by omega
  subst kq;refine fQ F.entry_set_update_loop ?_
  rw[gZ oz _];show wpAny _ A.in1 (pyNext (.ref I)>>=_) _ _ s;refine ab (W.done s _ _ bx fun h' tk kk=>?_);show wpAny _ A.in1 (ret Value.none) _ _ _;exact ak (hR h' tk (fun b o _ h2 e=>kk b o (by simpa using h2) e) (hS.keep fun o e=>kk S o (by simpa using PQ) e))
 |succ k ih=>
  intro i s ss hk hi bx hS hl hR;have jc:i<n:=by omega
  refine fQ F.entry_set_update_loop ?_
  rw[gZ oz _];show wpAny _ A.in1 (pyNext (.ref I)>>=_) _ _ s;refine ab (W.item i s _ _ jc bx fun v h1 PR hP N8 kk=>?_);obtain⟨u,rfl⟩:=CY i v hP;have Kk:fH w h1 S ss:=hS.keep fun o e=>kk S o (by simpa using PQ) e;show wpAny _ A.in1 (holding [kW (val i) u] (setAdd S (kW (val i) u))>>=_) _ _ _;refine ab (d3 ?_);unfold setAdd;refine d3 ?_
  refine ab ((aO prog w).pyHash (k:=val i) xJ ?_);refine N1 (s:={s with heap:=h1,toks:=PR+1}) Kk (by omega) fun b h2 sb N0=>?_
  have HY:∀b o,b≠S->h1.get? b=some o->h2.get? b=some o:=fun b o hb e=>(sb.2 b hb).trans e;refine ak ⟨hV oz _,ih (i+1) _ (cv ss (val i)) (by omega) jc (W.frame _ _ _ N8 fun b hb o e=>HY b o (fun z=>Ml (z▸hb)) e) N0 (by have:=pE ss (val i);omega) fun h' tk RG CW=>?_⟩;exact hR h' tk (fun b o zj HZ e=>RG b o zj HZ (HY b o zj (kk b o (by simpa using HZ) e))) CW
end
end L2
namespace PySem
section
variable {prog:Program}{w:World}{A:Around}{E:Value->Shared->Prop}{s:Shared}
theorem Ay(a:Value){Q₁:Value->Shared->Prop}
  (h:Q₁ (.ref s.heap.objs.size) {s with heap:=s.heap.push {cls:=.type "set",dict:=none,data:=.set #[] 0 (.fresh 0 0 (!L2.tK w))}}):
  codeAny (model prog w) A (.call (.builtin "set.__new__") ⟨[.type "set",a],[]⟩) (wants Q₁ E) s:=by
 refine codeAny_of_tree ?_
 show wpAny _ A.in1 (do checkBuiltinCall "set.__new__" ⟨[.type "set",a],[]⟩;again (.builtin "set.__new__" ⟨[.type "set",a],[]⟩)) _ _ s;refine ab (wpAny_of_eq (F.newCall_set_1 a) (ak ⟨hV F.plain_set_new _,fQ F.entry_set_new ?_⟩));rw[gZ F.plain_set_new _];unfold Builtin.«set.__new__» Builtin.Frozenset.newClass;have JY:=sub_set_self;obtain⟨hp,g,d,tk,os⟩:=s;dsimp only
 wp_walk
 refine wpAny_askSetting (ak ?_);dsimp only;simp only[newObj];refine ab (wpAny_alloc (ak ?_));exact ak h
set_option maxHeartbeats 3200000 in
theorem Az{l:Addr}{items:Array Value}{val:Nat->L2.Key}{Q:Value->Shared->Prop}(hh:A.handled=none)(hl:s.heap.IsList l items)(hv:∀(i:Nat) (v:Value),items[i]?=some v->∃t,v=L2.kW (val i) t)(hb:items.size+1<scanBound)
  (h:∀(h':Heap) (tk:Nat),L2.fH w h' s.heap.objs.size (L2.bG [] ((List.range' 0 items.size).map val))->(∀b o,b<s.heap.objs.size->s.heap.get? b=some o->h'.get? b=some o)->Q (.ref s.heap.objs.size) {s with heap:=h',toks:=tk}):
  wpAny (model prog w) A (call (.type "set") [.ref l]) Q E s:=by
 obtain⟨c,tl,RH⟩:=fT.mro;have PU:=fT.made;have JY:=fT.sub;refine wpAny_call (codeAny_of_tree ?_);show wpAny _ _ (callAny (.type "set") _) _ _ _;refine ak ⟨Code.quiet_builtin _ (by decide+kernel),fQ F.entry_type_call ?_⟩;rw[Around.under_plain (weight_type_call_type "set" [.ref l] []) rfl];have h1:=fT.notType;have h2:=fT.canCreate;have SK:=F.typeCall_set_1 (.ref l)
 repeat(any_goals (first|assumption|wp_step))
 refine hX (Ay (.ref l) (E:=E) (Q₁:=fun obj ba=>obj=.ref s.heap.objs.size/\ba={s with heap:=s.heap.push {cls:=.type "set",dict:=none,data:=.set #[] 0 (.fresh 0 0 (!L2.tK w))}}) ⟨rfl,rfl⟩) fun r ba hr=>?_
 cases r with
 |error e=>exact hr
 |ok fl=>
  cases fl with
  |ret obj=>
   obtain⟨rfl,rfl⟩:=hr;generalize N9:({cls:=.type "set",dict:=none,data:=.set #[] 0 (.fresh 0 0 (!L2.tK w))}:Obj)=ob;have hS:(s.heap.push ob).get? s.heap.objs.size=some ob:=bg _ (by rw[<-N9];rfl);have hT:Shared.TypeIs {s with heap:=s.heap.push ob} (.ref s.heap.objs.size) "set":=⟨_,hS,by rw[<-N9]⟩;have N_:=fT.init.lookup;have SM:=fT.init.bind (.ref s.heap.objs.size)
   repeat(any_goals (first|assumption|wp_step))
   refine hX (codeAny_call_builtin (R:=wants (fun r l_=>r=.none/\∃h' tk,l_={s with heap:=h',toks:=tk}/\L2.fH w h' s.heap.objs.size (L2.bG [] ((List.range' 0 items.size).map val))/\
     (∀b o,b<s.heap.objs.size->s.heap.get? b=some o->h'.get? b=some o)) E) fT.init.plain F.entry_set_init (check_set_init_1 hT ?_)) fun Oa l_ AA=>?_
   ·obtain⟨ol,PV,Jc,nl,PX⟩:=hl;obtain⟨RI,Ko,PY,Gn⟩:=ol;simp only at Jc PX;subst Jc;subst PX;have Ob:(s.heap.push ob).get? l=some {cls:=.type "list",dict:=Ko,data:=.seq items nl,slots:=Gn}:=aQ _ PV;have RJ:=F.sub_list_set;have RK:=F.sub_list_frozenset;have iH:(Value.type "list"==Value.type "dict")=false:=by decide
    have PZ:(s.heap.push ob).IsList l items:=⟨_,Ob,rfl,nl,rfl⟩;subst N9;unfold Builtin.«set.__init__» noKeywords Builtin.Frozenset.updateFrom;generalize RL:pyIter=PI
    wp_walk
    subst RL;refine kT PZ ?_
    refine ab (wpAny_runValue ?_);have P0:l<s.heap.objs.size:=aH PV;have RM:A.in1.in1.in1.handled=none:=by simp[hh]
    generalize hsz:(s.heap.push {cls:=.type "set",dict:=none,data:=.set #[] 0 (.fresh 0 0 (!L2.tK w))}).objs.size=I at*;have Gp:I=s.heap.objs.size+1:=by rw[<-hsz,hU]
    have Oc:l≠I:=by rw[Gp];exact bc (jD P0)
    have Ml:s.heap.objs.size∉[I,l]:=by
     simp only[aY,oG,or_false,not_or];exact⟨by rw[Gp];exact bc (kJ _),gr P0⟩
    refine L2.Ax (Walks.list RM I l Oc items) Ml val hv hb (items.size - 0) 0 _ [] (by omega) (bZ _) ⟨⟨_,by rw[<-hsz];exact bg _ rfl,rfl,rfl⟩,PZ.push _⟩ ?RN (bZ _) ?hR
    case RN=>
     refine⟨_,#[],0,.fresh 0 0 (!L2.tK w),[],aQ _ hS,⟨rfl,rfl,rfl⟩,rfl,rfl,List.Perm.refl _,List.nodup_nil,by show 0<scanBound;decide,rfl,?_,List.Pairwise.nil⟩;show L2.tK w=true\/(!L2.tK w)=true;cases L2.tK w<;>simp
    case hR=>
     intro h' tk hk CW;show wpAny _ _ _ _ _ _;refine ak ?_
     show wpAny _ _ (ret Value.none) _ _ _;refine ak ⟨rfl,h',tk,rfl,CW,fun b o hb e=>?_⟩;exact hk b o (bc hb) (by rw[Gp];exact bc (jD hb)) (aQ _ (aQ _ e))
   ·cases Oa with
    |error e=>exact AA
    |ok Kp=>
     cases Kp with
     |ret r=>
      obtain⟨rfl,h',tk,rfl,CW,RO⟩:=AA
      repeat(any_goals (first|assumption|wp_step))
      exact h _ _ CW RO
     |_=>exact AA.elim
  |_=>exact hr.elim
end
end PySem
namespace L2
open PySem PySem.Spec PySem.Calls PyProof.Rows
section
variable {prog:Program}{w:World}{A:Around}{E:Value->Shared->Prop}{s:Shared}{a:Addr}{ss:List Key}
theorem AB{Q:Bool->Shared->Prop}(hT:s.TypeIs (.ref a) "set")(h:Q false s):wpAny (model prog w) A (Builtin.List.listLengthHint (.ref a)) Q E s:=by
 unfold Builtin.List.listLengthHint;refine ab (wpAny_specialOf hT PySem.F.slot_set_len.lookup ?_);generalize aT:("set.__len__":String)=RP
 wp_delta
 rw[show splitId RP=some ("set","__len__")from by subst aT;decide+kernel];subst aT;refine ab (wpAny_isInstance (T:="set") (b:=true) hT (by rw[isSubtype_type];kernel_rfl) ?_);refine jE (fun yJ=>absurd yJ (by decide)) (fun _=>?_);refine jE (fun _=>?_) (fun yJ=>absurd (by decide+kernel) yJ);exact ab (hZ hT (ak h))
theorem uM{R:Result->Shared->Prop}(hh:A.handled=none)(hS:fH w s.heap a ss)(L:Addr)(P4:L≠a)(res:Value)(hL:s.heap.get? L=some {cls:=.type "list",data:=.seq #[] 0})
  (hR:∀h' tk d mw c' l,(l.map (·.1)).Perm ss->(∀b o,b≠L->s.heap.get? b=some o->h'.get? b=some o)->h'.get? L=some {cls:=.type "list",dict:=none,data:=.seq mw c',slots:=#[]}->ItemsOf (strAt l) mw l.length->
   R (.ok (.ret res)) {s with heap:=h',toks:=tk,drawn:=d}) (hn:ss.length<=sizeLine):
  wpAny (model prog w) A.in1 (Builtin.List.listExtendWith (.ref L) (.ref a) res) (fun fin s'=>match fin with|.done f=>R (.ok f) s'|.again c'=>c'.quiet=true/\codeAny (model prog w) A c' R s') (fun e s'=>R (.error e) s') s:=by
 have Kq:L<s.heap.objs.size:=aH hL;unfold Builtin.List.listExtendWith;refine ab (hZ (T:="set") hS.typeIs ?_);have h1:Builtin.List.listSameRef (.ref L) (.ref a)=false:=by simp[Builtin.List.listSameRef,P4]
 have h2:(Value.type "set"==Value.type "list")=false:=by decide
 have h3:(Value.type "set"==Value.type "tuple")=false:=by decide
 simp only[h1,h2,h3,kX,kO,i4];refine ab (yX hS fun dC d I fp St l hp hk hI Mh W st=>?_);have hlen:l.length=ss.length:=by have q:=hp.length_eq;rw[aE]at q;exact q
 have Kk:Shared.TypeIs {s with heap:=dC,drawn:=d} (.ref a) "set":=by
  obtain⟨o,ho,hc⟩:=hS.typeIs;exact⟨o,hk _ _ ho,hc⟩
 have P5:L∉fp:=fun m=>by
  rcases Mh L m with e|e
  ·exact P4 e
  ·exact absurd (bM Kq e) (cx _)
 have SN:L≠I:=bc (bM Kq hI);have Od:=hk _ _ hL;have key:∀(h:Heap) (c₁ tk:Nat),St 0 h->(∀b o,b≠L->s.heap.get? b=some o->h.get? b=some o)->h.get? L=some {cls:=.type "list",data:=.seq #[] c₁}->
   codeAny (model prog w) A (.builtin "list.extend.loop" ⟨[.ref L,.ref I,res],[]⟩) R {s with heap:=h,toks:=tk,drawn:=d}:=by
  intro h c₁ tk bx RQ Kr;refine codeAny_extend_loopS (W A.in1 hh).toS (by omega) L P5 res l.length 0 _ #[] c₁ rfl (bZ _) bx Kr (ItemsOf.nil _) fun s' mw c' hm C0 wm=>?_
  rw[Moved.eq_with hm];refine hR s'.heap s'.toks d mw c' l hp (fun b o hb e=>hm.heap b o (fun yU=>?_) (RQ b o hb e)) C0 wm;rcases aY.mp yU with e'|yU
  ·exact hb e'
  ·exact absurd (bM (aH e) hI) (by rw[dW.mp yU];exact cx _)
 refine ab (d3 (AB Kk ?_));refine jE (fun _=>?_) (fun _=>ak ⟨hV PySem.F.plain_extend_loop _,key _ 0 _ st (fun b o _ e=>hk b o e) Od⟩);refine ab (fi ?_);refine ab ?_
 show wpAny _ _ (updateSeq L (·.push .none)>>=fun _=>updateSeq L (·.pop)) _ _ _;refine ab (wpAny_updateSeq Od rfl ?_);have Ee:=oo (Obj.mapSeq (·.push Value.none)) Od rfl;refine wpAny_updateSeq (hz:=by seq_fits) Ee rfl ?_
 have Ks:=oo (Obj.mapSeq (·.pop)) Ee rfl;refine ak ⟨hV PySem.F.plain_extend_loop _,key _ _ _ ?_ (fun b o hb e=>?_) Ks⟩
 ·refine(W A.in1 hh).frame 0 _ _ st fun b hb o e=>?_
  have P6:b≠L:=fun z=>P5 (z▸hb);exact(kC _ _ (bt P6)).trans ((kC _ _ (bt P6)).trans e)
 ·exact(kC _ _ (bt hb)).trans ((kC _ _ (bt hb)).trans (hk b o e))
theorem sJ{R:List Value->Shared->Prop}(hh:A.handled=none)(hS:fH w s.heap a ss)(hn:ss.length<=sizeLine)
  (h:∀(h':Heap) (tk:Nat) (d:Drawn) (l:List (Key×Tok)),(l.map (·.1)).Perm ss->(∀b o,s.heap.get? b=some o->h'.get? b=some o)->s.heap.objs.size<=h'.objs.size->R (l.map ni) {s with heap:=h',toks:=tk,drawn:=d}):wpAny (model prog w) A (collect (.ref a)) R E s:=by
 have jc:a<s.heap.objs.size:=by obtain⟨o,ho,_⟩:=hS.typeIs;exact aH ho
 have items:∀(l:List (Key×Tok)) (acc:Array Value),ItemsOf (strAt l) acc l.length->acc.toList=l.map ni:=fun l acc hi=>by
  refine List.ext_getElem? fun i=>?_
  rw[bb,kB];cases e:acc[i]? with
  |none=>
   have h1:acc.size<=i:=tR.mp e;rw[hi.1]at h1;rw[List.getElem?_eq_none_iff.mpr h1];rfl
  |some v=>exact(hi.2 i v e).symm
 unfold collect;refine ab (wpAny_runValue (fQ entry_proto_collect' ?_));rw[gZ PySem.F.plain_proto_collect _];show wpAny _ A.in1 (newList []>>=fun l=>again (.builtin "list.__iadd__" ⟨[l,.ref a],[]⟩)) _ _ s;refine ab (dX ?_);refine ak ⟨hV PySem.F.plain_list_iadd _,fQ entry_list_iadd' ?_⟩;rw[gZ PySem.F.plain_list_iadd _];have hL:(s.heap.push {cls:=.type "list",data:=.seq ([]:List Value).toArray}).get? s.heap.objs.size=some {cls:=.type "list",data:=.seq #[]}:=bg _ rfl;show wpAny _ A.in1 (Builtin.List.listExtendWith (.ref s.heap.objs.size) (.ref a) (.ref s.heap.objs.size)) _ _ _;have key:=uM (prog:=prog) (A:=A) (s:={s with heap:=s.heap.push {cls:=.type "list",data:=.seq ([]:List Value).toArray}}) (ss:=ss)
  (R:=fun(q:Result) (s':Shared)=>∃(h':Heap) (tk:Nat) (d:Drawn) (mw:Array Value) (c':Nat) (l:List (Key×Tok)),q=.ok (.ret (.ref s.heap.objs.size))/\s'={s with heap:=h',toks:=tk,drawn:=d}/\
   (l.map (·.1)).Perm ss/\(∀b o,s.heap.get? b=some o->h'.get? b=some o)/\h'.get? s.heap.objs.size=some {cls:=.type "list",dict:=none,data:=.seq mw c',slots:=#[]}/\ItemsOf (strAt l) mw l.length)
  hh (hS.keep fun o e=>aQ _ e) s.heap.objs.size (gr jc) (.ref s.heap.objs.size) hL
  (fun h' tk d mw c' l hp hk C0 wm=>⟨h',tk,d,mw,c',l,rfl,rfl,hp,fun b o e=>hk b o (bc (aH e)) (aQ _ e),C0,wm⟩) hn
 refine cy key (fun fin s' x=>?_) fun e s' x=>?_
 ·cases fin with
  |done f=>
   obtain⟨h',tk,d,mw,c',l,e,rfl,hp,hk,C0,wm⟩:=x;cases e;show wpAny _ A (load s.heap.objs.size>>=_) _ _ _;refine ab (wpAny_load C0 ?_);refine ak ?_
   rw[items l mw wm];exact h h' tk d l hp hk (iY (aH C0))
  |again c₁=>
   refine⟨x.1,hX x.2 fun q l_ y=>?_⟩;obtain⟨h',tk,d,mw,c',l,rfl,rfl,hp,hk,C0,wm⟩:=y;show wpAny _ A (load s.heap.objs.size>>=_) _ _ _;refine ab (wpAny_load C0 ?_);refine ak ?_
   rw[items l mw wm];exact h h' tk d l hp hk (iY (aH C0))
 ·obtain⟨_,_,_,_,_,_,e',_⟩:=x;cases e'
theorem uN{Q:Value->Shared->Prop}{G:List Value->Prop}(hh:A.handled=none)(hS:fH w s.heap a ss)(Gq:ss.length<64)
  (Oe:∀{A:Around} {E:Value->Shared->Prop} {s:Shared} {D:Addr} {n:Nat} {P:Fin->Shared->Prop} (l:List (Key×Tok)),(l.map (·.1)).Perm ss->l.length<64->s.heap.get? D=some (seqObj "list" (l.map ni).toArray n)->
   (∀out:Array Value,G out.toList->P (.done (.ret .none)) {s with heap:=sortedHeap s.heap D (l.map ni) out})->wpAny (model prog w) A (Builtin.«list.sort» ⟨[.ref D],[]⟩) P E s)
  (h:∀h' tk d D out n,(∀b o,s.heap.get? b=some o->h'.get? b=some o)->s.heap.objs.size<=D->h'.get? D=some {cls:=.type "list",data:=.seq out n}->G out.toList->Q (.ref D) {s with heap:=h',toks:=tk,drawn:=d}):
  wpAny (model prog w) A (call (.builtin "sorted") [.ref a]) Q E s:=by
 have hz:ss.length<=sizeLine:=by rw[cX];omega
 refine call_function_entry kind_sorted plain_sorted entry_sorted (args_sorted1 _) ?_
 unfold Builtin.«sorted»;refine ab (m:=checkCount "sorted" 1 1 _) (ak ?_);refine ab (sJ (A:=A.in1) hh hS hz fun dC tk d l hp hk hle=>?_);have hlen:l.length=ss.length:=by have q:=hp.length_eq;rw[aE]at q;exact q
 refine ab (wpAny_newList ?_ (by show(l.map ni).length<=_;rw[aE];omega));have Iq:(dC.push (seqObj "list" (l.map ni).toArray 0)).get? dC.objs.size=some (seqObj "list" (l.map ni).toArray 0):=bg _ rfl;refine ab (d3 (g9 slot_list_sort ⟨_,Iq,rfl⟩ entry_list_sort (Oe l hp (by omega) Iq fun out g=>⟨_,rfl,?_⟩) (args_list_sort _)));refine ak ⟨_,rfl,?_⟩;obtain⟨e,he⟩:=sortedHeap_at (out:=out) Iq;refine h _ tk d dC.objs.size out e (fun b o q=>?_) hle he g;have hb:=hk b o q;have jc:=aH hb;rw[sortedHeap_old (bc jc) (by rw[hU];exact jD jc)];exact aQ _ hb
theorem pF:∀{l:List (Key×Tok)} {ss:List Str},l.map (·.1)=ss.map Sum.inr->StrsAre (l.map ni) ss
 |[],[],_=>.nil
 |[],_::_,e=>by cases e
 |_::_,[],e=>by cases e
 |(k,t)::r,z::ss,e=>by
  injection e with e1 e2
  have e1:k=Sum.inr z:=e1;subst e1;exact .cons z t (pF e2)
theorem uO:∀{l:List (Key×Tok)} {ns:List Int},l.map (·.1)=ns.map Sum.inl->IntsAre (l.map ni) ns
 |[],[],_=>.nil
 |[],_::_,e=>by cases e
 |_::_,[],e=>by cases e
 |(k,t)::r,i::ns,e=>by
  injection e with e1 e2
  have e1:k=Sum.inl i:=e1;subst e1;exact .cons i t (uO e2)
end
end L2
namespace L2
open PySem PySem.Spec PyProof.Rows
def uP(a b:Str):Bool:=!decide (b.cps.toList<a.cps.toList)
theorem nN{a b:Str}:uP a b=true↔a.cps.toList<=b.cps.toList:=by
 unfold uP;rw[Bool.not_eq_true',decide_eq_false_iff_not];exact Iff.rfl
theorem rE{a b c:Str}(h1:uP a b=true)(h2:uP b c=true):uP a c=true:=by
 rw[nN]at*;exact List.le_trans h1 h2
theorem yY(a b:Str):(uP a b||uP b a)=true:=by
 rw[Bool.or_eq_true,nN,nN];exact List.le_total _ _
theorem AD{a b:Str}(h1:uP a b=true)(h2:uP b a=true):a=b:=by
 rw[nN]at*;exact ext_toList (List.le_antisymm h1 h2)
def jl(ss:List Str):List Str:=ss.mergeSort uP
theorem kl(ss:List Str):(jl ss).Perm ss:=List.mergeSort_perm ss _
theorem wo(ss:List Str):(jl ss).Pairwise (fun a b=>uP a b=true):=List.pairwise_mergeSort (le:=uP) (fun a b c h1 h2=>rE h1 h2) yY ss
theorem mR:∀(p:Str) (l:List Str),risingS p l=true->(p::l).Pairwise (fun a b=>uP a b=true)
 |p,[],_=>List.pairwise_singleton _ _
 |p,x::r,h=>by
  have h':(!ltCps x.cps.toList p.cps.toList&&risingS x r)=true:=h;rw[a3,ltCps_eq]at h';have ih:=mR x r h'.2;have hp:uP p x=true:=h'.1;refine List.pairwise_cons.mpr ⟨fun y hy=>?_,ih⟩;rcases aY.mp hy with rfl|hy
  ·exact hp
  ·exact rE hp (List.rel_of_pairwise_cons ih hy)
theorem uQ:∀l:List Str,sortedS l=true->l.Pairwise (fun a b=>uP a b=true)
 |[],_=>List.Pairwise.nil
 |x::r,h=>mR x r h
theorem uR{a b:List Str}(hp:a.Perm b)(ha:a.Pairwise (fun a b=>uP a b=true))(hb:b.Pairwise (fun a b=>uP a b=true)):a=b:=
 hp.eq_of_pairwise (fun x y _ _ h1 h2=>AD h1 h2) ha hb
theorem uS{ss Ed:List Str}(hp:Ed.Perm ss)(hs:sortedS Ed=true):Ed=jl ss:=uR (hp.trans (kl ss).symm) (uQ _ hs) (wo ss)
def sortI(ns:List Int):List Int:=ns.mergeSort fun a b=>decide (a<=b)
theorem sortI_perm(ns:List Int):(sortI ns).Perm ns:=List.mergeSort_perm ns _
theorem uT{ns Mm:List Int}(hp:Mm.Perm ns)(hs:Mm.Pairwise (· <=·)):Mm=sortI ns:=by
 have h:=List.pairwise_mergeSort (le:=fun a b:Int=>decide (a<=b)) (fun a b c h1 h2=>dZ (Int.le_trans (bY h1) (bY h2))) (fun a b=>by rw[Bool.or_eq_true,fP,fP];exact Int.le_total a b) ns;exact(hp.trans (sortI_perm ns).symm).eq_of_pairwise (fun x y _ _ h1 h2=>Int.le_antisymm h1 h2) hs (h.imp bY)
theorem km{α β:Type}[DecidableEq α][DecidableEq β]{f:α->β}(hf:∀a b,f a=f b->a=b):∀{xs ss:List α},bG (ss.map f) (xs.map f)=(bG ss xs).map f
 |[],ss=>rfl
 |x::xs,ss=>by
  show bG (cv (ss.map f) (f x)) (xs.map f)=(bG (cv ss x) xs).map f;rw[<-km hf];congr 1;unfold cv;by_cases h:x∈ss
  ·rw[ae h,ae (kL h)]
  ·rw[ai h,ai fun q=>h (by obtain⟨y,hy,e⟩:=eY.mp q;rw[<-hf _ _ e];exact hy),hJ];rfl
def AE(w:World)(a:Addr)(ss:List Key):HO:=.ext fun h=>fH w h a ss
theorem rG:∀{vs:List Value} {ss:List Str},StrsAre vs ss->Vals (ss.map V.str) vs
 |_,_,.nil=>.nil
 |_,_,.cons y t r=>.cons ⟨t,rfl⟩ (rG r)
theorem yZ{α:Type}(d:α)(ts:List α):(List.range' 0 ts.length).map (fun i=>ts.getD i d)=ts:=by
 refine List.ext_getElem (by simp) fun i h1 h2=>?_
 simp[h2]
theorem Gr{k:Key}{v:Value}(h:RelV (kV k) v):∃t,v=kW k t:=by cases k<;>exact h
theorem Inv.C1 {X:Cx}{pins:List (Addr×Obj)}{σ:St}{H:Hp}{s:Shared}(I:Inv X pins σ H s)(d:Drawn):Inv X pins σ H {s with drawn:=d}:=
 I.step (h':=s.heap) (H':=H) (g':=s.gens) (t':=s.toks) (d':=d) (ch:=[]) (fun _ z=>nomatch z) (fun b o _ _ _ e _=>e) (fun b o _ _ _ e _=>⟨o.slots,e⟩) (fun b o _ _ n=>n) (fun b o _ e=>⟨o,e⟩) (fun _ _ e=>e) (fun _ _ _ e=>e)
   (fun b ps e=>⟨#[],by rw[e];simp⟩) (fun m hm=>hm) I.bB I.bare
section
variable {X:Cx}
theorem y0(hc:X.calm=true):cV X (.type "set") (fun xs H Q=>∃(p:Addr) (ts:List Key),xs=[.ref p]/\iF X.K H p (ts.map kV)/\ts.length+1<scanBound/\∀a,H a=none->Q (.ref a) (upd H a (AE X.w a (bG [] ts)))):=by
 intro pins s σ H xs us Q I r h;obtain⟨p,ts,rfl,hl,hb,q⟩:=h;obtain⟨u,rfl,ru⟩:=vals1 r;cases(show u=Value.ref p from ru);obtain⟨aV,rv,pl,hz⟩:=I.list hl;have hlen:aV.length=ts.length:=by have e:=rv.length;rw[aE]at e;exact e.symm
 refine Az (val:=fun i=>ts.getD i (.inl 0)) (I.ok.hd hc) pl.isList (fun i v hv=>?_) (by rw[a7,hlen];exact hb) fun h' tk hS hk=>?_
 ·have E2:aV[i]?=some v:=by simpa using hv
  have hi:i<ts.length:=by rw[<-hlen];exact(cG.mp E2).1
  obtain⟨u,hu,ru⟩:=rv.get (i:=i) (x:=kV ts[i]) (by rw[bb,bp hi];rfl);rw[E2]at hu;cases hu;rw[kz,bp hi];exact Gr ru
 ·have e0:aV.toArray.size=ts.length:=by rw[a7];exact hlen
  rw[e0,yZ]at hS;have hf:H s.heap.objs.size=none:=I.fresh;refine⟨.ref s.heap.objs.size,_,I.laid (o:=AE X.w s.heap.objs.size (bG [] ts)) (fun b o e=>hk b o (aH e) e) (aB _) ⟨hS,?_,fun h1 h2 x k=>fH.keep x k⟩,rfl,q _ hf⟩;obtain⟨o,_,_,_,_,ho,_⟩:=hS;exact⟨o,ho⟩
theorem lN{α:Type}{f:α->Key}{S:List α->List α}(hc:X.calm=true)(hp:∀l,(S l).Perm l)
  (Oe:∀{A:Around} {E:Value->Shared->Prop} {s:Shared} {D:Addr} {n:Nat} {P:Fin->Shared->Prop} {ss:List α} (l:List (Key×Tok)),(l.map (·.1)).Perm (ss.map f)->l.length<64->s.heap.get? D=some (seqObj "list" (l.map ni).toArray n)->
   (∀out:Array Value,Vals ((S ss).map fun x=>kV (f x)) out.toList->P (.done (.ret .none)) {s with heap:=sortedHeap s.heap D (l.map ni) out})->wpAny (model X.prog X.w) A (Builtin.«list.sort» ⟨[.ref D],[]⟩) P E s):
  cV X (.builtin "sorted") (fun xs H Q=>∃(a:Addr) (ss:List α),xs=[.ref a]/\H a=some (AE X.w a (ss.map f))/\ss.length<64/\∀D,H D=none->Q (.ref D) (upd H D (.lst ((S ss).map fun x=>kV (f x))))):=by
 intro pins s σ H xs us Q I r h;obtain⟨a,ss,rfl,ha,Gq,q⟩:=h;obtain⟨u,rfl,ru⟩:=vals1 r;cases(show u=Value.ref a from ru);obtain⟨hS,_,_⟩:=(show bI X.prog X.w H s.heap a (.ext fun h=>fH X.w h a (ss.map f))from I.bB a _ ha);refine uN (I.ok.hd hc) hS (by rw[aE];exact Gq) Oe fun h' tk d D out n hk hD hg bx=>?_
 have hf:H D=none:=I.bB.fresh hD;have hz:((S ss).map fun x=>kV (f x)).length<=sizeLine:=by
  rw[aE,(hp ss).length_eq,cX];omega
 have I1:Inv X pins σ (upd H D (.lst ((S ss).map fun x=>kV (f x)))) {s with heap:=h',toks:=tk}:=I.laid (o:=.lst _) hk hD ⟨hz,out.toList,n,bx,by rw[Array.toArray_toList];exact hg⟩;exact⟨.ref D,_,I1.C1 d,rfl,q _ hf⟩
theorem pG(hc:X.calm=true):cV X (.builtin "sorted") (fun xs H Q=>∃(a:Addr) (ss:List Str),xs=[.ref a]/\H a=some (AE X.w a (ss.map Sum.inr))/\ss.length<64/\∀D,H D=none->Q (.ref D) (upd H D (.lst ((jl ss).map V.str)))):=
 lN (f:=Sum.inr) (S:=jl) hc kl fun l hp Gq ho h=>by
  obtain⟨ts,e,hp⟩:=perm_back (f:=Sum.inr) (fun k=>match k with|.inr x=>x|_=>Str.empty) (fun _=>rfl) hp;have Of:=pF e;refine PyProof.Rows.list_sort_treeK strKind_oneLt ho Of.keysOf (fun RR RS rest e=>keyKind_strs (by rw[<-e];exact Of)) (by rw[aE];omega) fun tH a1 a2=>?_
  obtain⟨Ed,q1,q2,q3⟩:=sorted_out_str Of a1 a2;have:=uS (q2.trans hp) q3;subst this;exact h _ (rG q1)
theorem nj(hc:X.calm=true):cV X (.builtin "sorted") (fun xs H Q=>∃(a:Addr) (ns:List Int),xs=[.ref a]/\H a=some (AE X.w a (ns.map Sum.inl))/\ns.length<64/\∀D,H D=none->Q (.ref D) (upd H D (.lst ((sortI ns).map V.int)))):=
 lN (f:=Sum.inl) (S:=sortI) hc sortI_perm fun l hp Gq ho h=>by
  obtain⟨ts,e,hp⟩:=perm_back (f:=Sum.inl) (fun k=>match k with|.inl x=>x|_=>0) (fun _=>rfl) hp;refine PyProof.Rows.list_sort_tree ho (uO e) (by rw[aE];omega) fun out Mm q1 q2 q3=>?_
  have:=uT (q2.trans hp) q3;subst this;exact h _ (mh q1)
end
end L2
namespace L2
open PySem PySem.Spec PyProof.Rows
section
variable {X:Cx}{a b e:Expr}{pos p qv:Pos}{L:ax->Rs (List Tr)}{es:List Expr}{x1:Nat}
def AF:List Tr->Rs Tr
 |[.int i]=>if i.natAbs.log2<1920/\(Str.ofString (toString i)).length<=bS then .ok (.str (Str.ofString (toString i)))else .bad
 |[.str z]=>.ok (.str z)
 |_=>.bad
theorem Kt:lD X (.type "str") AF:=by
 intro pins s σ H xs us Q I rv ⟨B,ts,hb,r,q⟩;unfold AF at q;split at q
 ·obtain⟨x,e,h⟩:=eO r;have f:=eB q;exact sg pins s σ H _ us Q I rv ⟨_,by rw[e,h.int_inv],f.1.1,f.2 _ H (ar.refl H) (.str _ f.1.2)⟩
 ·obtain⟨x,rfl,h⟩:=eO r;obtain⟨rfl,hz⟩:=h.str_inv;obtain⟨u,rfl,tk,rfl⟩:=vals1 rv;exact PySem.P.str_of_str ⟨.str _,H,I,⟨_,rfl⟩,q _ H (ar.refl H) h⟩
 ·exact(show False from q).elim
def Og:Tr->Rs Tr
 |.str z=>.ok (.str z)
 |.int i=>if i.natAbs.log2<1920/\(Str.ofString (toString i)).length<=bS then .ok (.str (Str.ofString (toString i)))else .bad
 |_=>.bad
variable {F:ax->Rs Tr}
end
end L2
namespace L2
open PySem PySem.Spec PySem.Calls PyProof.Rows
theorem y1{k:Key}{v:Value}(h:fj k v=true):RelV (kV k) v:=by
 rcases bz h with⟨j,t,e1,e2⟩|⟨y,t,e1,e2⟩
 ·rw[e1,e2];exact⟨t,rfl⟩
 ·rw[e1,e2];exact⟨t,rfl⟩
section
variable {X:Cx}
def pH:List Tr->Option (List Str)
 |[]=>some []
 |.str z::ts=>(pH ts).map fun r=>z::r
 |_=>none
theorem rH{K:PySem.W.Frag}{W:Vw}:∀{vs:List V} {ts:List Tr} {ss:List Str},aF K W vs ts->pH ts=some ss->vs=ss.map V.str/\∀z∈ss,z.length<=bS
 |[],[],ss,_,e=>by cases e;exact⟨rfl,fun z h=>by cases h⟩
 |[],_::_,_,h,_=>by cases h
 |v::vs,ts,ss,h,e=>by
  cases h with
  |cons h r=>
   cases h with
   |str z hz=>
    rename_i ts;have e':(pH ts).map (fun r=>z::r)=some ss:=e;cases q:pH ts with
    |none=>rw[q]at e';cases e'
    |some rs=>
     rw[q]at e';cases e';obtain⟨h1,h2⟩:=rH r q;exact⟨by rw[h1];rfl,fun y hy=>by
      rcases aY.mp hy with rfl|hy
      ·exact hz
      ·exact h2 y hy⟩
   |_=>cases e
theorem AG{K:PySem.W.Frag}{W:Vw}{ss:List Str}(h:∀z∈ss,z.length<=bS):aF K W ((jl ss).map V.str) ((jl ss).map Tr.str):=qX fun z hz=>h z ((kl ss).mem_iff.mp hz)
variable {l:Expr}{p1 p2 AH uU:Pos}{F:ax->Rs Tr}
end
end L2
namespace PySem.SeqAt
open PySem PySem.Spec PySem.Calls PyProof.Rows PySem.MeetsSeq
theorem y2{M:Model}{A:Around}{E:Value->Shared->Prop}{s:Shared}{β:Type}(f:Nat->β->Sem (ForInStep β))(I:List Nat->β->Shared->Prop)(Q:β->Shared->Prop)
  (turn:∀x rest b s,I (x::rest) b s->wpAny M A (f x b) (fun r s'=>match r with|.yield b'=>I rest b' s'|.done b'=>Q b' s') E s)
  (fin:∀b s,I [] b s->Q b s) (n:Nat) (b:β) (h:I (List.range' 0 n) b s):wpAny M A (forIn [:n] b f) Q E s:=by
 rw[Std.Legacy.Range.forIn_eq_forIn_range'];simp only[Std.Legacy.Range.size,hW,Nat.add_sub_cancel,Nat.div_one];exact wpAny_forIn_list f I Q turn fin _ b h
theorem qF(l:Addr)(items:Array Value)(n:Nat)(dd:Option Addr)(sl:Array (Option Value))(x:Value)(e:Value->Bool)(j:Nat)(hj:j<items.size)(hit:e items[j]=true)(M7:∀m (hm:m<items.size),m<j->e items[m]=false):
  Meets (Builtin.«tuple.index» ⟨[.ref l,x],[]⟩)
   (fun A R s=>s.heap.get? l=some {cls:=.type "tuple",dict:=dd,data:=.seq items n,slots:=sl}/\(∀y,y∈items->EqAt A.in1 s y x (e y))/\R (.ok (.ret (.int j s.toks))) {s with toks:=s.toks+1}):=
 .of_wp fun prog w A R s h=>by
  obtain⟨hp,g,d,tk,os⟩:=s;obtain⟨hl,he,h⟩:=h
  wp_walk using wpAny_loadPart' hl,y2 _ (fun rest (b:Option _×Unit) s'=>b.1=none/\s'=⟨hp,g,d,tk,os⟩/\∃i,rest=List.range' i (items.size - i)/\i<=j) _
  case turn=>
   rintro y rest b s' ⟨hb,rfl,i,hr,hi⟩
   have jc:i<items.size:=kN hi hj;obtain⟨rfl,Ku⟩:y=i/\rest=List.range' (i+1) (items.size - (i+1)):=by
    have e:items.size - i=(items.size - (i+1))+1:=by omega
    rw[e,List.range'_succ]at hr;injection hr with h1 h2
    exact⟨h1,h2⟩
   rw[fK jc];refine ab (he _ (Array.getElem_mem jc) prog w _ _ ?_);by_cases z:y=j
   ·subst z;rw[hit]
    wp_walk
    exact⟨_,rfl,h⟩
   ·rw[M7 y jc (by omega)]
    wp_walk
    exact⟨rfl,rfl,y+1,Ku,by omega⟩
  case fin=>
   rintro b s' ⟨hb,rfl,i,hr,hi⟩
   have e:items.size - i=(items.size - (i+1))+1:=by omega
   rw[e,List.range'_succ]at hr;exact nomatch hr
  case h=>exact⟨rfl,rfl,0,by rw[Nat.min_self,hW],bZ _⟩
end PySem.SeqAt
namespace L2
open PySem PySem.Spec PySem.Calls PyProof.Rows
def wq(ts:List Tr)(x:Tr):Rs Tr:=if jY x=true/\ts.all Bx=true then(match ts.findIdx? (fun y=>eqT y x)with|some j=>.ok (.int j)|none=>.bad)else .bad
theorem Ef{K:PySem.W.Frag}{W:Vw}{x:Tr}:∀{vs:List V} {ts:List Tr} {us:List Value},aF K W vs ts->ts.all Bx=true->Vals vs us->us.map (eU x)=ts.map fun y=>eqT y x
 |[],_,_,r,_,rv=>by cases r;cases rv;rfl
 |_::_,_,_,r,f,rv=>by
  cases r with
  |cons h r=>
   cases rv with
   |cons h1 rv=>
    rw[fR,a3]at f;rw[aK,aK,v5 h f.1 h1,Ef r f.2 rv]
theorem C2{ts:List Tr}{us:List Value}{x:Tr}{j:Nat}(e:us.map (eU x)=ts.map fun y=>eqT y x)(h:ts.findIdx? (fun y=>eqT y x)=some j):∃hj:j<us.length,eU x us[j]=true/\∀m (hm:m<us.length),m<j->eU x us[m]=false:=by
 obtain⟨hj,h1,h2⟩:=tL.mp h;have hl:us.length=ts.length:=by have q:=bE List.length e;rw[aE,aE]at q;exact q
 have at_:∀(i:Nat) (h1:i<us.length) (h2:i<ts.length),eU x us[i]=eqT ts[i] x:=fun i h1 h2=>by
  have q:=bE (fun l:List Bool=>l[i]?) e;simp only[bb,bp h1,bp h2]at q;exact Option.some.inj q
 refine⟨by rw[hl];exact hj,by rw[at_ j _ hj];exact h1,fun m hm Oh=>?_⟩;rw[at_ m hm (by rw[<-hl];exact hm)];have q:=h2 m Oh;cases z:eqT ts[m] x with
 |false=>rfl
 |true=>exact absurd z q
theorem AI{X:Cx}{H:Hp}{ts:List Tr}{x:Tr}{k:Tr->Prop}(q:Fi X H (wq ts x) k):jY x=true/\ts.all Bx=true/\∃j:Nat,ts.findIdx? (fun y=>eqT y x)=some j/\k (.int j):=by
 unfold wq at q;by_cases z:jY x=true/\ts.all Bx=true
 ·rw[ae z]at q;cases e:ts.findIdx? (fun y=>eqT y x)with
  |none=>rw[e]at q;exact(show False from q).elim
  |some j=>rw[e]at q;exact⟨z.1,z.2,j,rfl,q⟩
 ·rw[ai z]at q;exact(show False from q).elim
section
variable {X:Cx}{pins:List (Addr×Obj)}{σ:St}{H:Hp}{s:Shared}{A:Around}{E:Value->Shared->Prop}
theorem Gs{W:Vw}{a:Addr}{vs:List V}{ts:List Tr}{v:V}{tx:Tr}{u:Value}{qi:Addr->Option Nat}{Q:VK}(hu:X.A.units+1<cLine)(I:Inv X pins σ H s)(h:i6 X.K H a vs)(r:aF X.K (⟨H,qi⟩:Vw) vs ts)(rx:Rep X.K (⟨H,qi⟩:Vw) v tx)(ru:RelV v u){k:Tr->Prop}(q:Fi X H (wq ts tx) k)(hk:∀j:Nat,k (.int j)->Q (.int j) H):
  wpAny (model X.prog X.w) X.A (call (.builtin "tuple.index") [.ref a,u]) (EP X pins σ Q) X.xe s:=by
 obtain⟨p1,p2,j,e,q⟩:=AI q;obtain⟨aV,rv,pl,hz⟩:=I.tuple h
 ·obtain⟨hj,h1,h2⟩:=C2 (Ef r p2 rv) e;obtain⟨⟨cls,dd,data,sl⟩,ho,hc,n,hd⟩:=(show s.heap.IsTuple a aV.toArray from pl);simp only at hc hd;subst hc hd;refine i3 PySem.F.slot_tuple_index ⟨_,ho,rfl⟩ PySem.F.entry_tuple_index (PySem.F.args_tuple_index_2 _ _) (SeqAt.qF a aV.toArray n dd sl u (eU tx) j (by simpa using hj) (by simpa using h1) fun m hm Oh=>by simpa using h2 m (by simpa using hm) Oh) ⟨ho,fun y hy=>mq I (A:=X.A.in1) hu rx p1 ru r p2 rv y (by simpa using hy),?_⟩;exact⟨.int j,H,I.tok _,⟨_,rfl⟩,hk j q⟩
variable {o e:Expr}{es:List Expr}{p qv apos bj:Pos}{F G:ax->Rs Tr}{L:ax->Rs (List Tr)}
end
end L2
namespace L2
open PySem PySem.Spec PySem.Calls PyProof.Rows
section
variable {X:Cx}{o e:Expr}{es:List Expr}{p pos qv apos bj:Pos}{F G:ax->Rs Tr}{L:ax->Rs (List Tr)}
inductive Oi(X:Cx)(x:V)(xs:List V)(H:Hp)(Q:VK):Prop
 |mk (B:br) (ts:List Tr) (y:V) (ty:Tr):HB B H->Rep X.K (aT B H) x (.tup ts)->xs=[y]->Rep X.K (aT B H) y ty->(Fi X H (wq ts ty) fun t=>∀v H',ar H H'->Rep X.K (aT B H') v t->Q v H')->Oi X x xs H Q
theorem Gu(hu:X.A.units+1<cLine):HL X "tuple.index" (Oi X):=by
 intro pins s σ H x xs v us Q I rx rv ⟨B,ts,y,ty,hb,r,e,ry,q⟩;subst e;obtain⟨u,rfl,ru⟩:=vals1 rv;cases r with
 |tup h rr=>
  have h:=Jo (K:=X.K) h;cases rx;exact Gs (W:=aT B H) (qi:=B.ix) hu I (ar.tup aR h) (rr.same e6) (ry.same e6) ru q fun j z=>z _ H (ar.refl H) (.int _)
theorem Oj{B:br}{ρ:ax}{H H1:Hp}{k:Tr->Prop}(s1:ar H H1)(q:Fi X H (G ρ) k):Fi X H1 (a9 (G ρ) (.ok [])) fun zs=>∃x,zs=[x]/\k x:=by
 have q2:=Fi.same q s1;cases eg:G ρ with
 |ok x=>rw[eg]at q2;exact⟨x,rfl,q2⟩
 |exc c=>rw[eg]at q2;exact q2
 |bad=>rw[eg]at q2;exact q2
theorem Kv{x1}(hu:X.A.units+1<cLine)(ht:PA X es (vq X L))(he:PE X e (tP X G))(bx:aI [e]=true:=by rfl) (gv:(apos.endLine==bj.line)=true:=by rfl):
  PE X (.Call (.Attribute (.Tuple es x1 qv) "index" apos) [e] [] bj) (tP X fun ρ=>(L ρ).bind fun ts=>if ts.length<=iS then(G ρ).bind (wq ts)else .bad):=by
 intro pins s σ H Q I ⟨B,ρ,hb,r,q⟩;refine wpAny_Call_method_late (e7 rfl) (by rw[gA bx];rfl) gv rfl (wpAny_Tuple_spliced (cn (ht qv pins s σ H _ I ⟨B,ρ,hb,r,q.bind.mono fun ts qt vs H1 s1 r1=>(⟨ts,qt,s1,r1⟩:∃ts,Fi X H (if ts.length<=iS then(G ρ).bind (wq ts)else .bad) _/\ar H H1/\aF X.K (aT B H1) vs ts)⟩) fun us s1 ⟨xs,H1,I1,rv,ts,qt,sm,r1⟩=>?_));by_cases hz:ts.length<=iS
 ·rw[ae hz]at qt;have Mj:us.length<=sizeLine:=by rw[<-rv.length,r1.length,<-fo];exact hz
  refine⟨Mj,?_⟩;have hf:H1 s1.heap.objs.size=none:=I1.bB.fresh (aB _);have ho:=bg s1.heap (o:={cls:=.type "tuple",data:=.seq us.toArray}) rfl;have I2:Inv X pins σ (upd H1 s1.heap.objs.size (.tup xs)) {s1 with heap:=s1.heap.push {cls:=.type "tuple",data:=.seq us.toArray}}:=I1.laid (t':=s1.toks) (fun b u e=>aQ _ e) (aB _) ⟨by rw[rv.length];exact Mj,us,rv,⟨_,ho,rfl,_,rfl,rfl⟩⟩;have s2:ar H (upd H1 s1.heap.objs.size (.tup xs)):=sm.trans (ar.upd hf);have rt:Rep X.K (aT B (upd H1 s1.heap.objs.size (.tup xs))) (.ref s1.heap.objs.size) (.tup ts):=.tup ((hb.same sm).new hf) (r1.same (aW (ar.upd hf)));refine⟨"tuple","tuple.index",PySem.F.plainAttrs_tuple,PySem.F.slot_tuple_index,PySem.F.type_tuple_index,⟨_,ho,rfl⟩,fun a ea=>by cases ea;exact⟨_,ho,rfl⟩,?_⟩;have hA:=(z4 he DZ (aD bx).1) bj pins _ σ _ (fun vs H3=>Oi X (.ref s1.heap.objs.size) vs H3 Q) I2 ⟨B,ρ,hb.same s2,r.same s2,(Oj (B:=B) s2 (Fi.bind qt)).mono fun zs ⟨x,ez,qx⟩ ws H3 s3 r3=>by
   subst ez;obtain⟨y,rfl,ry⟩:=eO r3;exact⟨B,ts,_,x,hb.same (s2.trans s3),rt.same (aW s3),rfl,ry,(Fi.same qx (s2.trans s3)).mono fun t k v H4 s4 r4=>k v H4 ((s2.trans s3).trans s4) r4⟩⟩
  rw[aX _ _ (aD bx).1]at hA⊢;refine og (by show(false||(backTo bj (starEach [] X.env)).any (·.1))=false;rw[bu (es:=[]) rfl];rfl) (ou ?_);exact cn hA fun us s4 ⟨vs,H4,I4,r4,q4⟩=>Gu hu pins s4 σ H4 (.ref s1.heap.objs.size) vs _ us Q I4 rfl r4 q4
 ·rw[ai hz]at qt;exact(show False from qt).elim
variable {c m:Str}{st:Stmt}{ps:List Str}{f:Addr}{fd:FuncData}{k:Nat}{h:List Tr->Rs Tr}
end
end L2
namespace L2
open PySem PySem.Spec PySem.Calls PyProof.Rows
structure MethAt(K:PySem.W.Frag)(c m:Str)(st:Stmt)(ps:List Str)(f:Addr)(fd:FuncData):Prop where
 fn:∃qual,qg K m qual st f fd
 bd:Binds K fd ps []
 mt:Meth K (clsAt K c) m f
 cl:yx K (clsAt K c)
def zk(fs:List (Str×Tr))(m:Str):Bool:=(fs.lookup m).isNone
theorem ik{K:PySem.W.Frag}{W:Vw}(f:Str):∀{c_:List (Str×V)} {fs:List (Str×Tr)},c_.map (·.1)=fs.map (·.1)->aF K W (c_.map (·.2)) (fs.map (·.2))->(fs.lookup f=none/\c_.lookup f=none)\/∃t v,fs.lookup f=some t/\c_.lookup f=some v/\Rep K W v t
 |[],[],_,_=>.inl ⟨rfl,rfl⟩
 |[],_::_,e,_=>by cases e
 |_::_,[],e,_=>by cases e
 |(k1,v1)::c_,(k2,t2)::fs,e,r=>by
  rw[aK,aK]at e;injection e with e1 e2
  have Aa:k1=k2:=e1;subst Aa;cases r with
  |cons hh r=>
   by_cases z:f=k1
   ·subst z;exact .inr ⟨t2,v1,by rw[bD,bQ],by rw[bD,bQ],hh⟩
   ·rw[bD,g_ z,bD,g_ z];exact ik f e2 r
section
variable {X:Cx}{o e:Expr}{es:List Expr}{p pos qv apos bj:Pos}{F G:ax->Rs Tr}{L:ax->Rs (List Tr)}{c m:Str}{st:Stmt}{ps:List Str}{f:Addr}{fd:FuncData}{k:Nat}{h:List Tr->Rs Tr}
def jn(c m:Str)(h:List Tr->Rs Tr)(r:Rs Tr)(l:Rs (List Tr)):Rs Tr:=r.bind fun t=>match t with
 |.ob x fs=>if x=c/\zk fs m=true then l.bind fun ts=>h (.ob x fs::ts)else .bad
 |_=>.bad
theorem xO{K:PySem.W.Frag}{W:Vw}{c_:List (Str×V)}{fs:List (Str×Tr)}(e:c_.map (·.1)=fs.map (·.1))(r:aF K W (c_.map (·.2)) (fs.map (·.2)))(hm:zk fs m=true):c_.lookup m=none:=by
 rcases ik m e r with⟨_,z⟩|⟨t,v,z,_⟩
 ·exact z
 ·unfold zk at hm;rw[z]at hm;cases hm
theorem Gv(D:MethAt X.K c m st ps f fd)(G:cf X.prog X.w X.K X.mg X.base j8 k f fd ps (spT X.K h))(hr:bq k X.A)(ho:PE X o (tP X F))(ha:PA X (e::es) (vq X L)){pl:Sem Bool}(bx:aI (e::es)=true:=by rfl)
  (ht:eval (.Call (.Attribute o m apos) (e::es) [] pos) X.env=(do
   let ov<-eval o X.env
   standAt apos.atName
   let(f,first)<-holding [ov] (getMethod ov m pl)
   callWith pos f first (backTo pos (starEach (e::es) X.env)) (backToKw pos (keywordEach [] X.env))):=by rfl):PE X (.Call (.Attribute o m apos) (e::es) [] pos) (tP X fun ρ=>jn c m h (F ρ) (L ρ)):=
 (w4 (pl:=pl) ho D.cl D.mt G hr D.bd .nil zR ha (bx:=aX _ _ (aD bx).1) (jF:=bu (aD bx).2) ht).weak fun σ H Q ⟨B,ρ,hb,r,q⟩=>⟨B,ρ,hb,r,q.bind.mono fun t qt v H1 s1 rv=>by
  split at qt
  ·rename_i x fs;obtain⟨a,dx,c_,rfl,hh,ek,rr⟩:=rv.vS;split at qt
   ·rename_i z;obtain⟨rfl,hm⟩:=z;refine⟨a,dx,c_,rfl,cj hh,xO ek rr hm,B,ρ,hb.same s1,r.same s1,(Fi.same (Fi.bind qt) s1).mono fun ts qs vs H2 s2 r2=>?_⟩;cases e:h (.ob x fs::ts)with
    |ok t=>
     rw[e]at qs;exact⟨B,.ob x fs::ts,hb.same (s1.trans s2),by
      show aF X.K (aT B H2) (V.ref a::(vs++[])) (.ob x fs::ts);rw[dY];exact .cons ((Rep.ob hh ek rr).same (aW s2)) r2,t,e,fun v H3 s3 r3=>qs v H3 ((s1.trans s2).trans s3) r3⟩
    |exc c=>rw[e]at qs;exact(qs _ (ar.refl _)).elim
    |bad=>rw[e]at qs;exact(show False from qs).elim
   ·exact qt.elim
  ·exact qt.elim⟩
theorem C3(D:MethAt X.K c m st ps f fd)(G:cf X.prog X.w X.K X.mg X.base j8 k f fd ps (spT X.K h))(hr:bq k X.A)(ho:PE X o (tP X F)){pl:Sem Bool}
  (ht:eval (.Call (.Attribute o m apos) [] [] pos) X.env=(do
   let ov<-eval o X.env
   standAt apos.atName
   let(f,first)<-holding [ov] (getMethod ov m pl)
   callWith pos f first (backTo pos (starEach [] X.env)) (backToKw pos (keywordEach [] X.env))):=by rfl):PE X (.Call (.Attribute o m apos) [] [] pos) (tP X fun ρ=>jn c m h (F ρ) (.ok [])):=
 (t9 (pl:=pl) ho D.cl D.mt G hr D.bd .nil zR ht).weak fun σ H Q ⟨B,ρ,hb,r,q⟩=>⟨B,ρ,hb,r,q.bind.mono fun t qt v H1 s1 rv=>by
  split at qt
  ·rename_i x fs;obtain⟨a,dx,c_,rfl,hh,ek,rr⟩:=rv.vS;split at qt
   ·rename_i z;have q1:Fi X H (h [.ob x fs]) _:=qt;obtain⟨rfl,hm⟩:=z;refine⟨a,dx,c_,rfl,cj hh,xO ek rr hm,?_⟩;cases e:h [.ob x fs]with
    |ok t=>
     rw[e]at q1;exact⟨B,[.ob x fs],hb.same s1,.cons (.ob hh ek rr) .nil,t,e,fun v H3 s3 r3=>q1 v H3 (s1.trans s3) r3⟩
    |exc c=>rw[e]at q1;exact(q1 _ (ar.refl _)).elim
    |bad=>rw[e]at q1;exact(show False from q1).elim
   ·exact qt.elim
  ·exact qt.elim⟩
end
end L2
namespace L2
open PySem PySem.Spec PyProof.Rows
def P7(K:PySem.W.Frag)(B:br)(H:Hp)(E:XK):Tr->Ab->Prop:=fun c A=>∀B' H',Grows B H B' H'->HA K B' A H'->E (JZ K c) none H'
inductive pI(K:PySem.W.Frag)(f:List Tr->Ab->Rz Tr)(vs:List V)(H:Hp)(Q:VK)(E:XK):Prop
 |mk (B:br) (A:Ab) (ts:List Tr):HA K B A H->aF K (aT B H) vs ts->(dE (P7 K B H E) (f ts A) fun t A'=>∀v B' H',Grows B H B' H'->HA K B' A' H'->Rep K (aT B' H') v t->Q v H')->pI K f vs H Q E
def du(r:Rz Out):Rz Tr:=r.bind fun o A=>match o with
 |.nx _=>.ok .a_ A
 |.ret t=>.ok t A
 |_=>.bad
theorem qg.RT {P:Program}{w:World}{K:PySem.W.Frag}{mg:Str->Option Value}{base:Heap}{x qual:Str}{st:Stmt}{f:Addr}{fd:FuncData}{N ps:List Str}{k:Nat}{h:List Tr->Ab->Rz Tr}(Fn:qg K x qual st f fd)(S:cY N ps (aC st))(len:∀ts A,h ts A≠ .bad->ts.length=ps.length)
  (fm:∀(cC:Value) (A:Around) (outer:List Env) (s:Shared) (H:Hp) (E:XK),bq k (A.deeper (envOfC qual (aC st) s.heap.objs.size f cC))->
   ∃G,jQ (iR (nc P w) P w K mg base N qual (aC st) f cC A outer s H E) (cz st) (tZ (iR (nc P w) P w K mg base N qual (aC st) f cC A outer s H E) G)/\∀ts A,h ts A≠ .bad->h ts A=du (G (startT N.length ts) A)):cf P w K mg base (nc P w) (k+1) f fd ps (pI K h):=by
 obtain⟨oc,od,kV,doc,pm,an,cC,ct,zF,rfl,lk,vx⟩:=Fn.ex;have nb:∀{B:br} {A:Ab} {H:Hp} {E:XK} {ts:List Tr} {k:Tr->Ab->Prop},dE (P7 K B H E) (h ts A) k->h ts A≠ .bad:=fun{B A H E ts k} q z=>by rw[z]at q;exact q
 refine DQ lk vx S (fun vs H Q E ⟨B,A,ts,ha,r,q⟩=>by rw[r.length];exact len ts A (nb q)) fun A outer s H vs Q E hr ⟨B,A1,ts,ha,r,q⟩=>?_
 obtain⟨G,hG,hE⟩:=fm cC A outer s H E hr;refine⟨_,hG,B,H,B,A1,startT N.length ts,ha.hb,.refl,ha,a4.start r,pv,?_⟩;rw[hE ts A1 (nb q)]at q;refine(dE.bind q).imp (fun c A2 z B' H' g gz e s x=>Ag x (z B' H' g gz))|>.mono fun o A2 z=>?_
 cases o with
 |nx ρ=>exact fun bL B' H' g gz r' n'=>z .a_ B' H' g gz .a_
 |ret t=>exact fun v B' H' g gz r'=>z v B' H' g gz r'
 |bk ρ=>exact(show False from z).elim
 |ct ρ=>exact(show False from z).elim
def cL(n m:Nat)(G:ax->Ab->Rz Out)(ts:List Tr)(A:Ab):Rz Tr:=if ts.length=n then du (G (startT m ts) A)else .bad
theorem uV{n m:Nat}{G:ax->Ab->Rz Out}{ts:List Tr}{A:Ab}(h:cL n m G ts A≠ .bad):ts.length=n:=by
 unfold cL at h;by_cases z:ts.length=n
 ·exact z
 ·rw[ai z]at h;exact absurd rfl h
theorem C4{n m:Nat}{G:ax->Ab->Rz Out}{ts:List Tr}{A:Ab}(h:cL n m G ts A≠ .bad):cL n m G ts A=du (G (startT m ts) A):=by
 unfold cL;rw[ae (uV h)]
section
variable {X:Cx}{o e:Expr}{es:List Expr}{p pos apos:Pos}{F:ax->Ab->Rz Tr}{L:ax->Ab->Rz (List Tr)}{h:List Tr->Ab->Rz Tr}{x:Str}{st:Stmt}{ps:List Str}{f:Addr}{fd:FuncData}{k:Nat}
theorem wt{B B1:br}{H H1:Hp}{A1:Ab}{vs:List V}{ts:List Tr}{Q:VK}(hb:HB B H)(g:Grows B H B1 H1)(ha:HA X.K B1 A1 H1)(r:aF X.K (aT B1 H1) vs ts)(q:dE (XE X B H) (h ts A1) fun t A'=>∀v B' H',Grows B H B' H'->HA X.K B' A' H'->Rep X.K (aT B' H') v t->Q v H'):pI X.K h vs H1 Q (EX X):=
 ⟨B1,A1,ts,ha,r,(q.imp fun c A' z=>z.grow hb g).mono fun t A' z v B' H' g' gz rv=>z v B' H' (g.trans hb g') gz rv⟩
theorem Kw(D:qU X.K X.mg x st ps f fd)(G:cf X.prog X.w X.K X.mg X.base (nc X.prog X.w) k f fd ps (pI X.K h))(hr:bq k X.A)(ha:PA X (e::es) (CM X L))(hx:X.ex=[]:=by rfl) (hg:Gl X x:=by rfl) (dG:(x==("__debug__":Str))=false:=by decide) (bx:aI (e::es)=true:=by rfl):
  PE X (.Call (.Name x p) (e::es) [] pos) (tE X fun ρ A=>(L ρ A).bind h):=
 (wZ (p:=p) (pos:=pos) G hr hg D.mg D.fn.kp D.bd .nil (gF hx) ha (dG:=dG) (he:=aX _ _ (aD bx).1) (jF:=bu (aD bx).2)).weak fun σ H Q ⟨B,A,ρ,ha,r,n,q⟩=>⟨B,A,ρ,ha,r,n,q.bind.mono fun ts A1 qt vs B1 H1 g1 iU r1=>by
  show pI X.K h (vs++[]) H1 Q (EX X);rw[dY];exact wt ha.hb g1 iU r1 qt⟩
variable {c m:Str}
def dh(c m:Str)(h:List Tr->Ab->Rz Tr)(r:Rz Tr)(l:Ab->Rz (List Tr)):Rz Tr:=r.bind fun t A=>match t with
 |.at i=>match A[i]? with
  |some (.ins x fs)=>if x=c/\zk fs m=true then(l A).bind fun ts A=>h (.at i::ts) A else .bad
  |_=>.bad
 |_=>.bad
theorem xQ{K:PySem.W.Frag}{B:br}{A:Ab}{H:Hp}{a:Addr}{i:Nat}{x:Str}{fs:List (Str×Tr)}(ha:HA K B A H)(jS:B.ix a=some i)(e:A[i]?=some (.ins x fs))(hm:zk fs m=true):∃dx c_,H a=some (.ins (clsAt K x) dx c_)/\c_.lookup m=none:=by
 obtain⟨_,dx,c_,h1,_,_,h4,h5⟩:=ha.get jS e;refine⟨dx,c_,h1,?_⟩;rcases ik m h4 h5 with⟨_,z⟩|⟨t,v,z,_⟩
 ·exact z
 ·unfold zk at hm;rw[z]at hm;cases hm
theorem Gw(D:MethAt X.K c m st ps f fd)(G:cf X.prog X.w X.K X.mg X.base (nc X.prog X.w) k f fd ps (pI X.K h))(hr:bq k X.A)(ho:PE X o (tE X F))(ha:PA X (e::es) (CM X L)){pl:Sem Bool}(hx:X.ex=[]:=by rfl) (bx:aI (e::es)=true:=by rfl)
  (ht:eval (.Call (.Attribute o m apos) (e::es) [] pos) X.env=(do
   let ov<-eval o X.env
   standAt apos.atName
   let(f,first)<-holding [ov] (getMethod ov m pl)
   callWith pos f first (backTo pos (starEach (e::es) X.env)) (backToKw pos (keywordEach [] X.env))):=by rfl):PE X (.Call (.Attribute o m apos) (e::es) [] pos) (tE X fun ρ A=>dh c m h (F ρ A) (L ρ)):=
 (w4 (pl:=pl) ho D.cl D.mt G hr D.bd .nil (gF hx) ha (bx:=aX _ _ (aD bx).1) (jF:=bu (aD bx).2) ht).weak fun σ H Q ⟨B,A,ρ,ha,r,n,q⟩=>⟨B,A,ρ,ha,r,n,q.bind.mono fun t A1 qt v B1 H1 g1 iU rv=>by
  split at qt
  ·obtain⟨a,rfl,jS⟩:=rv.ia;split at qt
   ·rename_i eo;obtain⟨⟨rfl,hm⟩,q2⟩:=eP qt;obtain⟨dx,c_,k1,k2⟩:=xQ iU jS eo hm;refine⟨a,dx,c_,rfl,k1,k2,B1,A1,ρ,iU,r.grow n g1,n,((dE.bind q2).imp fun c A' z=>z.grow ha.hb g1).mono fun ts A2 qs vs B2 H2 g2 ky rs=>?_⟩;show pI X.K h (.ref a::(vs++[])) H2 Q (EX X);rw[dY];exact wt ha.hb (g1.trans ha.hb g2) ky (.cons (.at (g2.fF.x _ _ jS)) rs) qs
   ·exact qt.elim
  ·exact qt.elim⟩
theorem C5(D:MethAt X.K c m st ps f fd)(G:cf X.prog X.w X.K X.mg X.base (nc X.prog X.w) k f fd ps (pI X.K h))(hr:bq k X.A)(ho:PE X o (tE X F)){pl:Sem Bool}(hx:X.ex=[]:=by rfl)
  (ht:eval (.Call (.Attribute o m apos) [] [] pos) X.env=(do
   let ov<-eval o X.env
   standAt apos.atName
   let(f,first)<-holding [ov] (getMethod ov m pl)
   callWith pos f first (backTo pos (starEach [] X.env)) (backToKw pos (keywordEach [] X.env))):=by rfl):PE X (.Call (.Attribute o m apos) [] [] pos) (tE X fun ρ A=>dh c m h (F ρ A) fun A=>.ok [] A):=
 (t9 (pl:=pl) ho D.cl D.mt G hr D.bd .nil (gF hx) ht).weak fun σ H Q ⟨B,A,ρ,ha,r,n,q⟩=>⟨B,A,ρ,ha,r,n,q.bind.mono fun t A1 qt v B1 H1 g1 iU rv=>by
  split at qt
  ·obtain⟨a,rfl,jS⟩:=rv.ia;split at qt
   ·rename_i eo;obtain⟨⟨rfl,hm⟩,q2⟩:=eP qt;obtain⟨dx,c_,k1,k2⟩:=xQ iU jS eo hm;refine⟨a,dx,c_,rfl,k1,k2,?_⟩;show pI X.K h [.ref a] H1 Q (EX X);exact wt ha.hb g1 iU (.cons (.at jS) .nil) q2
   ·exact qt.elim
  ·exact qt.elim⟩
end
end L2
namespace L2
open PySem PySem.Spec PyProof.Rows
abbrev P8:List Value:=[.type "ValueError",.type "Exception",.type "BaseException",.type "object"]
structure Kx(K:PySem.W.Frag)(mg:Str->Option Value)(x:Str):Prop where
 mg:mg x=some (.ref (clsAt K x))
 ex:PySem.W.excIn K (clsAt K x) P8 "ValueError.__new__"=true
section
variable {X:Cx}{x:Str}{np bj pos:Pos}{e:Expr}{es:List Expr}{L:ax->Ab->Rz (List Tr)}
def Gx(x:Str)(l:Rz (List Tr)):Rz Out:=l.bind fun ts A=>if ts.length<=iS then .exc (.str x) A else .bad
end
theorem rL{e o i:Expr}{p:Pos}{n:Nat}{env:Env}:swapsWith e (some (.Subscript o i p)) n env=pure false:=by cases e<;>rfl
theorem y3{e o:Expr}{f:Str}{p:Pos}{n:Nat}{env:Env}:swapsWith e (some (.Attribute o f p)) n env=pure false:=by cases e<;>rfl
def rN(f:Str)(t:Tr):List (Str×Tr)->List (Str×Tr)
 |[]=>[(f,t)]
 |(g,x)::r=>if g=f then(g,t)::r else(g,x)::rN f t r
theorem uW{K:PySem.W.Frag}{W:Vw}{f:Str}{v:V}{t:Tr}(rv:Rep K W v t):∀{c_:List (Str×V)} {fs:List (Str×Tr)},c_.map (·.1)=fs.map (·.1)->aF K W (c_.map (·.2)) (fs.map (·.2))->(gs f v c_).map (·.1)=(rN f t fs).map (·.1)/\aF K W ((gs f v c_).map (·.2)) ((rN f t fs).map (·.2))
 |[],[],_,_=>⟨rfl,.cons rv .nil⟩
 |[],_::_,e,_=>by cases e
 |_::_,[],e,_=>by cases e
 |(k1,v1)::c_,(k2,t2)::fs,e,r=>by
  rw[aK,aK]at e;injection e with e1 e2
  have Aa:k1=k2:=e1;subst Aa;cases r with
  |cons hh r=>
   unfold gs rN;by_cases z:k1=f
   ·rw[ae z,ae z];exact⟨by rw[aK,aK,e2],.cons rv r⟩
   ·rw[ai z,ai z];obtain⟨p1,p2⟩:=uW rv e2 r;exact⟨by rw[aK,aK,p1],.cons hh p2⟩
theorem lookup_some{K:PySem.W.Frag}{W:Vw}{f:Str}{c_:List (Str×V)}{fs:List (Str×Tr)}{t:Tr}(h:c_.map (·.1)=fs.map (·.1))(r:aF K W (c_.map (·.2)) (fs.map (·.2)))(e:fs.lookup f=some t):∃v,c_.lookup f=some v/\Rep K W v t:=by
 rcases ik f h r with⟨z,_⟩|⟨t',v,z,ev,rv⟩
 ·cases e.symm.trans z
 ·cases e.symm.trans z;exact⟨v,ev,rv⟩
structure di(K:PySem.W.Frag)(xs:List Str)(f:Str):Prop where
 all:∀x∈xs,yx K (clsAt K x)/\j6 K (clsAt K x) f
section
variable {X:Cx}{o e value:Expr}{f:Str}{pos pos':Pos}{xs:List Str}{F:ax->Rs Tr}{E G:ax->Ab->Rz Tr}
def iL(xs:List Str)(f:Str):Tr->Rs Tr
 |.ob x fs=>if xs.contains x=true then mr (fs.lookup f)else .bad
 |_=>.bad
theorem Gy(T:di X.K xs f)(he:PE X e (tP X F))(hb:attributeBase e f X.env (eval e X.env)=eval e X.env:=by first|exact e7 rfl|rfl):PE X (.Attribute e f pos) (tP X fun ρ=>(F ρ).bind (iL xs f)):=
 (zD he hb).weak fun σ H Q ⟨B,ρ,hb,r,q⟩=>⟨B,ρ,hb,r,q.bind.mono fun t qt v H1 s1 rv=>by
  unfold iL at qt;split at qt
  ·obtain⟨a,dx,c_,rfl,h,ek,rr⟩:=rv.vS;split at qt
   ·rename_i hx;obtain⟨t,et,k⟩:=cJ qt;have c:=T.all _ (eS.mp hx);obtain⟨v,ev,rv⟩:=lookup_some ek rr et;exact⟨a,_,dx,c_,v,rfl,cj h,c.1,c.2,ev,k v H1 s1 rv⟩
   ·exact qt.elim
  ·exact qt.elim⟩
def qG(xs:List Str)(f:Str)(r:Rz Tr):Rz Tr:=r.bind fun t A=>match t with
 |.at i=>match A[i]? with
  |some (.ins x fs)=>if xs.contains x=true then bw (mr (fs.lookup f)) A else .bad
  |_=>.bad
 |_=>.bad
theorem Gz(T:di X.K xs f)(he:PE X e (tE X G))(hb:attributeBase e f X.env (eval e X.env)=eval e X.env:=by first|exact e7 rfl|rfl):PE X (.Attribute e f pos) (tE X fun ρ A=>qG xs f (G ρ A)):=
 (zD he hb).weak fun σ H Q ⟨B,A,ρ,ha,r,n,q⟩=>⟨B,A,ρ,ha,r,n,q.bind.mono fun t A1 qt v B1 H1 g1 iU rv=>by
  split at qt
  ·obtain⟨a,rfl,jS⟩:=rv.ia;split at qt
   ·rename_i eo;obtain⟨hx,q2⟩:=eP qt;obtain⟨_,dx,c_,h1,_,_,h4,h5⟩:=iU.get jS eo;have c:=T.all _ (eS.mp hx);obtain⟨t,et,k⟩:=cJ (lL (X:=X) (H:=H1) q2);obtain⟨v,ev,rv⟩:=lookup_some h4 h5 et;exact⟨a,_,dx,c_,v,rfl,h1,c.1,c.2,ev,k v B1 H1 g1 iU rv⟩
   ·exact qt.elim
  ·exact qt.elim⟩
def Ky(xs:List Str)(f:Str)(v:Rz Tr)(o:Ab->Rz Tr)(ρ:ax):Rz Out:=v.bind fun tv A=>(o A).bind fun t A=>match t with
 |.at i=>match A[i]? with
  |some (.ins x fs)=>if xs.contains x=true/\fs.length<1000 then .ok (.nx ρ) (A.set i (.ins x (rN f tv fs)))else .bad
  |_=>.bad
 |_=>.bad
theorem Kz(T:di X.K xs f)(ho:PE X o (tE X G))(hv:PE X value (tE X E)):PS X (.Assign [.Attribute o f pos'] value pos) (tZ X fun ρ A=>Ky xs f (E ρ A) (G ρ) ρ):=
 (E3 ho hv y3).weak fun D σ H ⟨B0,H0,B,A,ρ,hb,g,ha,r,n,q⟩=>fX hb g ha r n q.bind fun tv A1 v B1 H1 q1 g1 iU r1 rv _=>fX hb g1 iU r1 n (dE.bind q1) fun t A2 w B2 H2 q2 g2 ky r2 j7 KA=>by
  split at q2
  ·obtain⟨a,rfl,jS⟩:=j7.ia;split at q2
   ·rename_i i _ x fs eo;obtain⟨⟨hx,hl⟩,q3⟩:=eP q2;obtain⟨hd,dx,c_,h1,h2,h3,h4,h5⟩:=ky.get jS eo;have c:=T.all x (eS.mp hx);have hlen:c_.length=fs.length:=by have:=bE List.length h4;rw[aE,aE]at this;exact this
    obtain⟨p1,p2⟩:=uW (f:=f) (rv.same KA.fF) h4 h5;have NL:dx≠a:=fun z=>by rw[z,show B2.ix a=some i from jS]at h3;cases h3
    obtain⟨g3,h6⟩:=ky.write (o:=.ins x (rN f tv fs)) (u:=.ins (clsAt X.K x) dx (gs f v c_)) jS ⟨hd,dx,_,aP,by rw[aA NL];exact h2,h3,p1,by rw[e8 hd];exact p2⟩;exact⟨a,_,dx,c_,rfl,h1,c.1,c.2,by rw[hlen];exact hl,q3 σ B2 _ (g2.trans hb g3) h6 (r2.grow n g3) n⟩
   ·exact q2.elim
  ·exact q2.elim
end
end L2
namespace L2
open PySem PySem.Spec PyProof.Rows
theorem C6{X:Cx}{H:Hp}{xc:Tr->Ab->Prop}{r:Rs Tr}{A:Ab}{k:Tr->Ab->Prop}(q:dE xc (ie r A) k):Fi X H r fun t=>Bz t=true/\k t A:=by
 cases r with
 |ok t=>exact eP q
 |exc c=>exact(show False from q).elim
 |bad=>exact q
section
variable {X:Cx}{a b o i e value:Expr}{es:List Expr}{pos pos' p apos bj:Pos}{F G E:ax->Ab->Rz Tr}{L:ax->Ab->Rz (List Tr)}{h:Tr->Tr->Rs Tr}
def C7(h:Tr->Tr->Rs Tr)(a:Rz Tr)(b:Ab->Rz Tr):Rz Tr:=a.bind fun x A=>(b A).bind fun y A=>ie (h (az 1 A x) (az 1 A y)) A
theorem y4{σ:St}{H:Hp}{Q:VK}(q:tE X (fun ρ A=>C7 h (F ρ A) (G ρ)) σ H Q):EN (rT X h) (tE X F) (tE X G) σ H Q:=by
 obtain⟨B,A,ρ,ha,r,n,q⟩:=q;refine⟨B,A,ρ,ha,r,n,q.bind.mono fun x A1 qx v B1 H1 g1 iU rv=>⟨B1,A1,ρ,iU,r.grow n g1,n,((dE.bind qx).imp fun c A' z=>z.grow ha.hb g1).mono fun y A2 qy u B2 H2 g2 ky ru=>?_⟩⟩;refine⟨B2.un,az 1 A2 x,az 1 A2 y,xF ky.hb,eD ky 1 (rv.same g2.fF),eD ky 1 ru,(C6 qy).mono fun t ⟨ft,k⟩ w H3 s3 j7=>?_⟩;exact k w B2 H3 ((g1.trans ha.hb g2).trans ha.hb (.of s3)) (ky.same s3) (rq (ky.same s3) j7 ft)
theorem Ol(hu:X.A.units+1<cLine)(h1:PE X a (tE X F))(h2:PE X b (tE X G))(hs:fV b:=by exact fun _ _=>rfl):PE X (.Subscript a b pos) (tE X fun ρ A=>C7 pj (F ρ A) (G ρ)):=(w_ (JP hu) h1 h2 hs).weak fun _ _ _ q=>y4 q
def AJ(A:Ab)(t tk tv:Tr):Option Ab:=match t,jg tk with
 |.at i,some k=>match A[i]? with
  |some (.a8 av)=>if av.length<iS then some (A.set i (.a8 (yN av k tv)))else none
  |_=>none
 |_,_=>none
def KC(v:Rz Tr)(o k:Ab->Rz Tr)(ρ:ax):Rz Out:=v.bind fun tv A=>(o A).bind fun t A=>(k A).bind fun tk A=>match AJ A t tk tv with
 |some A'=>.ok (.nx ρ) A'
 |none=>.bad
theorem bJ.length {K:PySem.W.Frag}{W:Vw}{ah:List (Key×V)}{av:List (Key×Tr)}(h:bJ K W ah av):ah.length=av.length:=by
 have e:=bE List.length h.keys;rw[aE,aE]at e;exact e
theorem wu{A A':Ab}{t tk tv:Tr}(e:AJ A t tk tv=some A'):∃j av key,t=.at j/\jg tk=some key/\A[j]?=some (.a8 av)/\av.length<iS/\A'=A.set j (.a8 (yN av key tv)):=by
 unfold AJ at e;split at e
 ·rename_i ek;split at e
  ·rename_i eo;split at e
   ·rename_i hl;cases e;exact⟨_,_,_,rfl,ek,eo,hl,rfl⟩
   ·cases e
  ·cases e
 ·cases e
theorem GA(hu:X.A.units+1<cLine)(ho:PE X o (tE X F))(hi:PE X i (tE X G))(hv:PE X value (tE X E)):
  PS X (.Assign [.Subscript o i pos'] value pos) (tZ X fun ρ A=>KC (E ρ A) (F ρ) (G ρ) ρ):=
 (xi hu ho hi hv rL).weak fun D σ H ⟨B0,H0,B,A,ρ,hb,g,ha,r,n,q⟩=>fX hb g ha r n q.bind fun tv A1 v B1 H1 q1 g1 iU r1 rv _=>fX hb g1 iU r1 n (dE.bind q1) fun t A2 w B2 H2 q2 g2 ky r2 j7 KA=>fX hb g2 ky r2 n (dE.bind q2) fun tk A3 y B3 H3 q3 g3 v9 r3 ry KD=>by
  have Om:=j7.same KD.fF;have Oo:=(rv.same KA.fF).same KD.fF;split at q3
  ·rename_i ed;obtain⟨j,av,key,rfl,ek,eo,hl,rfl⟩:=wu ed;obtain⟨c,rfl,jS⟩:=Om.ia;obtain⟨hd,ah,h1,h2⟩:=v9.get jS eo;cases ib ry ek;obtain⟨g4,h6⟩:=v9.write (o:=.a8 (yN av key tv)) (u:=.dK (putK ah key v)) jS ⟨hd,_,aP,by rw[e8 hd];exact h2.put key Oo⟩;exact⟨c,_,rfl,ue.k h1 (by rw[h2.length,<-fo];exact hl),q3 σ B3 _ (g3.trans hb g4) h6 (r3.grow n g4) n⟩
  ·exact q3.elim
end
end L2
namespace L2
open PySem PySem.Spec PyProof.Rows
def xR(av:List (Key×Tr))(k:Key):List (Key×Tr):=av.filter fun kv=>decide (kv.1≠k)
theorem bJ.drop {K:PySem.W.Frag}{W:Vw}(k:Key):∀{ah:List (Key×V)} {av:List (Key×Tr)},bJ K W ah av->bJ K W (mI ah k) (xR av k)
 |[],[],_=>.nil
 |[],_::_,h=>by cases h.keys
 |_::_,[],h=>by cases h.keys
 |(k1,v1)::ah,av,h=>by
  obtain⟨t,r,rfl,rv,hr⟩:=h.inv;have ih:=bJ.drop k hr;unfold mI xR at ih⊢;by_cases z:k1=k
  ·rw[nX (by simp[z]),nX (by simp[z])];exact ih
  ·rw[nY (by simp[z]),nY (by simp[z])];exact .cons rv ih
def wx(A:Ab)(i:Nat):Bool:=match A[i]? with
 |some (.a8 _)=>true
 |_=>false
theorem nO{K:PySem.W.Frag}{B:br}{A:Ab}{H:Hp}{a:Addr}{i:Nat}(ha:HA K B A H)(e:B.ix a=some i)(h:wx A i=true):∃av ah,A[i]?=some (.a8 av)/\B.hd a=true/\H a=some (.dK ah)/\bJ K (aT B H) ah av:=by
 obtain⟨o,eo,ao⟩:=ha.ex e;unfold wx at h;rw[eo]at h;cases o with
 |a8 av=>obtain⟨hd,ah,h1,h2⟩:=ao;exact⟨av,ah,eo,hd,h1,h2⟩
 |lst _=>cases h
 |dB _=>cases h
 |By _=>cases h
 |tb _ _=>cases h
 |ins _ _=>cases h
def RU{α:Type}(o:Rz Tr)(k:Ab->Rz Tr)(f:Nat->Key->Ab->Rz α):Rz α:=o.bind fun t A=>match t with
 |.at i=>if wx A i=true then(k A).bind fun tk A=>match jg tk with
  |some key=>f i key A
  |none=>.bad
  else .bad
 |_=>.bad
def uX(A:Ab)(i:Nat):List (Key×Tr):=match A[i]? with
 |some (.a8 av)=>av
 |_=>[]
section
variable {X:Cx}{o e f:Expr}{es:List Expr}{p pos apos bj:Pos}{F G E:ax->Ab->Rz Tr}{L:ax->Ab->Rz (List Tr)}
theorem xT{A:Ab}{i:Nat}{av:List (Key×Tr)}(h:A[i]?=some (.a8 av)):uX A i=av:=by unfold uX;rw[h]
def Eg(o:Rz Tr)(k x:Ab->Rz Tr):Rz Tr:=RU o k fun i key A=>(x A).bind fun tx A=>if wx A i=true then match gD (uX A i) key with
 |some v=>.ok v (A.set i (.a8 (xR (uX A i) key)))
 |none=>.ok tx A
 else .bad
theorem GB(ho:PE X o (tE X F))(he:PE X e (tE X G))(hf:PE X f (tE X E))(hb:isCall o=false:=by rfl) (bx:aI [e,f]=true:=by rfl) (hl:(apos.endLine==bj.line)=true:=by rfl):PE X (.Call (.Attribute o "pop" apos) [e,f] [] bj) (tE X fun ρ A=>Eg (F ρ A) (G ρ) (E ρ)):=
 (zQ ho he hf (JU hb bx hl)).weak fun σ H Q ⟨B,A,ρ,ha,r,n,q⟩=>⟨B,A,ρ,ha,r,n,q.bind.mono fun t A1 qt v B1 H1 g1 iU rv=>by
  split at qt
  ·obtain⟨a,rfl,jS⟩:=rv.ia;rename_i i;obtain⟨hd,q2⟩:=eP qt;obtain⟨av,ah,e1,e2,e3,e4⟩:=nO iU jS hd;refine⟨a,rfl,.inl ⟨_,.inl e3⟩,B1,A1,ρ,iU,r.grow n g1,n,((dE.bind q2).imp fun c A' z=>z.grow ha.hb g1).mono fun tk A2 qk y B2 H2 g2 ky ry=>?_⟩;have Mn:=g1.trans ha.hb g2;cases ek:jg tk with
   |none=>simp only[ek]at qk;exact(show False from qk).elim
   |some key=>
    simp only[ek]at qk;refine⟨B2,A2,ρ,ky,r.grow n Mn,n,((dE.bind qk).imp fun c A' z=>z.grow ha.hb Mn).mono fun tx A3 qx z B3 H3 g3 v9 rz=>?_⟩;have KG:=g3.fF.x _ _ (g2.fF.x _ _ jS);obtain⟨RV,q3⟩:=eP qx;obtain⟨Oq,KH,f1,f2,f3,f4⟩:=nO v9 KG RV;rw[xT f1]at q3;have ey:=ib ry ek;subst ey;refine⟨KH,key,f3,rfl,fun w ev=>?_,fun ev=>?_⟩
    ·rcases lH key f4.keys f4.vals with⟨_,z2⟩|⟨t,w2,z2,KI,j7⟩
     ·rw[ev]at z2;cases z2
     ·rw[ev]at KI;cases KI;simp only[z2]at q3;obtain⟨g4,h6⟩:=v9.write (o:=.a8 (xR Oq key)) (u:=.dK (mI KH key)) KG ⟨f2,_,aP,by rw[e8 f2];exact f4.drop key⟩;exact q3 w B3 _ ((Mn.trans ha.hb g3).trans ha.hb g4) h6 (by rw[e8 f2];exact j7)
    ·rcases lH key f4.keys f4.vals with⟨z1,_⟩|⟨t,w2,z2,KI,_⟩
     ·simp only[z1]at q3;exact q3 z B3 H3 (Mn.trans ha.hb g3) v9 rz
     ·rw[ev]at KI;cases KI
  ·exact qt.elim⟩
variable {c:Str}{h:List Tr->Ab->Rz Tr}{fa:Addr}{fd:FuncData}{ps:List Str}{k:Nat}
def lO(c:Str)(h:List Tr->Ab->Rz Tr)(l:Rz (List Tr)):Rz Tr:=l.bind fun ts A=>(h (.at A.length::ts) (A++[.ins c []])).bind fun t A'=>if JN t=true then .ok (.at A.length) A' else .bad
structure pJ(K:PySem.W.Frag)(mg:Str->Option Value)(c:Str)(ps:List Str)(fa:Addr)(fd:FuncData):Prop where
 KJ:Mk K (clsAt K c) fa
 bd:Binds K fd ps []
 mg:mg c=some (.ref (clsAt K c))
theorem xU{B B1:br}{H H1:Hp}{A1:Ab}{vs:List V}{ts:List Tr}{Q:VK}(hb:HB B H)(g:Grows B H B1 H1)(ha:HA X.K B1 A1 H1)(rs:aF X.K (aT B1 H1) vs ts)
  (q:dE (XE X B H) ((h (.at A1.length::ts) (A1++[.ins c []])).bind fun t A'=>if JN t=true then .ok (.at A1.length) A' else .bad) fun t A'=>∀v B' H',Grows B H B' H'->HA X.K B' A' H'->Rep X.K (aT B' H') v t->Q v H')
  (x dx:Addr) (h1:H1 x=none) (h2:H1 dx=none) (h3:dx≠x):pI X.K h (.ref x::vs) (upd (upd H1 dx (.own x)) x (.ins (clsAt X.K c) dx [])) (fun v H2=>v=.a_/\Q (.ref x) H2) (EX X):=by
 have s1:ar H1 (upd (upd H1 dx (.own x)) x (.ins (clsAt X.K c) dx [])):=((ar.upd h2).trans (ar.upd (by rw[aA (bt h3)];exact h1)));obtain⟨g1,iU⟩:=ha.push (p:=x) (o:=.ins c []) h1 s1 ⟨lI,dx,[],aP,by rw[aA h3,aP],by rw[dq h3];exact ha.free h2,rfl,.nil⟩;refine⟨_,_,_,iU,.cons (.at d_) (rs.same g1.fF),((dE.bind q).imp fun c A' z=>z.grow hb (g.trans hb g1)).mono fun t A' z v B' H' g' gz rv=>?_⟩;obtain⟨hn,z2⟩:=eP z;refine⟨?_,z2 (.ref x) B' H' ((g.trans hb g1).trans hb g') gz (.at (g'.fF.x _ _ d_))⟩;have e:=sE rv;rw[hn]at e;exact bY e
theorem GC(D:pJ X.K X.mg c ps fa fd)(G:cf X.prog X.w X.K X.mg X.base (nc X.prog X.w) k fa fd ps (pI X.K h))(hr:bq (k+1) X.A)(ha:PA X (e::es) (CM X L))(hx:X.ex=[]:=by rfl) (hg:Gl X c:=by rfl) (dG:(c==("__debug__":Str))=false:=by decide) (bx:aI (e::es)=true:=by rfl):
  PE X (.Call (.Name c p) (e::es) [] pos) (tE X fun ρ A=>lO c h (L ρ A)):=
 (BS (p:=p) (pos:=pos) D.KJ G hr hg D.mg D.bd .nil (gF hx) ha (dG:=dG) (he:=aX _ _ (aD bx).1) (jF:=bu (aD bx).2)).weak fun σ H Q ⟨B,A,ρ,ha,r,n,q⟩=>⟨B,A,ρ,ha,r,n,q.bind.mono fun ts A1 qt vs B1 H1 g1 iU rs x dx h1 h2 h3=>by
  show pI X.K h (.ref x::(vs++[])) _ _ _;rw[dY];exact xU ha.hb g1 iU rs qt x dx h1 h2 h3⟩
theorem C8(D:pJ X.K X.mg c ps fa fd)(G:cf X.prog X.w X.K X.mg X.base (nc X.prog X.w) k fa fd ps (pI X.K h))(hr:bq (k+1) X.A)(hx:X.ex=[]:=by rfl) (hg:Gl X c:=by rfl) (dG:(c==("__debug__":Str))=false:=by decide):
  PE X (.Call (.Name c p) [] [] pos) (tE X fun _ A=>lO c h (.ok [] A)):=
 (zE (p:=p) (pos:=pos) D.KJ G hr hg D.mg D.bd .nil (gF hx) (dG:=dG)).weak fun σ H Q ⟨B,A,ρ,ha,r,n,q⟩ x dx h1 h2 h3=>xU (vs:=[]) (ts:=[]) ha.hb .refl ha .nil q x dx h1 h2 h3
end
end L2
namespace L2
open PySem PySem.Spec PyProof.Rows
theorem a4.none {K:PySem.W.Frag}{B:br}{H:Hp}{σ:St}:a4 K B H σ (List.replicate σ.length .no):=by
 have no:∀(i:Nat) (c:Cell),(List.replicate σ.length Cell.no)[i]?=some c->c=.no:=fun i c e=>by
  rw[nV]at e;split at e
  ·exact(Option.some.inj e).symm
  ·cases e
 exact⟨kA,(fun i t e=>by cases no i _ e),(fun i ts e=>by cases no i _ e),(fun i j ts us D _ e=>by cases no i _ e)⟩
end L2
namespace L2
open PySem PySem.Spec PyProof.Rows
structure xV(K:PySem.W.Frag)(mg:Str->Option Value)(c:Str)(xs:List Str):Prop where
 mg:mg c=some (.ref (clsAt K c))
 all:∀x∈xs,PySem.W.exmOne K (.ref (clsAt K x)) (.ref (clsAt K c))=some true
end L2
namespace L2
open PySem PySem.Spec PyProof.Rows
section
variable {X:Cx}{o e f:Expr}{es:List Expr}{p pos apos bj:Pos}{F G E:ax->Ab->Rz Tr}{L:ax->Ab->Rz (List Tr)}{keys:List (Option Expr)}{vals:List Expr}{P:ax->Ab->Rz (List (Tr×Tr))}
structure GD(X:Cx)(pos:Pos)(keys:List (Option Expr))(vals:List Expr)(P:ax->Ab->Rz (List (Tr×Tr))):Prop where
 h:∃sy,HN X pos keys vals sy/\∀σ H Q,(∃B A ρ,HA X.K B A H/\a4 X.K B H σ ρ/\dD ρ/\dE (XE X B H) (P ρ A) fun F4 A'=>∀CK B' H',Grows B H B' H'->HA X.K B' A' H'->uC X.K (aT B' H') CK F4->Q CK H')->oY sy σ H Q
theorem AK:GD X pos [] [] fun _ A=>.ok [] A:=⟨[],xj,fun σ H Q ⟨B,A,ρ,ha,r,n,q⟩=>q [] B H .refl ha .nil⟩
def Eh(k:Rz Tr)(v:Ab->Rz Tr)(r:Ab->Rz (List (Tr×Tr))):Rz (List (Tr×Tr)):=k.bind fun x A=>(v A).bind fun y A=>(r A).bind fun ps A=>.ok ((x,y)::ps) A
theorem AL{k v:Expr}(hk:PE X k (tE X F))(hv:PE X v (tE X G))(hr:GD X pos keys vals P):GD X pos (some k::keys) (v::vals) fun ρ A=>Eh (F ρ A) (G ρ) (P ρ):=by
 obtain⟨sy,h1,h2⟩:=hr.h;refine⟨_,ui hk hv h1,fun σ H Q ⟨B,A,ρ,ha,r,n,q⟩=>?_⟩;refine⟨B,A,ρ,ha,r,n,(dE.bind q).mono fun x A1 qx u B1 H1 g1 iU r1=>⟨B1,A1,ρ,iU,r.grow n g1,n,((dE.bind qx).imp fun c A' z=>z.grow ha.hb g1).mono fun y A2 qy w B2 H2 g2 ky r2=>h2 _ _ _ ⟨B2,A2,ρ,ky,(r.grow n g1).grow n g2,n,((dE.bind qy).imp fun c A' z=>z.grow ha.hb (g1.trans ha.hb g2)).mono fun ps A3 qp CK B3 H3 g3 v9 r3=>?_⟩⟩⟩;exact qp _ B3 H3 ((g1.trans ha.hb g2).trans ha.hb g3) v9 (.cons ((r1.same g2.fF).same g3.fF) (r2.same g3.fF) r3)
def P9(A:Ab)(i:Nat):Bool:=match A[i]? with
 |some (.a8 [])=>true
 |_=>false
def KL(P:Ab->Rz (List (Tr×Tr)))(A:Ab):Rz Tr:=(P (A++[.a8 []])).bind fun ps A2=>if ps.length<=15/\P9 A2 A.length=true then(bw (pq ps) A2).bind fun av A2=>.ok (.at A.length) (A2.set A.length (.a8 (gc [] av)))else .bad
theorem C9(h:GD X pos keys vals P)(o4:keys.all (·.isSome)=true:=by rfl) (hl:keys.length=vals.length:=by rfl) (h0:keys.isEmpty=false:=by rfl) (yA:keys.length<=15:=by decide):PE X (.Dict keys vals pos) (tE X fun ρ A=>KL (P ρ) A):=by
 obtain⟨sy,h1,h2⟩:=h.h;refine(xk h1 o4 hl (fun z=>by rw[z]at h0;cases h0) yA).weak fun σ H Q ⟨B,A,ρ,ha,r,n,q⟩ p hp=>?_
 obtain⟨g1,iU⟩:=ha.push (p:=p) (o:=.a8 []) hp (ar.upd (o:=.dK []) hp) ⟨lI,[],aP,.nil⟩;have jS:(ke B p A.length).ix p=some A.length:=d_;refine h2 σ _ _ ⟨_,_,ρ,iU,r.grow n g1,n,((dE.bind q).imp fun c A' z=>z.grow ha.hb g1).mono fun F4 A2 qp CK B2 H2 g2 ky r2=>?_⟩;obtain⟨⟨hz,he⟩,qp⟩:=eP qp;have y6:=g2.fF.x _ _ jS;have RX:A2[A.length]?=some (.a8 []):=by
  unfold P9 at he;split at he
  ·assumption
  ·cases he
 obtain⟨hd,P_,e0,RY⟩:=(show kc X.K B2 H2 p (.a8 [])from ky.get y6 RX);have RZ:P_=[]:=by
  have e:=RY.keys;cases P_ with
  |nil=>rfl
  |cons a b=>cases e
 subst RZ;cases ep:pq F4 with
 |ok av=>
  rw[ep]at qp;obtain⟨ah,AM,k1,e1,rd⟩:=rj (X:=X) (H0:=H2) (k:=fun z=>z=av) r2 (by rw[ep];rfl);subst k1;refine⟨e0,ah,e1,?_,?_⟩
  ·have e2:=bE List.length e1;rw[aE,r2.length]at e2;rw[<-e2];exact hz
  ·obtain⟨g4,h6⟩:=ky.write (o:=.a8 (gc [] AM)) (u:=.dK (dH [] ah)) y6 ⟨hd,_,aP,by rw[e8 hd];exact bJ.merge rd bJ.nil⟩;exact(show∀v B' H',Grows B H B' H'->HA X.K B' (A2.set A.length (.a8 (gc [] AM))) H'->Rep X.K (aT B' H') v (.at A.length)->Q v H' from qp) (.ref p) B2 _ ((g1.trans ha.hb g2).trans ha.hb g4) h6 (.at y6)
 |exc c=>rw[ep]at qp;exact(show False from qp).elim
 |bad=>rw[ep]at qp;exact(show False from qp).elim
end
end L2
namespace L2
open PySem PySem.Spec PyProof.Rows
section
variable {X:Cx}{a b e:Expr}{es:List Expr}{pos:Pos}{F G:ax->Rs Tr}{L:ax->Rs (List Tr)}{A:ax->Rs Bool}{scope:Scope}{N':List Str}{ix:List (Option Nat)}{elt iter tg:Expr}{ifs:List Expr}{T:kx}{W:ax->Rs (List Tr)}
theorem wy{σ:St}{H:Hp}{Q:VK}(hT:fG T)(q:tF X (fun ρ=>mM ix T A F (W ρ) ρ) σ H Q):HP (tJ X W) ix (D3 X.K T) (D2 X.K A) (D1 X.K F) σ H (fun v H'=>fw X H' (Q v)):=by
 obtain⟨B,ρ,hb,r,q⟩:=q;refine⟨B,ρ,hb,r,q.bind.mono fun ts qt J H1 tf gt D hD=>?_⟩;by_cases hz:ts.length<=iS
 ·rw[ae hz]at qt;exact nL hT (nK ix ρ) (tf.hb hb) gt hz ((tf.Am r).comp ix (fq hD)) hD (Fi.bind qt) fun ys H' k s' rp=>by
   obtain⟨Hu,su,ru,ku⟩:=tf.Eb hb s';exact ku _ (k _ Hu su (ru rp) fun p e=>by cases e;exact .lst (tf.free hD) (ru rp))
 ·rw[ai hz]at qt;exact qt.elim
theorem AN{i:Nat}{x:Str}{px lB:Pos}(Lk:dI X N' ix scope)(hit:PI X tg iter (tJ X W))(kq:D4 X scope N' tg elt ifs T A F)(hT:fG T)(hN:X.N.Nodup:=by assumption) (hc:X.calm=true:=by rfl) (hi:X.N[i]?=some x:=by rfl) (hx:Loc X.env.scope x:=by first|exact Or.inl rfl|exact Or.inr rfl)
  (Cf:swapsWith (.ListComp elt [⟨tg,iter,ifs,0⟩] scope pos) (some (.Name x px)) lB.line X.env=pure true:=by rfl) (hs:isSet iter=false:=by rfl) (hf:X.fn x=true\/X.env.scope.names.lookup x=some .local:=by first|exact .inl rfl|exact .inr rfl|assumption):
  PS X (.Assign [.Name x px] (.ListComp elt [⟨tg,iter,ifs,0⟩] scope pos) lB) (tZ X fun ρ A'=>ig i (kf (mM ix T A F (W (aM A' ρ)) (aM A' ρ)) A') ρ):=
 (uk Lk hc hN hi hx hit kq.JH Cf (fc hs) hf).Kd.weak fun D σ H ⟨B0,H0,B,A',ρ,hb,g,ha,r,n,q⟩=>wy (Q:=fun v H'=>D.nx (σ.set i (some v)) H') hT (kg (F:=fun ρ=>mM ix T A F (W ρ) ρ) (fX (F:=fun ρ A'=>kf (mM ix T A F (W (aM A' ρ)) (aM A' ρ)) A') hb g ha r n q.bind fun t A2 v B' H' qt g' gz r' rv _=>qt _ B' H' g' gz (r'.set i rv) (n.set i t)))
end
end L2
namespace L2
open PySem PySem.Spec PyProof.Rows
section
variable {X:Cx}{a b e:Expr}{es:List Expr}{pos:Pos}{F:ax->Ab->Rz Tr}{P:ax->Ab->Rz Bool}{c n:Str}{tp hp:Pos}{xs:List Str}{i:Nat}{body KN:List Stmt}{Ot:Stmt}{G G2:ax->Ab->Rz Out}
variable {st:Stmt}
theorem KO:PE X a (tP X fun _=>.bad):=fun _ _ _ _ _ _ ⟨_,_,_,_,q⟩=>(show False from q).elim
theorem KQ:PS X st (tS X fun _=>.bad):=fun _ _ _ _ _ _ ⟨_,_,_,_,_,_,_,q⟩=>(show False from q).elim
end
end L2
namespace L2
open PySem PySem.Spec PySem.Calls PyProof.Rows PySem.W
structure KR(K:Frag)(D:Addr):Prop where
 ga:findIn K (.ref D) "__getattribute__"=some (some (.builtin "BaseException.__getattribute__"))
 gh:findIn K (.ref D) "__getattr__"=some none
 cl:findIn K (.ref D) "__class__"=some (some (.builtin "object.__class__"))
 ob:mroIn K D (.type "object")=some true
 be:mroIn K D (.type "BaseException")=some true
structure Ei(K:Frag)(u:Value)(tab:List (Str×Bool)):Prop where
 all:∀x b,tab.lookup x=some b->kitOne K (.ref (clsAt K x)) u=some b/\KR K (clsAt K x)/\(clsIn K (clsAt K x)).isSome=true
end L2
set_option maxRecDepth 6000
namespace L2
open PySem PySem.Spec PySem.Calls PyProof.Rows
def jq:List Tr->Option (List Int)
 |[]=>some []
 |.int i::ts=>(jq ts).map fun r=>i::r
 |_=>none
theorem my{K:PySem.W.Frag}{W:Vw}:∀{vs:List V} {ts:List Tr} {ns:List Int},aF K W vs ts->jq ts=some ns->vs=ns.map V.int
 |[],[],ns,_,e=>by cases e;rfl
 |[],_::_,_,h,_=>by cases h
 |v::vs,ts,ns,h,e=>by
  cases h with
  |cons h r=>
   cases h with
   |int i=>
    rename_i ts;have e':(jq ts).map (fun r=>i::r)=some ns:=e;cases q:jq ts with
    |none=>rw[q]at e';cases e'
    |some rs=>
     rw[q]at e';cases e';rw[my r q];rfl
   |_=>cases e
def xW(ns:List Int):Int:=ns.getD (argBest (fun i j=>decide (ns.getD i 0>ns.getD j 0)) (ns.length - 1)) 0
def GF:List Tr->Rs Tr
 |[.lst ts]=>match jq ts with
  |some ns=>if 0<ns.length then .ok (.int (xW ns))else .bad
  |none=>.bad
 |[.int i,.int j]=>.ok (.int (if j>i then j else i))
 |_=>.bad
section
variable {X:Cx}
theorem y8(hc:X.calm=true):cV X (.builtin "max") (fun xs H Q=>∃(a:Addr) (ns:List Int),xs=[.ref a]/\iF X.K H a (ns.map V.int)/\0<ns.length/\Q (.int (xW ns)) H):=by
 intro pins s σ H xs us Q I r h;obtain⟨a,ns,rfl,ha,iH,q⟩:=h;obtain⟨u,rfl,ru⟩:=vals1 r;cases(show u=Value.ref a from ru);obtain⟨aV,rv,pl,_⟩:=I.list ha;have hlen:aV.length=ns.length:=by have e:=rv.length;rw[aE]at e;exact e.symm
 have CY:∀(i:Nat) (v:Value),aV.toArray[i]?=some v->∃t,v=.int (ns.getD i 0) t:=fun i v hv=>by
  have E2:aV[i]?=some v:=by simpa using hv
  have hi:i<ns.length:=by rw[<-hlen];exact(cG.mp E2).1
  obtain⟨u,hu,ru⟩:=rv.get (i:=i) (x:=V.int ns[i]) (by rw[bb,bp hi];rfl);rw[E2]at hu;cases hu;obtain⟨t,rfl⟩:=(show∃t,v=Value.int ns[i] t from ru);exact⟨t,by rw[kz,bp hi];rfl⟩
 have Ou:=pl.isList;have jc:a<s.heap.objs.size:=by obtain⟨_,e,_⟩:=Ou;exact aH e
 refine call_max_walk (kT Ou ?_);refine⟨_,_,_,_,_,_,_,rfl,Walks.list (A:=X.A.in1) (I.ok.hd hc) _ a (bc jc) aV.toArray,⟨⟨_,bg _ rfl,rfl,rfl⟩,Ou.push _⟩,fun b hb=>?_,by simpa[hlen]using iH,CmpOf.ints_gt (fun i=>ns.getD i 0) CY,fun v h' tk hP hk=>?_⟩
 ·show b<(s.heap.push _).objs.size;rw[hU];rcases aY.mp hb with rfl|hb
  ·exact kJ _
  ·rw[dW.mp hb];exact jD jc
 ·obtain⟨t,rfl⟩:=CY _ v hP;have e:aV.toArray.size=ns.length:=by rw[a7];exact hlen
  rw[e];refine⟨.int (xW ns),H,I.kept (t':=tk) fun b o e=>?_,⟨t,rfl⟩,q⟩;refine hk b o (fun hm=>?_) (aQ _ e);rw[dW.mp hm]at e;exact absurd (aH e) (cx _)
theorem AO{H:Hp}{ts:List Tr}{k:Tr->Prop}(q:Fi X H (GF ts) k):(∃us ns,ts=[.lst us]/\jq us=some ns/\0<ns.length/\k (.int (xW ns)))\/∃i j:Int,ts=[.int i,.int j]/\k (.int (if j>i then j else i)):=by
 unfold GF at q;split at q
 ·rename_i us;cases e:jq us with
  |none=>rw[e]at q;exact(show False from q).elim
  |some ns=>
   rw[e]at q;obtain⟨h0,z⟩:=eB q;exact .inl ⟨us,ns,rfl,e,h0,z⟩
 ·exact .inr ⟨_,_,rfl,q⟩
 ·exact(show False from q).elim
theorem KU(hc:X.calm=true):lD X (.builtin "max") GF:=by
 intro pins s σ H xs us Q I rv ⟨B,ts,hb,r,q⟩;rcases AO q with⟨uz,ns,rfl,e,h0,k⟩|⟨i,j,rfl,k⟩
 ·obtain⟨x,rfl,h⟩:=eO r;obtain⟨a,vs,rfl,h,rr⟩:=h.lst_inv;cases my rr e;exact y8 hc pins s σ H _ us Q I rv ⟨_,ns,rfl,.of (cj h),h0,k _ H (ar.refl H) (.int _)⟩
 ·obtain⟨x,y,e,h1,h2⟩:=DY r;exact yu hc pins s σ H _ us Q I rv ⟨i,j,by rw[e,h1.int_inv,h2.int_inv],k _ H (ar.refl H) (.int _)⟩
def dv:Tr->Rs Tr
 |.lst ts=>match pH ts with
  |some ss=>if ss.length<64 then .ok (.lst ((jl (bG [] ss)).map .str))else .bad
  |none=>match jq ts with
   |some ns=>if(bG [] ns).length<64/\ns.length<4000 then .ok (.lst ((sortI (bG [] ns)).map .int))else .bad
   |none=>.bad
 |_=>.bad
variable {l:Expr}{p1 p2 AH uU:Pos}{F:ax->Rs Tr}
theorem uY{H:Hp}{t:Tr}{k:Tr->Prop}(q:Fi X H (dv t) k):∃ts,t=.lst ts/\((∃ss,pH ts=some ss/\ss.length<64/\k (.lst ((jl (bG [] ss)).map .str)))\/∃ns,jq ts=some ns/\(bG [] ns).length<64/\ns.length<4000/\k (.lst ((sortI (bG [] ns)).map .int))):=by
 unfold dv at q;split at q
 ·rename_i ts;refine⟨ts,rfl,?_⟩;split at q
  ·obtain⟨h0,z⟩:=eB q;exact .inl ⟨_,by assumption,h0,z⟩
  ·split at q
   ·obtain⟨h0,z⟩:=eB q;exact .inr ⟨_,by assumption,h0.1,h0.2,z⟩
   ·exact(show False from q).elim
 ·exact(show False from q).elim
theorem pK{α:Type}[DecidableEq α]:∀(xs ss:List α),(bG ss xs).length<=ss.length+xs.length
 |[],ss=>aB _
 |x::xs,ss=>by
  have h1:=pK xs (cv ss x);have h2:=pE ss x;show(bG (cv ss x) xs).length<=_;rw[a5];omega
theorem wz{α:Type}[DecidableEq α]{ss:List α}{x z:α}:z∈cv ss x↔z∈ss\/z=x:=by
 unfold cv;split
 ·rename_i h;exact⟨.inl,fun q=>q.elim id fun e=>e▸h⟩
 ·rw[iV,dW]
theorem rO{α:Type}[DecidableEq α]:∀{xs ss:List α} {z:α},z∈bG ss xs↔z∈ss\/z∈xs
 |[],ss,z=>by simp[bG]
 |x::xs,ss,z=>by
  show z∈bG (cv ss x) xs↔_;rw[rO,wz,aY,or_assoc]
theorem GG(hs:X.mg "sorted"=none)(hm:X.mg "set"=none)(hl:PE X l (tP X F))(hc:X.calm=true:=by rfl) (hg:Gl X "sorted":=by rfl) (KW:Gl X "set":=by rfl) (bx:aI [l]=true:=by rfl):
  PE X (.Call (.Name "sorted" p1) [.Call (.Name "set" p2) [l] [] uU] [] AH) (tF X fun ρ=>(F ρ).bind dv):=
 (ub ((pG hc).or (nj hc)) hg hs rfl (nG (mf (y0 hc) KW hm rfl (nG hl sk (aX _ _ (aD bx).1)) (by decide) (by decide) (aX _ _ (aD bx).1) (bu (aD bx).2)) sk (aX _ _ rfl)) (by decide) (by decide) (aX _ _ rfl) (bu (es:=[]) rfl)).weak fun σ H Q ⟨B,ρ,hb,r,q⟩=>⟨B,ρ,hb,r,q.bind.mono fun t qt v H1 s1 rv=>by
  obtain⟨ts,rfl,qz⟩:=uY qt;obtain⟨_,vs,rfl,h,rr⟩:=rv.lst_inv;have Cc:4001<scanBound:=by decide
  rcases qz with⟨ss,e1,Gq,k⟩|⟨ns,e1,Gq,hk,k⟩
  ·obtain⟨rfl,hs⟩:=rH rr e1;refine⟨_,ss.map Sum.inr,rfl,.of (by rw[bR];exact cj h),by rw[aE];omega,fun a ha=>.inl ⟨a,bG [] ss,rfl,by rw[aP,<-km (f:=Sum.inr) fun _ _ e=>Sum.inr.inj e];rfl,?_,fun D hD=>?_⟩⟩
   ·have:=pK ss [];simp at this;omega
   ·exact k _ _ ((s1.trans (ar.upd ha)).trans (ar.upd hD)) (.vY ((hb.same s1).same (ar.upd ha)) hD (AG fun z hz=>hs z ((rO.mp hz).resolve_left (by simp)))) fun p e=>by cases e;exact .upd (s1.free ((ar.upd ha).free hD)) (fun _ _ z=>by cases z)
  ·cases my rr e1;refine⟨_,ns.map Sum.inl,rfl,.of (by rw[bR];exact cj h),by rw[aE];omega,fun a ha=>.inr ⟨a,bG [] ns,rfl,by rw[aP,<-km (f:=Sum.inl) fun _ _ e=>Sum.inl.inj e];rfl,Gq,fun D hD=>?_⟩⟩;exact k _ _ ((s1.trans (ar.upd ha)).trans (ar.upd hD)) (.vY ((hb.same s1).same (ar.upd ha)) hD qY) fun p e=>by cases e;exact .upd (s1.free ((ar.upd ha).free hD)) (fun _ _ z=>by cases z)⟩
theorem GH(hs:X.mg "sorted"=none)(hm:X.mg "set"=none)(hl:PE X l (tP X F))(hc:X.calm=true:=by rfl) (hg:Gl X "sorted":=by rfl) (KW:Gl X "set":=by rfl) (bx:aI [l]=true:=by rfl):
  PE X (.Call (.Name "sorted" p1) [.Call (.Name "set" p2) [l] [] uU] [] AH) (tP X fun ρ=>(F ρ).bind dv):=
 (GG hs hm hl hc hg KW bx).weak fun σ H Q ⟨B,ρ,hb,r,q⟩=>⟨B,ρ,hb,r,q.mono fun t qt v H' s r _=>qt v H' s r⟩
end
end L2
namespace L2
open PySem PySem.Spec PySem.Calls PyProof.Rows
section
variable {X:Cx}{o e:Expr}{p pos apos bj:Pos}{F G:ax->Ab->Rz Tr}
def Ov:V->List V->Hp->VK->Prop:=fun x xs H Q=>∃a b ah more,x=.ref a/\xs=[.ref b]/\a≠b/\H a=some (.dK ah)/\Rd H b (.dK more)/\ah.length+more.length<=sizeLine/\Q .a_ (upd H a (.dK (dH ah more)))
theorem y9:HL X "dict.update" Ov:=by
 intro pins s σ H x xs v us Q I rx rv ⟨a,b,ah,more,e1,e2,yJ,ha,hb,hz,q⟩;subst e1 e2;obtain⟨u,rfl,ru⟩:=vals1 rv;cases rx;cases(show u=Value.ref b from ru);obtain⟨z1,s1,R0,r1,d1⟩:=(show bI X.prog X.w H s.heap a (.dK ah)from I.bB a _ ha);obtain⟨z2,s2,NQ,r2,d2⟩:=(show bI X.prog X.w H s.heap b (.dK more)from hb.ok I.bB);refine call_meetsIn PySem.F.slot_dict_update d1.typeIs PySem.F.entry_dict_update (PySem.F.args_dict_update_2 _ _) (meets_dict_update (aO X.prog X.w) a b yJ s2) ⟨R0,NQ,d1,d2,by rw[<-KV.length r1,<-KV.length r2];exact hz,fun h' P' _ hs=>?_⟩;have he:∃q,h'.get? a=some q:=let⟨q,_,_,hq,_⟩:=P';⟨q,hq⟩
 have hl:(dH ah more).length<=sizeLine:=a6 (by have:=d4 more ah;omega) hz;exact⟨.a_,_,lx I (by rw[ha];exact True.intro) hs he (oX hl s1 (r2.merge r1) P'),rfl,q⟩
def KY(o:Rz Tr)(k:Ab->Rz Tr):Rz Tr:=o.bind fun t A=>match t with
 |.at i=>if wx A i=true then(k A).bind fun tk A=>match tk with
  |.a8 v8=>if wx A i=true/\(uX A i).length+v8.length<=iS then .ok .a_ (A.set i (.a8 (gc (uX A i) v8)))else .bad
  |_=>.bad
  else .bad
 |_=>.bad
theorem KZ(ho:PE X o (tE X F))(he:PE X e (tE X G))(hb:isCall o=false:=by rfl) (bx:aI [e]=true:=by rfl) (hl:(apos.endLine==bj.line)=true:=by rfl):PE X (.Call (.Attribute o "update" apos) [e] [] bj) (tE X fun ρ A=>KY (F ρ A) (G ρ)):=
 (zJ PySem.F.plainAttrs_dict PySem.F.slot_dict_update PySem.F.type_dict_update y9 ho (xH he Aj (aD bx).1) (e7 hb) (by rw[gA bx];rfl) hl (aX _ _ (aD bx).1) (bu (aD bx).2)).weak fun σ H Q ⟨B,A,ρ,ha,r,n,q⟩=>⟨B,A,ρ,ha,r,n,q.bind.mono fun t A1 qt v B1 H1 g1 iU rv=>by
  split at qt
  ·obtain⟨a,rfl,jS⟩:=rv.ia;rename_i i;obtain⟨hd,q2⟩:=eP qt;obtain⟨av,ah,e1,e2,e3,e4⟩:=nO iU jS hd;refine⟨.inr (.inr (.inl ⟨rfl,.inl ⟨_,e3⟩⟩)),B1,A1,ρ,iU,r.grow n g1,n,?_⟩;have q3:=(dE.bind q2).imp (fun c A' (z:XE X B H c A')=>z.grow ha.hb g1);have step:dE (XE X B1 H1) (b_ (G ρ A1) fun A=>.ok [] A) (fun ts A2=>∃tk,ts=[tk]/\dE (XE X B H) (match tk with
     |.a8 v8=>if wx A2 i=true/\(uX A2 i).length+v8.length<=iS then .ok .a_ (A2.set i (.a8 (gc (uX A2 i) v8)))else .bad
     |_=>.bad) fun t A'=>∀v B' H',Grows B H B' H'->HA X.K B' A' H'->Rep X.K (aT B' H') v t->Q v H'):=by
    cases eg:G ρ A1 with
    |ok x A2=>rw[eg]at q3;exact⟨x,rfl,q3⟩
    |exc c A2=>rw[eg]at q3;exact q3
    |bad=>rw[eg]at q3;exact q3
   refine step.mono fun ts A2 ⟨tk,et,qk⟩ vs B2 H2 g2 ky rs=>?_
   subst et;obtain⟨y,rfl,ry⟩:=eO rs;have y6:=g2.fF.x _ _ jS;split at qk
   ·obtain⟨b,Ow,rfl,hm,em,rm⟩:=ry.sA;rename_i v8 _;obtain⟨⟨hd2,hz⟩,q4⟩:=eP qk;obtain⟨Ox,K0,f1,f2,f3,f4⟩:=nO ky y6 hd2;rw[xT f1]at hz q4;have yJ:a≠b:=fun z=>by
     have n:(aT B2 H2).H a=none:=by show(if B2.hd a=true then none else H2 a)=none;rw[ae f2]
     rw[<-z]at hm;rcases hm with h|⟨o,h⟩<;>(rw[n]at h;cases h)
    have hlen:Ow.length=v8.length:=by have:=bE List.length em;rw[aE,aE]at this;exact this
    obtain⟨g4,h6⟩:=ky.write (o:=.a8 (gc Ox v8)) (u:=.dK (dH K0 Ow)) y6 ⟨f2,_,aP,by rw[e8 f2];exact bJ.merge ⟨em,rm⟩ f4⟩;exact⟨a,b,K0,Ow,rfl,rfl,yJ,f3,hm.same aR,by rw[f4.length,hlen,<-fo];exact hz,q4 .a_ B2 _ ((g1.trans ha.hb g2).trans ha.hb g4) h6 .a_⟩
   ·exact qk.elim
  ·exact qt.elim⟩
end
end L2
namespace L2
open PySem PySem.Spec PySem.Calls PyProof.Rows
def Qa(ks:List Str):It:=⟨fun i _=>i<ks.length,fun i H x H'=>H'=H/\∃z,ks[i]?=some z/\x=.str z,fun i _=>ks.length<=i⟩
theorem wA{P:Program}{w:World}{K:PySem.W.Frag}{tg:Expr}(a it:Addr)(ah:List (Str×Value))(o:Obj)(es:Array DictEntry)(ep:Nat)(lk:K.lookup a=some o)(ex:o.ExactDict)(hd:o.data=.dict es ep)(hk:KeysOf (PySem.strKind P w) es/\Pairs (PySem.strKind P w) es.toList ah/\(ah.map (·.1)).Nodup):Turn P w K tg (Qa (ah.map (·.1))) [it] it (fun i h=>h.IsKeyIter it a i ah.length ep) where
 mem:=by simp
 obj:=fun i h st b hb=>by
  have e:b=it:=by simpa using hb
  subst e;obtain⟨o,e,c,d⟩:=st;exact⟨o,e,fun v z=>by rw[d]at z;cases z⟩
 keep:=fun i h h' st k=>by
  obtain⟨o,e,c⟩:=st;exact⟨o,k it (by simp) o e,c⟩
 item:=by
  intro X hP hw hK hc i pins s σ H E I hf st hg;subst hP hw hK;have hi:i<ah.length:=by have q:i<(ah.map (·.1)).length:=hg;rw[aE]at q;exact q
  have ho:s.heap.get? a=some o:=I.r_ a o lk;obtain⟨f0,f1,f2,f3,f4,f5⟩:=hf it (by simp);have Qb:ah[i]?=some (ah[i].1,ah[i].2):=by simp[hi]
  refine wpAny_pyNext_dict_item (knd:=PySem.strKind X.prog X.w) st ⟨o,es,ho,ex,hd,hk⟩ Qb fun key h' R1 tH sb=>?_
  have I1:Inv X pins σ H {s with heap:=h'}:=I.turned (t':=s.toks) (fun b o hb e=>(sb.2 b hb).trans e) f0 f1 f3 f4 f5;obtain⟨oi,e,c,d⟩:=id tH;refine⟨key,rfl,qM (s:={s with heap:=h'}) e c d (by decide) ⟨.str ah[i].1,H,I1,?_,⟨rfl,ah[i].1,by rw[bb,Qb];rfl,rfl⟩,tH,fun b hb=>(hf b hb).1⟩⟩;exact y1 (k:=.inr ah[i].1) R1
 done:=by
  intro X hP hw hK hc i pins s σ H E I hf st hg;subst hP hw hK;have hi:ah.length<=i:=by have q:(ah.map (·.1)).length<=i:=hg;rw[aE]at q;exact q
  have ho:s.heap.get? a=some o:=I.r_ a o lk;obtain⟨f0,f1,f2,f3,f4,f5⟩:=hf it (by simp);exact wpAny_pyNext_dict_end (knd:=PySem.strKind X.prog X.w) (I.ok.hd hc) st ⟨o,es,ho,ex,hd,hk⟩ (nE hi) fun h' eb=>⟨rfl,I.turned (t':=s.toks) (fun b o hb e=>eb b o hb e) f0 f1 f3 f4 f5⟩
 self:=fun _ _ _ _ _ st h=>wpAny_pyIter_keyiter st h
def sL(K:PySem.W.Frag)(w:World)(mg:Str->Option Value)(x:Str)(ks:List Str):Prop:=∃a ah,mg x=some (.ref a)/\qW K w a ah/\ah.map (·.1)=ks/\∀z∈ks,z.length<=bS
section
variable {X:Cx}{p:Pos}{tg:Expr}
theorem GI{x:Str}{ks:List Str}(T:sL X.K X.w X.mg x ks)(hg:Gl X x:=by rfl) (dG:(x==("__debug__":Str))=false:=by decide):PI X tg (.Name x p) (tI X fun _=>.ok (ks.map .str)):=by
 obtain⟨a,ah,hm,⟨hs,o,es,ep,lk,ex,hd,hk⟩,rfl,hz⟩:=T;intro pins s σ H R I ⟨B,ρ,hb,r,q⟩;refine lb I hg hm ?_ dG
 have ho:s.heap.get? a=some o:=I.r_ a o lk;refine wpAny_pyIter_dict (knd:=PySem.strKind X.prog X.w) hs ⟨o,es,ho,ex,hd,hk X.prog⟩ ?_
 refine⟨s.heap.objs.size,[s.heap.objs.size],_,Qa (ah.map (·.1)),H,rfl,I.kept (t':=s.toks) fun b o e=>aQ _ e,wA a _ ah o es ep lk ex hd (hk X.prog),⟨_,bg _ rfl,rfl,rfl⟩,fun b hb=>?_,?_⟩
 ·have e:b=s.heap.objs.size:=by simpa using hb
  subst e;exact I.yn (aB _) (I.bB.fresh (aB _))
 ·refine(show∀J H',ar H H'->ja X.K B J H' ((ah.map (·.1)).map .str)->R J H' from q) _ H (ar.refl H) ⟨fun i B' H' hi _ _=>?_,fun i B' H' y Cp hi s2 HZ ⟨eh,z,ez,ey⟩=>?_,fun B' H' _=>?_⟩
  ·have e:i<((ah.map (·.1)).map Tr.str).length:=hi;rw[aE]at e;exact e
  ·subst eh ey;exact⟨ar.refl _,.str z,by rw[bb,ez];rfl,.str z (hz z (dS ez))⟩
  ·show(ah.map (·.1)).length<=((ah.map (·.1)).map Tr.str).length;rw[aE (f:=Tr.str)];exact aB _
end
end L2
namespace L2
open PySem PySem.Spec PySem.Calls PyProof.Rows
def mT:List Tr->Rs Tr
 |[.a8 av]=>.ok (.int av.length)
 |ts=>CH ts
theorem il{X:Cx}:lD X (.builtin "len") mT:=by
 intro pins s σ H xs us Q I rv ⟨B,ts,hb,r,q⟩;by_cases z:∃av,ts=[.a8 av]
 ·obtain⟨av,rfl⟩:=z;cases r with
  |cons h r=>
   cases r;cases h with
   |@a8 a ah _ h ek rr=>
    obtain⟨u,rfl,ru⟩:=vals1 rv;cases ru;have hl:ah.length=av.length:=by have:=bE List.length ek;rw[aE,aE]at this;exact this
    exact IY I (h.same aR) fun t s' I'=>⟨.int ah.length,H,I',⟨t,rfl⟩,(show∀v H',ar H H'->Rep X.K (aT B H') v (.int av.length)->Q v H' from q) _ H (ar.refl H) (by rw[hl];exact .int _)⟩
 ·have e:mT ts=CH ts:=by
   unfold mT;split
   ·exact absurd ⟨_,rfl⟩ z
   ·rfl
  rw[e]at q;exact JQ pins s σ H xs us Q I rv ⟨B,ts,hb,r,q⟩
end L2
namespace L2
open PySem PySem.Spec PySem.Calls PyProof.Rows
theorem y_:typeLookup (.type "list") "keys"=pure none:=by rw[typeLookup_type,oq];kernel_rfl
section
variable {prog:Program}{w:World}{A:Around}{E:Value->Shared->Prop}{s:Shared}{a:Addr}{xs:Array Value}{k:Nat}{sl:Array (Option Value)}
theorem wB{Q:Option Value->Shared->Prop}(hx:s.heap.get? a=some {cls:=.type "list",dict:=none,data:=.seq xs k,slots:=sl}) (hA:A.handled=none)
  (h:∀h' tk,(∀b o,s.heap.get? b=some o->h'.get? b=some o)->Q none {s with heap:=h',toks:=tk}):wpAny (model prog w) A (getAttr? (.ref a) "keys") Q E s:=by
 obtain⟨hp,g,d,tk,os⟩:=s;have hT:∀y',(⟨hp,g,d,y',os⟩:Shared).TypeIs (.ref a) "list":=fun _=>⟨_,hx,rfl⟩;have f1:=sub_AttributeError;have f3:=n8.lookup;have f4:=n8.bind (.ref a);have f5:=am_list_getattr_none;unfold getAttr? getAttrBy? getAttrBy
 repeat(any_goals (first|assumption|exact hT _|((with_reducible show wpAny _ _ (call (Value.builtin "list.__getattribute__") _ _) _ _ _);refine i3 n8 (hT _) am_entry_list_getattribute (F.args_list_getattribute_2 _ _) (meets_getattribute_miss_list a xs k sl "keys" _ y_ (by decide+kernel) (by size_fits)) ⟨hx,hA,fun h' y' e Qc=>?_⟩)|wp_step))
 obtain⟨t',u',he⟩:=Qc.there;have R3:∀y',(⟨h',g,d,y',os⟩:Shared).TypeIs (.ref e) "AttributeError":=fun _=>⟨_,he,rfl⟩;show wpAny _ _ (getattributeRaised _ _ _ _ _ _ _) _ _ _;unfold getattributeRaised
 repeat(any_goals (first|assumption|exact R3 _|wp_step))
 exact h h' y' Qc.of.keeps
theorem rP:entryFor table "dict.update.loop"=some Builtin.«dict.update.loop»:=entryFor_of_tree (by kernel_rfl)
theorem jJ:plainId "dict.update.loop"=true:=by decide+kernel
theorem AQ{h0:Heap}{l d I:Addr}{items:List Value}{pairs:List (Key×Value)}{R:Result->Shared->Prop}(hh:A.handled=none)(hl:h0.IsList l items.toArray)(hlen:items.length=pairs.length)(hp:∀(j:Nat) (t:Value),items[j]?=some t->∃ad key k v,t=.ref ad/\h0.IsTuple ad #[key,v]/\fj k key=true/\pairs[j]?=some (k,v))
  (R4:h0.get? d=none) (R5:h0.get? I=none) (Oy:d≠I) (hz:pairs.length<=100000)
  (hR:∀h' y',(∀b o,h0.get? b=some o->h'.get? b=some o)->h'.DictOf (aO prog w) d (merged [] pairs)->R (.ok (.ret .none)) {s with heap:=h',toks:=y'}):
  ∀(r i:Nat) (h:Heap) (tk:Nat) (ah:List (Key×Value)),pairs.length - i=r->i<=pairs.length->ah.length<=i->merged ah (pairs.drop i)=merged [] pairs->(∀b o,h0.get? b=some o->h.get? b=some o)->h.IsListIter I l i->h.DictOf (aO prog w) d ah->
   codeAny (model prog w) A (.builtin "dict.update.loop" ⟨[.ref d,.ref I,rawInt i,.none],[]⟩) R {s with heap:=h,toks:=tk}:=by
 have Qd:∀{h:Heap},(∀b o,h0.get? b=some o->h.get? b=some o)->h.IsList l items.toArray:=fun{h} k=>by obtain⟨o,e,x⟩:=hl;exact⟨o,k _ _ e,x⟩
 have nd:∀{b:Addr} {o:Obj},h0.get? b=some o->b≠d:=fun{b o} e z=>by rw[z,R4]at e;cases e
 have nI:∀{b:Addr} {o:Obj},h0.get? b=some o->b≠I:=fun{b o} e z=>by rw[z,R5]at e;cases e
 intro r
 induction r with
 |zero=>
  intro i h tk ah hr hi hk hm kp it dd;have e:i=pairs.length:=by omega
  subst e;refine fQ rP ?_
  rw[gZ jJ _];show wpAny _ A.in1 (pyNext (.ref I)>>=_) _ _ _;refine ab (wpAny_pyNext_list_end hh it (Qd kp) (by simp[hlen]) fun h' eb=>?_);rw[oC]at hm;have xh:h'.DictOf (aO prog w) d ah:=by
   obtain⟨o,es,ep,e,x⟩:=dd;exact⟨o,es,ep,eb d o Oy e,x⟩
  show wpAny _ A.in1 (Builtin.Dict.addKeywords d []>>=_) _ _ _;refine ab (ak (ak ?_));exact hR h' tk (fun b o e=>eb b o (nI e) (kp b o e)) (by rw[<-hm];exact xh)
 |succ r ih=>
  intro i h tk ah hr hi hk hm kp it dd;have jc:i<pairs.length:=by omega
  have N_:i<items.length:=by omega
  obtain⟨ad,key,k,v,et,tp,zA,ep⟩:=hp i items[i] (by simp[N_]);have EC:pairs[i]=(k,v):=by rw[bp jc]at ep;exact Option.some.inj ep
  refine fQ rP ?_
  rw[gZ jJ _];show wpAny _ A.in1 (pyNext (.ref I)>>=_) _ _ _;refine ab (wpAny_pyNext_list_item it (Qd kp) (x:=.ref ad) (by simp[N_,et]) fun h' R6 sb=>?_);have Oz:∀b o,h0.get? b=some o->h'.get? b=some o:=fun b o e=>(sb.2 b (nI e)).trans (kp b o e);have xh:h'.DictOf (aO prog w) d ah:=by
   obtain⟨o,es,ep,e,x⟩:=dd;exact⟨o,es,ep,(sb.2 d Oy).trans e,x⟩
  obtain⟨ot,e1,e2,n,e3⟩:=tp;have hT:Shared.TypeIs {s with heap:=h',toks:=tk} (.ref ad) "tuple":=⟨ot,Oz _ _ e1,e2⟩;refine ab ?_
  refine d3 ?_
  refine ab (wpAny_tryCatch ?_);unfold Builtin.Dict.pairItems;refine ab (hZ hT ?_);rw[ae (by decide)];refine ab (wpAny_seqItems (Oz _ _ e1) e3 ?_);refine ak ?_
  show wpAny _ A.in1 (holding [key,v] (dictSet d key v)) _ _ _;refine d3 (wpAny_dictSet_pairs (knd:=aO prog w) (hsz:=by rw[cX];omega) zA xh fun h2 HI Qe=>?_);show wpAny _ A.in1 (pure _) _ _ _;refine ak ⟨hV jJ _,?_⟩;have hc:rawInt ((i:Int)+1)=rawInt ((i+1:Nat):Int):=by push_cast;rfl
  rw[hc];refine ih (i+1) h2 _ (stored ah k v) (by omega) jc ?_ ?_ (fun b o e=>(Qe.2 b (nd e)).trans (Oz b o e)) ?_ HI
  ·exact a6 (stored_length_le ah k v) (by omega)
  ·rw[nT jc,EC]at hm;exact hm
  ·obtain⟨o,e,x⟩:=R6;exact⟨o,(Qe.2 I (bt Oy)).trans e,x⟩
theorem wC{l:Addr}{items:List Value}{pairs:List (Key×Value)}{Q:Value->Shared->Prop}{k0:Nat}{R7:Array (Option Value)}(hh:A.handled=none)(hx:s.heap.get? l=some {cls:=.type "list",dict:=none,data:=.seq items.toArray k0,slots:=R7}) (hlen:items.length=pairs.length)
  (hp:∀(j:Nat) (t:Value),items[j]?=some t->∃ad key k v,t=.ref ad/\s.heap.IsTuple ad #[key,v]/\fj k key=true/\pairs[j]?=some (k,v)) (hz:pairs.length<=100000)
  (h:∀h' y',(∀b o,s.heap.get? b=some o->h'.get? b=some o)->h'.DictOf (aO prog w) s.heap.objs.size (merged [] pairs)->Q (.ref s.heap.objs.size) {s with heap:=h',toks:=y'}):
  wpAny (model prog w) A (call (.type "dict") [.ref l]) Q E s:=by
 refine callType_codes (Q₁:=fun obj ba=>obj=.ref s.heap.objs.size/\ba={s with heap:=s.heap.push {cls:=.type "dict",data:=.dict #[]}}) F.kt_called_dict (F.kt_typeCall_dict_1 _) F.entry_dict_init (kt_code_dict_new _ ⟨rfl,rfl⟩) ?_
 rintro obj ba ⟨rfl,rfl⟩
 have zL:(s.heap.push {cls:=.type "dict",data:=.dict #[]}).DictOf (aO prog w) s.heap.objs.size []:=Heap.DictOf.new s.heap;have Qg:=aQ {cls:=.type "dict",data:=.dict #[]} hx;have hT:Shared.TypeIs {s with heap:=s.heap.push {cls:=.type "dict",data:=.dict #[]}} (.ref l) "list":=⟨_,Qg,rfl⟩;refine⟨zL.typeIs,F.args_dict_init_2 _ _,?_⟩;unfold Builtin.«dict.__init__»;refine ab ?_
 unfold Builtin.Dict.selfAndRest;refine ab (wpAny_notOrdered_dict zL.typeIs ?_);show wpAny _ _ (pure (s.heap.objs.size,[Value.ref l])) _ _ _;refine ak ?_
 show wpAny _ _ (Builtin.Dict.updateFrom "dict.__init__" s.heap.objs.size (.ref l) [] .none) _ _ _;unfold Builtin.Dict.updateFrom;refine ab (hZ hT ?_);rw[ae (by decide)];refine ab (wB Qg hh fun h1 PR k1=>?_);rw[ae (show(none:Option Value).isNone=true from rfl)];have k2:∀b o,s.heap.get? b=some o->h1.get? b=some o:=fun b o e=>k1 b o (aQ _ e);have R8:h1.get? s.heap.objs.size=some {cls:=.type "dict",data:=.dict #[]}:=k1 _ _ (bg _ rfl);have R9:h1.DictOf (aO prog w) s.heap.objs.size []:=by
  obtain⟨o,es,ep,e,x⟩:=zL;exact⟨o,es,ep,k1 _ _ e,x⟩
 have jc:s.heap.objs.size<h1.objs.size:=aH R8;have hl:s.heap.IsList l items.toArray:=⟨_,hx,rfl,_,rfl⟩;refine ab (fi ?_);refine ab (kT (show h1.IsList l items.toArray from⟨_,k2 _ _ hx,rfl,_,rfl⟩) ?_);refine ak ⟨hV jJ _,?_⟩;refine AQ (s:=s) (h0:=s.heap) (A:=A.in1) hh hl hlen hp (by
   cases e:s.heap.get? s.heap.objs.size with
   |none=>rfl
   |some o=>exact absurd (aH e) (cx _)) (by
   cases e:s.heap.get? h1.objs.size with
   |none=>rfl
   |some o=>exact absurd (aH (k2 _ _ e)) (cx _)) (bc jc) hz (fun h' y' kp dd=>⟨rfl,h h' y' kp dd⟩) _ 0 _ _ [] rfl (bZ _) (aB _) rfl (fun b o e=>aQ _ (k2 b o e)) ⟨_,bg _ rfl,rfl,rfl⟩ ?_
 obtain⟨o,es,ep,e,x⟩:=R9;exact⟨o,es,ep,aQ _ e,x⟩
end
def sM:List Tr->Option (List (Key×Tr))
 |[]=>some []
 |.tup [k,v]::r=>match jg k,sM r with
  |some key,some l=>some ((key,v)::l)
  |_,_=>none
 |_=>none
def AR:List Tr->Rs Tr
 |[.lst ts]=>match sM ts with
  |some av=>if av.length<=100000 then .ok (.a8 (gc [] av))else .bad
  |none=>.bad
 |_=>.bad
section
variable {X:Cx}{pins:List (Addr×Obj)}{σ:St}{H:Hp}{s:Shared}{B:br}
theorem za{t:Tr}{ts:List Tr}{av:List (Key×Tr)}(h:sM (t::ts)=some av):∃k v key l,t=.tup [k,v]/\jg k=some key/\sM ts=some l/\av=(key,v)::l:=by
 unfold sM at h;split at h
 ·cases‹t::ts=[]›
 ·rename_i k v r e;cases e;cases e1:jg k with
  |none=>rw[e1]at h;cases h
  |some key=>
   cases e2:sM ts with
   |none=>rw[e1,e2]at h;cases h
   |some l=>rw[e1,e2]at h;cases h;exact⟨k,v,key,l,rfl,e1,rfl,rfl⟩
 ·cases h
theorem xX(I:Inv X pins σ H s):∀{vs:List V} {ts:List Tr} {av:List (Key×Tr)} {aV:List Value},aF X.K (aT B H) vs ts->sM ts=some av->Vals vs aV->
  ∃(ah:List (Key×V)) (ps:List (Key×Value)),bJ X.K (aT B H) ah av/\KV ah ps/\aV.length=ps.length/\∀(j:Nat) (t:Value),aV[j]?=some t->∃ad key k v,t=.ref ad/\s.heap.IsTuple ad #[key,v]/\fj k key=true/\ps[j]?=some (k,v)
 |[],[],_,_,_,e,rv=>by cases e;cases rv;exact⟨[],[],.nil,.nil,rfl,fun j t e=>by simp at e⟩
 |[],_::_,_,_,h,_,_=>by cases h
 |v::vs,ts,av,aV,h,e,rv=>by
  cases h with
  |cons h r=>
   obtain⟨k,w',key,l,rfl,ek,el,rfl⟩:=za e;cases rv with
   |cons h1 rv=>
    obtain⟨ah,ps,q1,q2,q3,q4⟩:=xX I r el rv;obtain⟨ad,us,rfl,hq,rr⟩:=h.cA;cases h1;obtain⟨x1,x2,rfl,rk,j7⟩:=DY rr;obtain⟨BZ,R_,pl,_⟩:=I.tuple (ar.tup aR hq);obtain⟨u1,u2,rfl,r1,r2⟩:=vals2 R_;cases ib rk ek;refine⟨(key,_)::ah,(key,u2)::ps,.cons j7 q1,.cons ⟨rfl,r2⟩ q2,by rw[a5,a5,q3],fun j t et=>?_⟩;cases j with
    |zero=>cases et;exact⟨ad,u1,key,u2,rfl,pl,lu (P:=X.prog) (w:=X.w) r1,rfl⟩
    |succ j=>exact q4 j t et
theorem C_(hc:X.calm=true):cV X (.type "dict") (rF X AR):=by
 intro pins s σ H xs us Q I rv ⟨B,ts,hb,r,q⟩;have key:∃uz av,ts=[.lst uz]/\sM uz=some av/\av.length<=100000/\∀v H',ar H H'->Rep X.K (aT B H') v (.a8 (gc [] av))->(∀p,v=.ref p->F9 H H' p)->Q v H':=by
  unfold AR at q;split at q
  ·rename_i uz;cases e:sM uz with
   |none=>rw[e]at q;exact(show False from q).elim
   |some av=>
    rw[e]at q;obtain⟨h0,z⟩:=eB q;exact⟨uz,av,rfl,e,h0,z⟩
  ·exact(show False from q).elim
 obtain⟨uz,av,rfl,ep,hz,k⟩:=key;obtain⟨x,rfl,h⟩:=eO r;obtain⟨a,vs,rfl,h,rr⟩:=h.lst_inv;obtain⟨u,rfl,ru⟩:=vals1 rv;cases(show u=Value.ref a from ru);obtain⟨z0,aV,n0,R',hx⟩:=(show bI X.prog X.w H s.heap a (.lst vs)from I.bB a _ (cj h));obtain⟨ah,ps,q1,q2,q3,q4⟩:=xX I rr ep R';have hl:ah.length=av.length:=q1.length;have Sa:ps.length<=100000:=by rw[<-KV.length q2,hl];exact hz
 refine wC (I.ok.hd hc) hx q3 q4 Sa fun h' y' kp dd=>?_
 have hf:H s.heap.objs.size=none:=I.fresh;have Sb:(dH [] ah).length<=sizeLine:=by have:=d4 ah [];rw[oJ]at this;rw[cX];omega
 have Sd:(s.heap.objs.size==sysModules)=false:=by
  have:=I.big;exact g_ (gr this)
 refine⟨.ref s.heap.objs.size,_,I.laid (t':=y') (o:=.dK (dH [] ah)) kp (aB _) (oX Sb Sd (q2.merge .nil) dd),rfl,k _ _ (ar.upd hf) (.a8 (.inl (hb.new hf)) ?_ ?_) fun p' e=>by cases e;exact .upd hf (fun _ _ z=>by cases z)⟩
 ·exact(bJ.merge q1 bJ.nil).keys
 ·exact(bJ.merge q1 bJ.nil).vals.same (aW (ar.upd hf))
end
end L2
namespace L2
open PySem PySem.Spec PySem.Calls PyProof.Rows Builtin Builtin.ObjectAttr
structure K1(K:PySem.W.Frag)(f:Addr):Prop where
 get:PySem.W.specialIn K (.ref f) "__get__"=some (some (.builtin "function.__get__"))
 tk:PySem.W.takesIn K (.ref f)=some false
end L2
namespace HT
open PySem PyProof.Rows
section
variable {prog:Program}{w:World}{A:Around}{E:Value->Shared->Prop}{s:Shared}
theorem jT{t sl:Addr}{items:Array Value}{vl vu:Value}{lo hi:Option Int}{Q:Value->Shared->Prop}(ht:IsTup s.heap t items)(hs:s.heap.IsSliceOf sl vl vu .none)(pl:IsPart vl lo)(pu:IsPart vu hi)
  (hw:cU items.size 0 lo=0/\cU items.size items.size hi=items.size) (h:Q (.ref t) s):wpAny (model prog w) A (getItem (.ref t) (.ref sl)) Q E s:=by
 obtain⟨os,E_,L6,IS⟩:=id hs;have M6:s.TypeIs (.ref sl) "slice":=⟨os,E_,L6⟩;unfold getItem
 try with_reducible refine d3 ?_
 first|refine ab (ak ?_)|skip
 refine ab (wpAny_sequenceKey ht.typeIs (by decide) ?_);refine ab (nD (name:=Str.ofString "__getitem__") ht.typeIs gS
  (g9 gS ht.typeIs entry_tuple_getitem ?_ (args_tuple_getitem _ _)))
 show wpAny _ _ (Builtin.Tuple.tupleItemsOf (.ref t)>>=_) _ _ s;refine ab (tupleItemsOf_ ht ?_);refine ab (hZ M6 ?_);rw[ae (by decide)];refine ab (gu hs pl pu ?_);have OA:((((cU items.size 0 lo:Nat):Int)==0&&(1:Int)==1&&(cU items.size items.size hi - cU items.size 0 lo)==items.size)=true):=by
  rw[hw.1,hw.2];simp
 show wpAny _ _ (if(((cU items.size 0 lo:Nat):Int)==0&&(1:Int)==1&&(cU items.size items.size hi - cU items.size 0 lo)==items.size)=true then _ else _) _ _ s;rw[ae OA];refine ab (m:=Builtin.Tuple.tupleIsExact (.ref t)) ?_
 show wpAny _ _ (typeOf (.ref t)>>=_) _ _ s;refine ab (hZ ht.typeIs (ak ?_));rw[ae (by decide)];exact ab (fi (ak ⟨_,rfl,ak h⟩))
end
end HT
namespace L2
open PySem PySem.Spec PyProof.Rows
def GJ:Tr->Option Int->Option Int->Rs Tr
 |.tup ts,lo,hi=>.ok (.tup (m9 ts lo hi))
 |t,lo,hi=>NI t lo hi
def GK(r:Rs Tr)(lo hi:Rs (Option Int)):Rs Tr:=r.bind fun t=>lo.bind fun l=>hi.bind fun h=>GJ t l h
theorem wD{α:Type}{ts:List α}{lo hi:Option Int}(h:ic ts.length lo hi=true):m9 ts lo hi=ts:=by
 unfold ic at h;rw[a3]at h;unfold m9;rw[eq_of_beq h.1,eq_of_beq h.2,List.drop_zero,hW,List.take_length]
section
variable {X:Cx}{e:Expr}{F:ax->Rs Tr}{P1 P2:ax->Rs (Option Int)}{lo hi:Option Expr}{p2 pos:Pos}
inductive K2(X:Cx)(x:V)(lo:Option Int)(hi:Option Int)(H:Hp)(Q:VK):Prop
 |mk (B:br) (t:Tr):HB B H->Rep X.K (aT B H) x t->(Fi X H (GJ t lo hi) fun t=>∀v H',ar H H'->Rep X.K (aT B H') v t->Q v H')->K2 X x lo hi H Q
theorem K3:HJ X (K2 X):=by
 intro pins s σ H x v vl vu lo hi sl Q I rx hs pl pu ⟨B,t,hb,r,q⟩;by_cases hw:∃ts,t=.tup ts/\ic ts.length lo hi=true
 ·obtain⟨ts,rfl,hw⟩:=hw;have q':∀v H',ar H H'->Rep X.K (aT B H') v (.tup (m9 ts lo hi))->Q v H':=q;rw[wD hw]at q';have r0:=r;cases r with
  |@tup a vs _ h rr=>
   cases rx;have h:=Jo (K:=X.K) h;obtain⟨aV,r2,ht,hz⟩:=I.tuple h.up;have hlen:aV.toArray.size=ts.length:=by rw[a7,<-r2.length];exact rr.length
   refine⟨"tuple",_,gS.lookup,ht.typeIs,?_⟩;unfold ic at hw;rw[a3]at hw;exact HT.jT ht hs pl pu (by rw[hlen];exact⟨eq_of_beq hw.1,eq_of_beq hw.2⟩) ⟨.ref a,H,I,rfl,q' _ H (ar.refl H) r0⟩
 ·have e:GJ t lo hi=NI t lo hi:=by
   cases t with
   |tup ts=>
    have:¬ic ts.length lo hi=true:=fun z=>hw ⟨ts,rfl,z⟩;exact(ai this).symm
   |_=>rfl
  rw[e]at q;exact NJ pins s σ H x v vl vu lo hi sl Q I rx hs pl pu ⟨B,t,hb,r,q⟩
theorem K4(he:PE X e (tP X F))(hl:PO X lo (tO X P1))(hu:PO X hi (tO X P2)):PE X (.Subscript e (.Slice lo hi none p2) pos) (tP X fun ρ=>GK (F ρ) (P1 ρ) (P2 ρ)):=
 (zH K3 he hl hu).weak fun σ H Q ⟨B,ρ,hb,r,q⟩=>⟨B,ρ,hb,r,q.bind.mono fun t qt v H1 s1 r1=>⟨B,ρ,hb.same s1,r.same s1,(qt.bind.same s1).mono fun l ql H2 s2=>⟨B,ρ,hb.same (s1.trans s2),r.same (s1.trans s2),(ql.bind.same (s1.trans s2)).mono fun h qh H3 s3=>
  ⟨B,t,hb.same ((s1.trans s2).trans s3),r1.same (aW (s2.trans s3)),(qh.same ((s1.trans s2).trans s3)).mono fun t qt v H4 s4 r4=>qt v H4 (((s1.trans s2).trans s3).trans s4) r4⟩⟩⟩⟩
end
end L2
namespace L2
open PySem PySem.Spec PyProof.Rows
structure QE(X:Cx)(e:Expr)(F:ax->Rs Tr):Prop where
 h:PE X e (tP X F)
structure QT(X:Cx)(e:Expr)(F:ax->Rs Bool):Prop where
 h:PT X e (tQ X F)
structure QW(X:Cx)(e:Expr)(F:ax->Rs Bool):Prop where
 h:PW X e (tQ X F)
structure QA(X:Cx)(e:List Expr)(F:ax->Rs (List Tr)):Prop where
 h:PA X e (vq X F)
structure QS(X:Cx)(e:Stmt)(F:ax->Rs Out):Prop where
 h:PS X e (tS X F)
structure QB(X:Cx)(e:List Stmt)(F:ax->Rs Out):Prop where
 h:jQ X e (tS X F)
structure QG(X:Cx)(e:Expr)(F:kx):Prop where
 h:PG X e (tG X F)
structure Mo(X:Cx)(e:List Expr)(F:List Tr->ax->Rs ax):Prop where
 h:BJ X e (HR X F)
structure QI(X:Cx)(tg e:Expr)(F:ax->Rs (List Tr)):Prop where
 h:PI X tg e (tI X F)
structure QJ(X:Cx)(tg e:Expr)(F:ax->Rs (List Tr)):Prop where
 h:PI X tg e (tJ X F)
structure QO(X:Cx)(e:Option Expr)(F:ax->Rs (Option Int)):Prop where
 h:PO X e (tO X F)
structure QF(X:Cx)(e:List Expr)(F:ax->Rs Bool):Prop where
 h:PF X e (tQ X F)
structure ZE(X:Cx)(e:Expr)(F:ax->Ab->Rz Tr):Prop where
 h:PE X e (tE X F)
structure ZO(X:Cx)(e:Expr)(F:ax->Ab->Rz Tr):Prop where
 h:PE X e (tE X F)
theorem dF{X:Cx}{e:Expr}{F:ax->Ab->Rz Tr}(h:ZE X e F):ZO X e F:=⟨h.h⟩
structure NE(X:Cx)(e:Expr)(F:ax->Rs Tr):Prop where
 h:PE X e (tF X F)
structure ZT(X:Cx)(e:Expr)(F:ax->Ab->Rz Bool):Prop where
 h:PT X e (J0 X F)
structure ZL(X:Cx)(e:List Expr)(F:ax->Ab->Rz (List Tr)):Prop where
 h:PA X e (CM X F)
structure ZS(X:Cx)(e:Stmt)(F:ax->Ab->Rz Out):Prop where
 h:PS X e (tZ X F)
structure ZB(X:Cx)(e:List Stmt)(F:ax->Ab->Rz Out):Prop where
 h:jQ X e (tZ X F)
structure wF(X:Cx)(scope:Scope)(N':List Str)(tg elt:Expr)(ifs:List Expr)(T:kx)(A:ax->Rs Bool)(F:ax->Rs Tr):Prop where
 all:∀s H ex,QG (lA X scope N' s H ex) tg T/\QF (lA X scope N' s H ex) ifs A/\QE (lA X scope N' s H ex) elt F
theorem wF.to {X:Cx}{scope:Scope}{N':List Str}{tg elt:Expr}{ifs:List Expr}{T:kx}{A:ax->Rs Bool}{F:ax->Rs Tr}(b:wF X scope N' tg elt ifs T A F):D4 X scope N' tg elt ifs T A F:=
 ⟨fun s H ex=>⟨(b.all s H ex).1.h,(b.all s H ex).2.1.h,(b.all s H ex).2.2.h⟩⟩
section
variable {X:Cx}{a b c:Expr}{pos:Pos}{F G E:ax->Rs Tr}
theorem aa(i:Nat){x:Str}{pos:Pos}(hN:X.N[i]?=some x:=by rfl) (hv:LV X.env.scope x:=by first|exact Or.inl rfl|exact Or.inr (Or.inl rfl)|exact Or.inr (Or.inr rfl)) (hd:(x==("__debug__":Str))=false:=by decide) (vx:(x==("__classdict__":Str))=false:=by decide):QE X (.Name x pos) (fun ρ=>bA ρ i):=⟨Ji i hN hv hd vx⟩
theorem aL{i:Int}{j pos}:QE X (.Constant (.int i) j pos) (fun _=>.ok (.int i)):=⟨Jj⟩
theorem GL{b:Bool}{j pos}:QE X (.Constant (.bool b) j pos) (fun _=>.ok (.bl b)):=⟨Nu⟩
theorem lP{j pos}:QE X (.Constant .none j pos) (fun _=>.ok .a_):=⟨Jk⟩
theorem au{z:Str}{j pos}(hz:z.length<=bS:=by decide):QE X (.Constant (.str z) j pos) (fun _=>.ok (.str z)):=⟨Jl hz⟩
theorem cc{op:Operator}{h:Tr->Tr->Rs Tr}(ho:qZ X (binaryOp op) h)(ha:QE X a F)(hb:QE X b G):QE X (.BinOp a op b pos) (fun ρ=>ff h (F ρ) (G ρ)):=⟨Jm ho ha.h hb.h⟩
theorem K5{op:CmpOp}{h:Tr->Tr->Rs Tr}(ho:qZ X (compareOp op) h)(ha:QE X a F)(hb:QE X b G)(hm:behindInMarks op b=false:=by first|exact sf _|rfl|with_unfolding_all rfl):QE X (.Compare a [op] [b] pos) (fun ρ=>ff h (F ρ) (G ρ)):=⟨Jn ho ha.h hb.h hm⟩
theorem aZ{op:CmpOp}{h:Tr->Tr->Rs Tr}(ho:qZ X (compareOp op) h)(ha:QE X a F)(hb:QE X b G)(hm:behindInMarks op b=false:=by first|exact sf _|rfl|with_unfolding_all rfl):QT X (.Compare a [op] [b] pos) (fun ρ=>q_ (ff h (F ρ) (G ρ))):=⟨Jp ho ha.h hb.h hm⟩
theorem AS(ha:QE X a F)(he:mi a=true:=by rfl):QT X a (fun ρ=>(F ρ).bind yE):=⟨Jq ha.h he⟩
end
section
variable {X:Cx}{a b c:Expr}{pos:Pos}{F G E:ax->Rs Tr}{A B:ax->Rs Bool}{rest:List Expr}
theorem Ej(ha:QT X a A):QT X (.UnaryOp .Not a pos) (fun ρ=>z3 (A ρ)):=⟨Jr ha.h⟩
theorem pL(ha:QT X a A):QW X (.BoolOp .And [a] pos) A:=⟨FE ha.h⟩
theorem xY(ha:QT X a A):QW X (.BoolOp .Or [a] pos) A:=⟨Js ha.h⟩
theorem uZ(ha:QT X a A)(hb:QW X (.BoolOp .And (b::rest) pos) B):QW X (.BoolOp .And (a::b::rest) pos) (fun ρ=>yF (A ρ) (B ρ)):=⟨w_and ha.h hb.h⟩
theorem C'(ha:QT X a A)(hb:QW X (.BoolOp .Or (b::rest) pos) B):QW X (.BoolOp .Or (a::b::rest) pos) (fun ρ=>Bv (A ρ) (B ρ)):=⟨w_or ha.h hb.h⟩
theorem ip{op}{es:List Expr}(h:QW X (.BoolOp op es pos) A):QT X (.BoolOp op es pos) A:=⟨FF h.h⟩
theorem K6(hc:QT X c A)(ha:QE X a F)(hb:QE X b G):QE X (.IfExp c a b pos) (fun ρ=>Cn (A ρ) (F ρ) (G ρ)):=⟨Nv hc.h ha.h hb.h⟩
end
section
variable {X:Cx}{a b c:Expr}{pos:Pos}{F G E:ax->Rs Tr}{A B:ax->Rs Bool}{rest:List Expr}{es:List Expr}{L:ax->Rs (List Tr)}
theorem aN:QA X [] (fun _=>.ok []):=⟨DZ⟩
theorem af(ha:QE X a F)(hr:QA X es L)(hs:isStar a=false:=by rfl):QA X (a::es) (fun ρ=>a9 (F ρ) (L ρ)):=⟨z4 ha.h hr.h hs⟩
theorem cq{x1}(h:QA X es L):QE X (.Tuple es x1 pos) (fun ρ=>pb (L ρ)):=⟨Jt h.h⟩
theorem ee{id:String}{x:Str}{p:Pos}{e:Expr}{h:List Tr->Rs Tr}(hc:lD X (.builtin id) h)(hm:X.mg x=none)(ha:QA X (e::es) L)(hv:bootBuiltins x=some (.builtin id):=by rfl) (hg:Gl X x:=by rfl) (hn:x≠"__name__":=by decide) (dG:(x==("__debug__":Str))=false:=by decide) (bx:aI (e::es)=true:=by rfl):QE X (.Call (.Name x p) (e::es) [] pos) (fun ρ=>cp h (L ρ)):=⟨Co hc hm ha.h hv hg hn dG bx⟩
theorem u3{T:String}{x:Str}{p:Pos}{e:Expr}{h:List Tr->Rs Tr}(hc:lD X (.type T) h)(hm:X.mg x=none)(ha:QA X (e::es) L)(hv:bootBuiltins x=some (.type T):=by rfl) (hg:Gl X x:=by rfl) (hn:x≠"__name__":=by decide) (dG:(x==("__debug__":Str))=false:=by decide) (bx:aI (e::es)=true:=by rfl):QE X (.Call (.Name x p) (e::es) [] pos) (fun ρ=>cp h (L ρ)):=⟨z6 hc hm ha.h hv hg hn dG bx⟩
theorem K7{x:Str}{st:Stmt}{ps:List Str}{f:Addr}{fd:FuncData}{k:Nat}{h:List Tr->Rs Tr}{e:Expr}{p:Pos}(D:qU X.K X.mg x st ps f fd)(G:cf X.prog X.w X.K X.mg X.base j8 k f fd ps (spT X.K h))(hr:bq k X.A)(ha:QA X (e::es) L)(hg:Gl X x:=by rfl) (dG:(x==("__debug__":Str))=false:=by decide) (bx:aI (e::es)=true:=by rfl):QE X (.Call (.Name x p) (e::es) [] pos) (fun ρ=>cp h (L ρ)):=⟨Ju D G hr ha.h hg dG bx⟩
end
section
variable {X:Cx}{a b c e:Expr}{pos:Pos}{F:ax->Rs Tr}{G G':ax->Rs Out}{A:ax->Rs Bool}{st:Stmt}{rest Jv:List Stmt}
theorem xZ:QB X [] (fun ρ=>.ok (.nx ρ)):=⟨Jw⟩
theorem iq(h1:QS X st G)(h2:QB X rest G'):QB X (st::rest) (fun ρ=>vU (G ρ) G'):=⟨FG h1.h h2.h⟩
theorem jr(h1:QS X st G):QB X [st] G:=⟨Jx h1.h⟩
theorem rQ{i:Nat}{x:Str}{pos':Pos}(he:QE X e F)(hN:X.N.Nodup:=by assumption) (hi:X.N[i]?=some x:=by rfl) (hx:Loc X.env.scope x:=by first|exact Or.inl rfl|exact Or.inr rfl) (hs:j_ e=false:=by rfl) (hf:X.fn x=true\/X.env.scope.names.lookup x=some .local:=by first|exact .inl rfl|exact .inr rfl|assumption):QS X (.Assign [.Name x pos'] e pos) (fun ρ=>FH i (F ρ) ρ):=⟨Jz he.h hN hi hx hs hf⟩
theorem lQ(he:QE X e F):QS X (.Return (some e) pos) (fun ρ=>z7 (F ρ)):=⟨JA he.h⟩
theorem Dc{ys ns:List Stmt}(hc:QT X c A)(ha:QB X ys G)(hb:QB X ns G'):QS X (.If c ys ns pos) (fun ρ=>HQ (A ρ) (G ρ) (G' ρ)):=⟨Nw hc.h ha.h hb.h⟩
theorem cS(i:Nat){x:Str}(hN:X.N.Nodup:=by assumption) (hi:X.N[i]?=some x:=by rfl) (hx:Loc X.env.scope x:=by first|exact Or.inl rfl|exact Or.inr rfl) (hf:X.fn x=true\/X.env.scope.names.lookup x=some .local:=by first|exact .inl rfl|exact .inr rfl|assumption):QG X (.Name x pos) (gN i):=⟨FJ i hN hi hx hf⟩
theorem K8:Mo X [] (vV []):=⟨JB⟩
theorem AU{es:List Expr}{i:Nat}{is:List Nat}{x:Str}(h2:Mo X es (vV is))(hN:X.N.Nodup:=by assumption) (hi:X.N[i]?=some x:=by rfl) (hx:Loc X.env.scope x:=by first|exact Or.inl rfl|exact Or.inr rfl) (hf:X.fn x=true\/X.env.scope.names.lookup x=some .local:=by first|exact .inl rfl|exact .inr rfl|assumption) (hs:(assignEach (.Name x pos::es) X.env).map (·.2)=assign (.Name x pos) X.env::(assignEach es X.env).map (·.2):=by rfl):Mo X (.Name x pos::es) (vV (i::is)):=⟨FK h2.h hN hi hx hf hs⟩
theorem K9{es:List Expr}{k:Nat}{is:List Nat}(h:Mo X es (vV is))(hc:X.calm=true:=by rfl) (hn:(assignEach es X.env).length=is.length:=by rfl) (bx:(assignEach es X.env).findIdx? (·.1)=none:=by rfl):QG X (.Tuple es k pos) (gT is):=⟨JC h.h hc hn bx⟩
theorem lR{tg l:Expr}(hl:QE X l F):QI X tg l (fun ρ=>j' (F ρ)):=⟨JD hl.h⟩
end
section
variable {X:Cx}{a b c e:Expr}{pos:Pos}{F:ax->Rs Tr}{G G':ax->Rs Out}{A:ax->Rs Bool}{st:Stmt}{rest Jv:List Stmt}{L:ax->Rs (List Tr)}{tg:Expr}{p:Pos}
theorem pM(hm:X.mg "range"=none)(ha:QA X [a] L)(hg:Gl X "range":=by rfl) (hs:aI [a]=true:=by rfl):QI X tg (.Call (.Name "range" p) [a] [] pos) (fun ρ=>iG (L ρ)):=⟨z8 hm ha.h hg hs⟩
end
section
variable {X:Cx}{a b c e:Expr}{pos:Pos}{F:ax->Rs Tr}{G G':ax->Rs Out}{A:ax->Rs Bool}{st:Stmt}{rest Jv:List Stmt}{L:ax->Rs (List Tr)}{tg:Expr}{p:Pos}{scope:Scope}{N':List Str}{ix:List (Option Nat)}{elt iter:Expr}{ifs:List Expr}{T:kx}{W:ax->Rs (List Tr)}
theorem rR{X:Cx}:QF X [] (fun _=>.ok true):=⟨JF⟩
theorem u4{X:Cx}{c:Expr}{A:ax->Rs Bool}(h:QT X c A):QF X [c] A:=⟨JG h.h⟩
theorem AV(Lk:dI X N' ix scope)(hi:QI X tg iter W)(kq:wF X scope N' tg elt ifs T A F)(hT:fG T)(hc:X.calm=true:=by rfl) (hs:isSet iter=false:=by rfl):QE X (.ListComp elt [⟨tg,iter,ifs,0⟩] scope pos) (fun ρ=>mM ix T A F (W ρ) ρ):=⟨NA Lk hi.h kq.to hT hc hs⟩
end
section
variable {X:Cx}{a b e:Expr}{pos:Pos}{F G:ax->Rs Tr}
theorem bX(hu:X.A.units+1<cLine)(ha:QE X a F)(hb:QE X b G)(hs:fV b:=by exact fun _ _=>rfl):QE X (.Subscript a b pos) (fun ρ=>ff pj (F ρ) (G ρ)):=⟨NH hu ha.h hb.h hs⟩
theorem wG:QO X none (fun _=>.ok none):=⟨FY⟩
theorem pN(h:QE X e F):QO X (some e) (fun ρ=>Me (F ρ)):=⟨F0 h.h⟩
end
section
variable {X:Cx}{a b e:Expr}{pos:Pos}{F G:ax->Rs Tr}{P1 P2:ax->Rs (Option Int)}{lo hi:Option Expr}{p2:Pos}{es:List Expr}{L:ax->Rs (List Tr)}{o:Expr}{name:Str}{apos bj:Pos}{id:String}{h:Str->List Tr->Rs Tr}
theorem OB(slot:Slot "str" name id)(B7:typeOf (.builtin id)=pure (.type "method_descriptor"))(hm:HL X id (rM X h))(ho:QE X o F)(ha:QA X (e::es) L)(pa:PlainAttrs "str":=by exact PySem.F.plainAttrs_str) (lr:isCall o=false:=by rfl) (bx:aI (e::es)=true:=by rfl) (hn:(e::es).length<30:=by decide) (gv:(apos.endLine==bj.line)=true:=by rfl):QE X (.Call (.Attribute o name apos) (e::es) [] bj) (fun ρ=>mS h (F ρ) (L ρ)):=⟨NK slot B7 hm ho.h ha.h pa lr bx hn gv⟩
end
section
variable {X:Cx}{a e:Expr}{pos:Pos}{F:ax->Rs Tr}
theorem K_(ha:QE X a F):QE X (.UnaryOp .USub a pos) (fun ρ=>(F ρ).bind F2):=⟨JR ha.h⟩
end
section
variable {X:Cx}{a e o f:Expr}{pos apos bj:Pos}{F G E:ax->Rs Tr}{keys:List (Option Expr)}{vals:List Expr}{P:ax->Rs (List (Tr×Tr))}
theorem GN(h:QP X pos keys vals P)(o4:keys.all (·.isSome)=true:=by rfl) (hl:keys.length=vals.length:=by rfl) (h0:keys.isEmpty=false:=by rfl) (yA:keys.length<=15:=by decide):QE X (.Dict keys vals pos) (fun ρ=>JS (P ρ)):=⟨F5 h o4 hl h0 yA⟩
end
section
variable {X:Cx}{pins:List (Addr×Obj)}{σ:St}
theorem AW{tg l:Expr}{F:ax->Rs Tr}(hl:QE X l F):QJ X tg l (fun ρ=>Kf (F ρ)):=⟨Kg hl.h⟩
end
section
variable {X:Cx}{pins:List (Addr×Obj)}{σ:St}{a b e:Expr}{es:List Expr}{pos:Pos}{F G:ax->Rs Tr}{A:ax->Rs Bool}{scope:Scope}{N':List Str}{ix:List (Option Nat)}{elt iter tg:Expr}{ifs:List Expr}{T:kx}{W:ax->Rs (List Tr)}
theorem Ek(Lk:dI X N' ix scope)(hi:QJ X tg iter W)(kq:wF X scope N' tg elt ifs T A F)(hT:fG T)(hc:X.calm=true:=by rfl) (hs:isSet iter=false:=by rfl):QE X (.ListComp elt [⟨tg,iter,ifs,0⟩] scope pos) (fun ρ=>mM ix T A F (W ρ) ρ):=⟨Kh Lk hi.h kq.to hT hc hs⟩
end
section
variable {X:Cx}{o e:Expr}{es:List Expr}{p pos qv apos bj:Pos}{F G:ax->Rs Tr}{L:ax->Rs (List Tr)}
theorem K'{x1}(hu:X.A.units+1<cLine)(ht:QA X es L)(he:QE X e G)(bx:aI [e]=true:=by rfl) (gv:(apos.endLine==bj.line)=true:=by rfl):QE X (.Call (.Attribute (.Tuple es x1 qv) "index" apos) [e] [] bj) (fun ρ=>(L ρ).bind fun ts=>if ts.length<=iS then(G ρ).bind (wq ts)else .bad):=⟨Kv hu ht.h he.h bx gv⟩
end
section
variable {X:Cx}{o e:Expr}{es:List Expr}{p pos qv apos bj:Pos}{F G:ax->Rs Tr}{L:ax->Rs (List Tr)}{c m:Str}{st:Stmt}{ps:List Str}{f:Addr}{fd:FuncData}{k:Nat}{h:List Tr->Rs Tr}
theorem GO(D:MethAt X.K c m st ps f fd)(G:cf X.prog X.w X.K X.mg X.base j8 k f fd ps (spT X.K h))(hr:bq k X.A)(ho:QE X o F)(ha:QA X (e::es) L){pl:Sem Bool}(bx:aI (e::es)=true:=by rfl) (ht:eval (.Call (.Attribute o m apos) (e::es) [] pos) X.env=(do
   let ov<-eval o X.env
   standAt apos.atName
   let(f,first)<-holding [ov] (getMethod ov m pl)
   callWith pos f first (backTo pos (starEach (e::es) X.env)) (backToKw pos (keywordEach [] X.env))):=by rfl):QE X (.Call (.Attribute o m apos) (e::es) [] pos) (fun ρ=>jn c m h (F ρ) (L ρ)):=⟨Gv D G hr ho.h ha.h bx ht⟩
theorem De(D:MethAt X.K c m st ps f fd)(G:cf X.prog X.w X.K X.mg X.base j8 k f fd ps (spT X.K h))(hr:bq k X.A)(ho:QE X o F){pl:Sem Bool}(ht:eval (.Call (.Attribute o m apos) [] [] pos) X.env=(do
   let ov<-eval o X.env
   standAt apos.atName
   let(f,first)<-holding [ov] (getMethod ov m pl)
   callWith pos f first (backTo pos (starEach [] X.env)) (backToKw pos (keywordEach [] X.env))):=by rfl):QE X (.Call (.Attribute o m apos) [] [] pos) (fun ρ=>jn c m h (F ρ) (.ok [])):=⟨C3 D G hr ho.h ht⟩
end
section
variable {X:Cx}{l:Expr}{p1 p2 AH uU:Pos}{F:ax->Rs Tr}
theorem GP(hs:X.mg "sorted"=none)(hm:X.mg "set"=none)(hl:QE X l F)(hc:X.calm=true:=by rfl) (hg:Gl X "sorted":=by rfl) (KW:Gl X "set":=by rfl) (bx:aI [l]=true:=by rfl):QE X (.Call (.Name "sorted" p1) [.Call (.Name "set" p2) [l] [] uU] [] AH) (fun ρ=>(F ρ).bind dv):=⟨GH hs hm hl.h hc hg KW bx⟩
end
section
variable {X:Cx}{p:Pos}{tg:Expr}
theorem GQ{x:Str}{ks:List Str}(T:sL X.K X.w X.mg x ks)(hg:Gl X x:=by rfl) (dG:(x==("__debug__":Str))=false:=by decide):QI X tg (.Name x p) (fun _=>.ok (ks.map .str)):=⟨GI T hg dG⟩
end
section
variable {X:Cx}{e:Expr}{es:List Expr}{F:ax->Rs Tr}{P:ax->Rs Bool}{L:ax->Rs (List Tr)}{FZ GZ:ax->Ab->Rz Tr}{LZ:ax->Ab->Rz (List Tr)}
theorem ag(h:QE X e F):ZE X e (fun ρ A=>bw (F ρ) A):=⟨F_ h.h⟩
theorem ay(h:QE X e F):ZE X e (fun ρ A=>ie (F (aM A ρ)) A):=⟨F' h.h⟩
theorem aU(h:QT X e P):ZT X e (fun ρ A=>bw (P (aM A ρ)) A):=⟨CN h.h⟩
theorem cD(h:NE X e F):ZE X e (fun ρ A=>kf (F (aM A ρ)) A):=⟨J1 h.h⟩
end
section
variable {X:Cx}{a b c e:Expr}{pos:Pos}{F:ax->Ab->Rz Tr}{G G':ax->Ab->Rz Out}{P:ax->Ab->Rz Bool}{st:Stmt}{rest Jv:List Stmt}
theorem bK:ZB X [] (fun ρ A=>.ok (.nx ρ) A):=⟨J2⟩
theorem aw(h1:ZS X st G)(h2:ZB X rest G'):ZB X (st::rest) (fun ρ A=>dr (G ρ A) G'):=⟨Ga h1.h h2.h⟩
theorem aJ(h1:ZS X st G):ZB X [st] G:=⟨J3 h1.h⟩
theorem js:ZS X st (fun _ _=>.bad):=⟨J4⟩
theorem gH:ZE X e (fun _ _=>.bad):=⟨J5⟩
theorem eG{i:Nat}{x:Str}{pos':Pos}(he:ZE X e F)(hN:X.N.Nodup:=by assumption) (hi:X.N[i]?=some x:=by rfl) (hx:Loc X.env.scope x:=by first|exact Or.inl rfl|exact Or.inr rfl) (hs:j_ e=false:=by rfl) (hf:X.fn x=true\/X.env.scope.names.lookup x=some .local:=by first|exact .inl rfl|exact .inr rfl|assumption):ZS X (.Assign [.Name x pos'] e pos) (fun ρ A=>ig i (F ρ A) ρ):=⟨J7 he.h hN hi hx hs hf⟩
theorem bN(he:ZE X e F):ZS X (.Return (some e) pos) (fun ρ A=>qB (F ρ A)):=⟨J8 he.h⟩
theorem GR:ZS X (.Return none pos) (fun _ A=>.ok (.ret .a_) A):=⟨Gd⟩
theorem bh(he:ZE X e F)(hs:j_ e=false:=by rfl):ZS X (.Expr e pos) (fun ρ A=>dt (F ρ A) ρ):=⟨Ge he.h hs⟩
theorem cF{ys ns:List Stmt}(hc:ZT X c P)(h1:ZB X ys G)(h2:ZB X ns G'):ZS X (.If c ys ns pos) (fun ρ A=>Ai (P ρ A) (G ρ) (G' ρ)):=⟨NR hc.h h1.h h2.h⟩
theorem La{tg:Expr}{T:kx}(hg:QG X tg T)(hT:fG T)(he:ZE X e F)(hs:swapsWithSole [tg] e pos.line X.env=pure false:=by rfl) (hw:swappedStores [tg] e X.env=pure none:=by rfl) (h1:(assignEach [tg] X.env).map (·.2)=[assign tg X.env]:=by rfl):ZS X (.Assign [tg] e pos) (fun ρ A=>J9 T (F ρ A) ρ):=⟨J_ hg.h hT he.h hs hw h1⟩
theorem u5{tg iter:Expr}{body:List Stmt}{W:ax->Rs (List Tr)}{T:kx}(hi:QI X tg iter W)(hg:QG X tg T)(hT:fG T)(hb:ZB X body G)(hp:PassesOwn (model X.prog X.w) X.A X.env X.xe:=by first|exact PassesOwn.never|exact PassesOwn.leaving) (hc:X.calm=true:=by rfl) (hs:isSet iter=false:=by rfl):ZS X (.For tg iter body [] pos) (fun ρ A=>rA T G (bw (W ρ) A) ρ):=⟨J' hi.h hg.h hT hb.h hp hc hs⟩
end
section
variable {X:Cx}{a e o:Expr}{es:List Expr}{F:ax->Ab->Rz Tr}{L:ax->Ab->Rz (List Tr)}{name:Str}{apos bj:Pos}{id:String}
theorem aS:ZL X [] (fun _ A=>.ok [] A):=⟨Aj⟩
theorem aj(h1:ZE X a F)(hr:ZL X es L)(hs:isStar a=false:=by rfl):ZL X (a::es) (fun ρ A=>b_ (F ρ A) (L ρ)):=⟨xH h1.h hr.h hs⟩
end
section
variable {X:Cx}{a e o:Expr}{es:List Expr}{F:ax->Ab->Rz Tr}{L:ax->Ab->Rz (List Tr)}{name:Str}{apos bj:Pos}{id:String}{r:V->List V->Hp->VK->Prop}{h:Nat->List Tr->Ab->Rz Tr}
theorem mU(slot:Slot "list" name id)(B7:typeOf (.builtin id)=pure (.type "method_descriptor"))(hm:L7 X id r)(hz:NT X r h)(ho:ZO X o F)(ha:ZL X (e::es) L)(pa:PlainAttrs "list":=by exact PySem.F.plainAttrs_list) (lr:isCall o=false:=by rfl) (bx:aI (e::es)=true:=by rfl) (hn:(e::es).length<30:=by decide) (gv:(apos.endLine==bj.line)=true:=by rfl):ZE X (.Call (.Attribute o name apos) (e::es) [] bj) (fun ρ A=>CO h (F ρ A) (L ρ)):=⟨Kb slot B7 hm hz ho.h ha.h pa lr bx hn gv⟩
end
section
variable {X:Cx}{a b e:Expr}{es:List Expr}{pos:Pos}{F G:ax->Rs Tr}{L:ax->Rs (List Tr)}{A:ax->Rs Bool}
theorem lS(h:QA X es L):NE X (.List es pos) (fun ρ=>z5 (L ρ)):=⟨Kc h.h⟩
theorem gg:NE X (.Dict [] [] pos) (fun _=>.ok (.a8 [])):=⟨Gh⟩
theorem GS:NE X (.Dict [] [] pos) (fun _=>.ok (.dB [])):=⟨Gi⟩
end
section
variable {X:Cx}{a b e:Expr}{es:List Expr}{pos:Pos}{F G:ax->Rs Tr}{L:ax->Rs (List Tr)}{A:ax->Rs Bool}{scope:Scope}{N':List Str}{ix:List (Option Nat)}{elt iter tg:Expr}{ifs:List Expr}{T:kx}{W:ax->Rs (List Tr)}
theorem OC(Lk:dI X N' ix scope)(hi:QI X tg iter W)(kq:wF X scope N' tg elt ifs T A F)(hT:fG T)(hc:X.calm=true:=by rfl) (hs:isSet iter=false:=by rfl):NE X (.ListComp elt [⟨tg,iter,ifs,0⟩] scope pos) (fun ρ=>mM ix T A F (W ρ) ρ):=⟨NU Lk hi.h kq.to hT hc hs⟩
theorem x6{i:Nat}{x:Str}{px lB:Pos}(Lk:dI X N' ix scope)(hit:QI X tg iter W)(kq:wF X scope N' tg elt ifs T A F)(hT:fG T)(hN:X.N.Nodup:=by assumption) (hc:X.calm=true:=by rfl) (hi:X.N[i]?=some x:=by rfl) (hx:Loc X.env.scope x:=by first|exact Or.inl rfl|exact Or.inr rfl) (Cf:swapsWith (.ListComp elt [⟨tg,iter,ifs,0⟩] scope pos) (some (.Name x px)) lB.line X.env=pure true:=by rfl) (hs:isSet iter=false:=by rfl) (hf:X.fn x=true\/X.env.scope.names.lookup x=some .local:=by first|exact .inl rfl|exact .inr rfl|assumption):ZS X (.Assign [.Name x px] (.ListComp elt [⟨tg,iter,ifs,0⟩] scope pos) lB) (fun ρ A'=>ig i (kf (mM ix T A F (W (aM A' ρ)) (aM A' ρ)) A') ρ):=⟨CT Lk hit.h kq.to hT hN hc hi hx Cf hs hf⟩
theorem u6{T:String}{x:Str}{p:Pos}{e:Expr}{h:List Tr->Rs Tr}(hc:cV X (.type T) (rF X h))(hm:X.mg x=none)(ha:QA X (e::es) L)(hv:bootBuiltins x=some (.type T):=by rfl) (hg:Gl X x:=by rfl) (hn:x≠"__name__":=by decide) (dG:(x==("__debug__":Str))=false:=by decide) (bx:aI (e::es)=true:=by rfl):NE X (.Call (.Name x p) (e::es) [] pos) (fun ρ=>cp h (L ρ)):=⟨Al hc hm ha.h hv hg hn dG bx⟩
end
section
variable {X:Cx}{o e:Expr}{es:List Expr}{p pos apos:Pos}{F:ax->Ab->Rz Tr}{L:ax->Ab->Rz (List Tr)}{h:List Tr->Ab->Rz Tr}{x:Str}{st:Stmt}{ps:List Str}{f:Addr}{fd:FuncData}{k:Nat}
theorem Lb(D:qU X.K X.mg x st ps f fd)(G:cf X.prog X.w X.K X.mg X.base (nc X.prog X.w) k f fd ps (pI X.K h))(hr:bq k X.A)(ha:ZL X (e::es) L)(hx:X.ex=[]:=by rfl) (hg:Gl X x:=by rfl) (dG:(x==("__debug__":Str))=false:=by decide) (bx:aI (e::es)=true:=by rfl):ZE X (.Call (.Name x p) (e::es) [] pos) (fun ρ A=>(L ρ A).bind h):=⟨Kw D G hr ha.h hx hg dG bx⟩
end
section
variable {X:Cx}{o e:Expr}{es:List Expr}{p pos apos:Pos}{F:ax->Ab->Rz Tr}{L:ax->Ab->Rz (List Tr)}{h:List Tr->Ab->Rz Tr}{x:Str}{st:Stmt}{ps:List Str}{f:Addr}{fd:FuncData}{k:Nat}{c m:Str}
theorem GU(D:MethAt X.K c m st ps f fd)(G:cf X.prog X.w X.K X.mg X.base (nc X.prog X.w) k f fd ps (pI X.K h))(hr:bq k X.A)(ho:ZO X o F)(ha:ZL X (e::es) L){pl:Sem Bool}(hx:X.ex=[]:=by rfl) (bx:aI (e::es)=true:=by rfl) (ht:eval (.Call (.Attribute o m apos) (e::es) [] pos) X.env=(do
   let ov<-eval o X.env
   standAt apos.atName
   let(f,first)<-holding [ov] (getMethod ov m pl)
   callWith pos f first (backTo pos (starEach (e::es) X.env)) (backToKw pos (keywordEach [] X.env))):=by rfl):ZE X (.Call (.Attribute o m apos) (e::es) [] pos) (fun ρ A=>dh c m h (F ρ A) (L ρ)):=⟨Gw D G hr ho.h ha.h hx bx ht⟩
theorem Dg(D:MethAt X.K c m st ps f fd)(G:cf X.prog X.w X.K X.mg X.base (nc X.prog X.w) k f fd ps (pI X.K h))(hr:bq k X.A)(ho:ZO X o F){pl:Sem Bool}(hx:X.ex=[]:=by rfl) (ht:eval (.Call (.Attribute o m apos) [] [] pos) X.env=(do
   let ov<-eval o X.env
   standAt apos.atName
   let(f,first)<-holding [ov] (getMethod ov m pl)
   callWith pos f first (backTo pos (starEach [] X.env)) (backToKw pos (keywordEach [] X.env))):=by rfl):ZE X (.Call (.Attribute o m apos) [] [] pos) (fun ρ A=>dh c m h (F ρ A) fun A=>.ok [] A):=⟨C5 D G hr ho.h hx ht⟩
end
section
variable {X:Cx}{o e value:Expr}{f:Str}{pos pos':Pos}{xs:List Str}{F:ax->Rs Tr}{E G:ax->Ab->Rz Tr}
theorem bO(T:di X.K xs f)(he:QE X e F)(hb:attributeBase e f X.env (eval e X.env)=eval e X.env:=by first|exact e7 rfl|rfl):QE X (.Attribute e f pos) (fun ρ=>(F ρ).bind (iL xs f)):=⟨Gy T he.h hb⟩
theorem gi(T:di X.K xs f)(he:ZE X e G)(hb:attributeBase e f X.env (eval e X.env)=eval e X.env:=by first|exact e7 rfl|rfl):ZE X (.Attribute e f pos) (fun ρ A=>qG xs f (G ρ A)):=⟨Gz T he.h hb⟩
theorem gI(T:di X.K xs f)(ho:ZE X o G)(hv:ZE X value E):ZS X (.Assign [.Attribute o f pos'] value pos) (fun ρ A=>Ky xs f (E ρ A) (G ρ) ρ):=⟨Kz T ho.h hv.h⟩
end
section
variable {X:Cx}{a b o i e value:Expr}{es:List Expr}{pos pos' p apos bj:Pos}{F G E:ax->Ab->Rz Tr}{L:ax->Ab->Rz (List Tr)}{h:Tr->Tr->Rs Tr}
theorem pO(hu:X.A.units+1<cLine)(h1:ZO X a F)(h2:ZE X b G)(hs:fV b:=by exact fun _ _=>rfl):ZE X (.Subscript a b pos) (fun ρ A=>C7 pj (F ρ A) (G ρ)):=⟨Ol hu h1.h h2.h hs⟩
theorem ir(hu:X.A.units+1<cLine)(ho:ZO X o F)(hi:ZE X i G)(hv:ZE X value E):ZS X (.Assign [.Subscript o i pos'] value pos) (fun ρ A=>KC (E ρ A) (F ρ) (G ρ) ρ):=⟨GA hu ho.h hi.h hv.h⟩
end
section
variable {X:Cx}{o e f:Expr}{es:List Expr}{p pos apos bj:Pos}{F G E:ax->Ab->Rz Tr}{L:ax->Ab->Rz (List Tr)}
theorem GV(ho:ZO X o F)(he:ZE X e G)(hf:ZE X f E)(hb:isCall o=false:=by rfl) (bx:aI [e,f]=true:=by rfl) (hl:(apos.endLine==bj.line)=true:=by rfl):ZE X (.Call (.Attribute o "pop" apos) [e,f] [] bj) (fun ρ A=>Eg (F ρ A) (G ρ) (E ρ)):=⟨GB ho.h he.h hf.h hb bx hl⟩
end
section
variable {X:Cx}{o e f:Expr}{es:List Expr}{p pos apos bj:Pos}{F G E:ax->Ab->Rz Tr}{L:ax->Ab->Rz (List Tr)}{c:Str}{h:List Tr->Ab->Rz Tr}{fa:Addr}{fd:FuncData}{ps:List Str}{k:Nat}
theorem GW(D:pJ X.K X.mg c ps fa fd)(G:cf X.prog X.w X.K X.mg X.base (nc X.prog X.w) k fa fd ps (pI X.K h))(hr:bq (k+1) X.A)(ha:ZL X (e::es) L)(hx:X.ex=[]:=by rfl) (hg:Gl X c:=by rfl) (dG:(c==("__debug__":Str))=false:=by decide) (bx:aI (e::es)=true:=by rfl):ZE X (.Call (.Name c p) (e::es) [] pos) (fun ρ A=>lO c h (L ρ A)):=⟨GC D G hr ha.h hx hg dG bx⟩
theorem Dh(D:pJ X.K X.mg c ps fa fd)(G:cf X.prog X.w X.K X.mg X.base (nc X.prog X.w) k fa fd ps (pI X.K h))(hr:bq (k+1) X.A)(hx:X.ex=[]:=by rfl) (hg:Gl X c:=by rfl) (dG:(c==("__debug__":Str))=false:=by decide):ZE X (.Call (.Name c p) [] [] pos) (fun _ A=>lO c h (.ok [] A)):=⟨C8 D G hr hx hg dG⟩
end
section
variable {X:Cx}{a b e:Expr}{es:List Expr}{pos:Pos}{F G:ax->Rs Tr}{L:ax->Rs (List Tr)}{A:ax->Rs Bool}{scope:Scope}{N':List Str}{ix:List (Option Nat)}{elt iter tg:Expr}{ifs:List Expr}{T:kx}{W:ax->Rs (List Tr)}
theorem AX{i:Nat}{x:Str}{px lB:Pos}(Lk:dI X N' ix scope)(hit:QJ X tg iter W)(kq:wF X scope N' tg elt ifs T A F)(hT:fG T)(hN:X.N.Nodup:=by assumption) (hc:X.calm=true:=by rfl) (hi:X.N[i]?=some x:=by rfl) (hx:Loc X.env.scope x:=by first|exact Or.inl rfl|exact Or.inr rfl) (Cf:swapsWith (.ListComp elt [⟨tg,iter,ifs,0⟩] scope pos) (some (.Name x px)) lB.line X.env=pure true:=by rfl) (hs:isSet iter=false:=by rfl) (hf:X.fn x=true\/X.env.scope.names.lookup x=some .local:=by first|exact .inl rfl|exact .inr rfl|assumption):ZS X (.Assign [.Name x px] (.ListComp elt [⟨tg,iter,ifs,0⟩] scope pos) lB) (fun ρ A'=>ig i (kf (mM ix T A F (W (aM A' ρ)) (aM A' ρ)) A') ρ):=⟨AN Lk hit.h kq.to hT hN hc hi hx Cf hs hf⟩
end
section
variable {X:Cx}{a b e:Expr}{es:List Expr}{pos:Pos}{F:ax->Ab->Rz Tr}{P:ax->Ab->Rz Bool}{c n:Str}{tp hp:Pos}{xs:List Str}{i:Nat}{body KN:List Stmt}{Ot:Stmt}{G G2:ax->Ab->Rz Out}{st:Stmt}
theorem Lc:QE X a (fun _=>.bad):=⟨KO⟩
theorem Ld:QS X st (fun _=>.bad):=⟨KQ⟩
end
section
variable {X:Cx}{o e:Expr}{p pos apos bj:Pos}{F G:ax->Ab->Rz Tr}
theorem Le(ho:ZO X o F)(he:ZE X e G)(hb:isCall o=false:=by rfl) (bx:aI [e]=true:=by rfl) (hl:(apos.endLine==bj.line)=true:=by rfl):ZE X (.Call (.Attribute o "update" apos) [e] [] bj) (fun ρ A=>KY (F ρ A) (G ρ)):=⟨KZ ho.h he.h hb bx hl⟩
end
section
variable {X:Cx}{e:Expr}{F:ax->Rs Tr}{P1 P2:ax->Rs (Option Int)}{lo hi:Option Expr}{p2 pos:Pos}
theorem x8(he:QE X e F)(hl:QO X lo P1)(hu:QO X hi P2):QE X (.Subscript e (.Slice lo hi none p2) pos) (fun ρ=>GK (F ρ) (P1 ρ) (P2 ρ)):=⟨K4 he.h hl.h hu.h⟩
end
theorem wH{X:Cx}{pos:Pos}{F G:ax->Rs Tr}{keys:List (Option Expr)}{vals:List Expr}{P:ax->Rs (List (Tr×Tr))}{k v:Expr}(hk:QE X k F)(hv:QE X v G)(hr:QP X pos keys vals P):QP X pos (some k::keys) (v::vals) fun ρ=>D6 (F ρ) (G ρ) (P ρ):=CL hk.h hv.h hr
theorem qg.Se {P:Program}{w:World}{K:PySem.W.Frag}{mg:Str->Option Value}{base:Heap}{x qual:Str}{st:Stmt}{f:Addr}{fd:FuncData}{N ps:List Str}{k:Nat}{h:List Tr->Rs Tr}(Fn:qg K x qual st f fd)(S:cY N ps (aC st))(len:∀ts t,h ts=.ok t->ts.length=ps.length)
  (fm:∀(cC:Value) (A:Around) (outer:List Env) (s:Shared) (H:Hp) (E:XK),bq k (A.deeper (envOfC qual (aC st) s.heap.objs.size f cC))->
   ∃G,QB (iR j8 P w K mg base N qual (aC st) f cC A outer s H E).zi (cz st) G/\∀ts t,h ts=.ok t->fW (G (startT N.length ts))=.ok t):cf P w K mg base j8 (k+1) f fd ps (spT K h):=
 Fn.Rc S len fun cC A outer s H E hr=>let⟨G,h,q⟩:=fm cC A outer s H E hr;⟨G,h.h,q⟩
theorem qg.OD {P:Program}{w:World}{K:PySem.W.Frag}{mg:Str->Option Value}{base:Heap}{x qual:Str}{st:Stmt}{f:Addr}{fd:FuncData}{N ps:List Str}{k:Nat}{h:List Tr->Rs Tr}(Fn:qg K x qual st f fd)(S:cY N ps (aC st))(len:∀ts t,h ts=.ok t->ts.length=ps.length)
  (fm:∀(cC:Value) (A:Around) (outer:List Env) (s:Shared) (H:Hp) (E:XK),bq k (A.deeper (envOfC qual (aC st) s.heap.objs.size f cC))->
   ∃G,ZB (iR j8 P w K mg base N qual (aC st) f cC A outer s H E).zi (cz st) G/\∀ts t,h ts=.ok t->eC ts=true/\xI (G (startT N.length ts) [])=.ok t):cf P w K mg base j8 (k+1) f fd ps (spT K h):=
 Fn.Rr S len fun cC A outer s H E hr=>let⟨G,h,q⟩:=fm cC A outer s H E hr;⟨G,h.h,q⟩
theorem iu{X:Cx}{pos:Pos}{F G:ax->Ab->Rz Tr}{keys:List (Option Expr)}{vals:List Expr}{P:ax->Ab->Rz (List (Tr×Tr))}{k v:Expr}(hk:ZE X k F)(hv:ZE X v G)(hr:GD X pos keys vals P):GD X pos (some k::keys) (v::vals) fun ρ A=>Eh (F ρ A) (G ρ) (P ρ):=AL hk.h hv.h hr
theorem AY{X:Cx}{pos:Pos}{keys:List (Option Expr)}{vals:List Expr}{P:ax->Ab->Rz (List (Tr×Tr))}(h:GD X pos keys vals P)(o4:keys.all (·.isSome)=true:=by rfl) (hl:keys.length=vals.length:=by rfl) (h0:keys.isEmpty=false:=by rfl) (yA:keys.length<=15:=by decide):ZE X (.Dict keys vals pos) (fun ρ A=>KL (P ρ) A):=⟨C9 h o4 hl h0 yA⟩
theorem qg.OE {P:Program}{w:World}{K:PySem.W.Frag}{mg:Str->Option Value}{base:Heap}{x qual:Str}{st:Stmt}{f:Addr}{fd:FuncData}{N ps:List Str}{k:Nat}{h:List Tr->Ab->Rz Tr}(Fn:qg K x qual st f fd)(S:cY N ps (aC st))(len:∀ts A,h ts A≠ .bad->ts.length=ps.length)
  (fm:∀(cC:Value) (A:Around) (outer:List Env) (s:Shared) (H:Hp) (E:XK),bq k (A.deeper (envOfC qual (aC st) s.heap.objs.size f cC))->
   ∃G,ZB (iR (nc P w) P w K mg base N qual (aC st) f cC A outer s H E) (cz st) G/\∀ts A,h ts A≠ .bad->h ts A=du (G (startT N.length ts) A)):cf P w K mg base (nc P w) (k+1) f fd ps (pI K h):=
 Fn.RT S len fun cC A outer s H E hr=>let⟨G,h,q⟩:=fm cC A outer s H E hr;⟨G,h.h,q⟩
end L2
namespace L2
open PySem PySem.Spec PyProof.Rows
def x9:List Tr->Option (List Key)
 |[]=>some []
 |t::ts=>match jg t,x9 ts with
  |some k,some ks=>some (k::ks)
  |_,_=>none
def wI:Tr->Option (List Key)
 |.tup ts=>x9 ts
 |_=>none
def jt(av:List (List Key×Tr))(k:List Key):Option Tr:=(av.find? fun kv=>decide (kv.1=k)).map (·.2)
section
variable {K:PySem.W.Frag}
theorem rS{H:Vw}:∀{ts:List Tr} {vs:List V} {ks:List Key},aF K H vs ts->x9 ts=some ks->vs=ks.map kV
 |[],_,_,r,e=>by cases e;cases r;rfl
 |t::ts,_,ks,r,e=>by
  cases r with
  |cons h r=>
   unfold x9 at e;split at e
   ·rename_i e1 e2;cases e;rw[ib h e1,rS r e2];rfl
   ·cases e
theorem u7{B:br}{H:Hp}{v:V}{t:Tr}{ks:List Key}(r:Rep K (aT B H) v t)(e:wI t=some ks):∃b,v=.ref b/\H b=some (.tup (ks.map kV)):=by
 unfold wI at e;split at e
 ·obtain⟨a,vs,rfl,h,rr⟩:=r.zY;have:=rS rr e;subst this;exact⟨a,rfl,aR _ _ h⟩
 ·cases e
theorem u9{H:Vw}(k:List Key):∀{ah:List (List Key×V)} {av:List (List Key×Tr)},ah.map (·.1)=av.map (·.1)->aF K H (ah.map (·.2)) (av.map (·.2))->(jt av k=none/\f' ah k=none)\/∃t v,jt av k=some t/\f' ah k=some v/\Rep K H v t
 |[],[],_,_=>.inl ⟨rfl,rfl⟩
 |[],_::_,e,_=>by cases e
 |_::_,[],e,_=>by cases e
 |(k1,v1)::ah,(k2,t2)::av,e,r=>by
  rw[aK,aK]at e;injection e with e1 e2
  have Aa:k1=k2:=e1;subst Aa;cases r with
  |cons h r=>
   by_cases q:k1=k
   ·refine .inr ⟨t2,v1,?_,i8 q,h⟩;unfold jt;rw[cW,dZ (show(k1,t2).1=k from q)]
    rfl
   ·rw[i9 q];have e3:jt ((k1,t2)::av) k=jt av k:=by
     unfold jt;rw[cW,cw (show¬(k1,t2).1=k from q)]
    rw[e3];exact u9 k e2 r
theorem Rep.Di {H:Vw}{v:V}{av:List (List Key×Tr)}(h:Rep K H v (.dB av)):∃a ah,v=.ref a/\Rd H.H a (.dT ah)/\ah.map (·.1)=av.map (·.1)/\aF K H (ah.map (·.2)) (av.map (·.2)):=by
 cases h;exact⟨_,_,rfl,by assumption,by assumption,by assumption⟩
theorem El{B:br}{H:Hp}{x y:V}{ty:Tr}{av:List (List Key×Tr)}{k:List Key}(r:Rep K (aT B H) x (.dB av))(r2:Rep K (aT B H) y ty)(ek:wI ty=some k):
  ∃a o,x=.ref a/\m7 H a y o/\((jt av k=none/\o=none)\/∃t v,jt av k=some t/\o=some v/\Rep K (aT B H) v t):=by
 obtain⟨a,ah,rfl,h,e,rr⟩:=r.Di;obtain⟨b,rfl,hb⟩:=u7 r2 ek;refine⟨a,_,rfl,.inr ⟨ah,k,b,h.same aR,rfl,hb,rfl⟩,?_⟩;rcases u9 k e rr with⟨h1,h2⟩|⟨t,v,h1,h2,h3⟩
 ·exact .inl ⟨h1,h2⟩
 ·exact .inr ⟨t,v,h1,h2,h3⟩
end
section
variable {X:Cx}{a b:Expr}{pos:Pos}{F G:ax->Rs Tr}
def Lf:Tr->Tr->Rs Tr
 |.dB av,t=>(mr (wI t)).bind fun k=>mr (jt av k)
 |_,_=>.bad
theorem Lg(hu:X.A.units+1<cLine):HK X (rT X Lf):=by
 intro value slice pins s σ H x y v u Q I rx ry ⟨B,tx,ty,hb,r1,r2,q⟩ hs;unfold Lf at q;split at q
 ·obtain⟨k,ek,qk⟩:=cJ (Fi.bind q);obtain⟨t,et,qt⟩:=cJ qk;obtain⟨a,o,rfl,g,ho⟩:=El r1 r2 ek;rcases ho with⟨h1,_⟩|⟨t',w,h1,rfl,j7⟩
  ·cases et.symm.trans h1
  ·cases et.symm.trans h1;cases(show v=Value.ref a from rx);exact tail_any (mJ I g) nS.lookup (qT hu I g ry fun w' s' I' rv=>⟨w,H,I',rv,qt w H (ar.refl H) j7⟩) hs
 ·exact(show False from q).elim
theorem Lh(hu:X.A.units+1<cLine)(ha:QE X a F)(hb:QE X b G)(hs:fV b:=by exact fun _ _=>rfl):QE X (.Subscript a b pos) (fun ρ=>ff Lf (F ρ) (G ρ)):=
 ⟨(w_ (Lg hu) ha.h hb.h hs).weak fun _ _ _ q=>i' q⟩
def Dj:Tr->Tr->Rs Tr
 |x,.dB av=>(mr (wI x)).bind fun k=>.ok (.bl (!(jt av k).isSome))
 |_,_=>.bad
theorem GX(hu:X.A.units+1<cLine):qZ X (compareOp .NotIn) Dj:=by
 intro pins s σ H x y v u Q I rx ry ⟨B,tx,ty,hb,r1,r2,q⟩;unfold Dj at q;split at q
 ·obtain⟨k,ek,qk⟩:=cJ (Fi.bind q);obtain⟨a,o,rfl,g,ho⟩:=El r2 r1 ek;cases(show u=Value.ref a from ry);refine xg hu I g rx fun s' I'=>⟨.bl _,H,I',rfl,?_⟩;rcases ho with⟨h1,rfl⟩|⟨t',w,h1,rfl,_⟩<;>rw[h1]at qk<;>exact qk _ H (ar.refl H) (.bl _)
 ·exact(show False from q).elim
end
end L2
namespace L2
open PySem PySem.Spec PyProof.Rows
def sN(av:List (List Key×Tr))(k:List Key)(t:Tr):List (List Key×Tr):=
 if(av.any fun kv=>decide (kv.1=k))=true then av.map (fun kv=>if kv.1=k then(kv.1,t)else kv)else av++[(k,t)]
structure eI(K:PySem.W.Frag)(H:Vw)(ah:List (List Key×V))(av:List (List Key×Tr)):Prop where
 keys:ah.map (·.1)=av.map (·.1)
 vals:aF K H (ah.map (·.2)) (av.map (·.2))
section
variable {K:PySem.W.Frag}{H H':Vw}
theorem eI.nil:eI K H [] []:=⟨rfl,.nil⟩
theorem eI.cons {k:List Key}{v:V}{t:Tr}{ah:List (List Key×V)}{av:List (List Key×Tr)}(r:Rep K H v t)(h:eI K H ah av):eI K H ((k,v)::ah) ((k,t)::av):=⟨by rw[aK,aK,h.keys],.cons r h.vals⟩
theorem eI.inv {k:List Key}{v:V}{ah:List (List Key×V)}{av:List (List Key×Tr)}(h:eI K H ((k,v)::ah) av):∃t r,av=(k,t)::r/\Rep K H v t/\eI K H ah r:=by
 obtain⟨e,r⟩:=h
 match av,e,r with
 |(k2,t)::rest,e,r=>
  rw[aK,aK]at e;injection e with e1 e2
  have Aa:k=k2:=e1;subst Aa;cases r with
  |cons h1 h2=>exact⟨t,rest,rfl,h1,e2,h2⟩
theorem eI.any (k:List Key):∀{ah:List (List Key×V)} {av:List (List Key×Tr)},eI K H ah av->(ah.any fun kv=>decide (kv.1=k))=av.any fun kv=>decide (kv.1=k)
 |[],av,h=>by
  have e:=h.keys;cases av with
  |nil=>rfl
  |cons a b=>cases e
 |(j,v)::ah,av,h=>by
  obtain⟨t,r,rfl,_,h2⟩:=h.inv;rw[eX,eX,eI.any k h2]
theorem eI.map (k:List Key){y:V}{u:Tr}(ry:Rep K H y u):∀{ah:List (List Key×V)} {av:List (List Key×Tr)},eI K H ah av->eI K H (ah.map fun kv=>if kv.1=k then(kv.1,y)else kv) (av.map fun kv=>if kv.1=k then(kv.1,u)else kv)
 |[],av,h=>by
  have e:=h.keys;cases av with
  |nil=>exact .nil
  |cons a b=>cases e
 |(j,v)::ah,av,h=>by
  obtain⟨t,r,rfl,h1,h2⟩:=h.inv;rw[aK,aK];by_cases e:j=k
  ·rw[ae (show(j,v).1=k from e),ae (show(j,t).1=k from e)];exact .cons ry (eI.map k ry h2)
  ·rw[ai (show¬(j,v).1=k from e),ai (show¬(j,t).1=k from e)];exact .cons h1 (eI.map k ry h2)
theorem eI.snoc (k:List Key){y:V}{u:Tr}(ry:Rep K H y u):∀{ah:List (List Key×V)} {av:List (List Key×Tr)},eI K H ah av->eI K H (ah++[(k,y)]) (av++[(k,u)])
 |[],av,h=>by
  have e:=h.keys;cases av with
  |nil=>exact .cons ry .nil
  |cons a b=>cases e
 |(j,v)::ah,av,h=>by
  obtain⟨t,r,rfl,h1,h2⟩:=h.inv;exact .cons h1 (eI.snoc k ry h2)
theorem eI.put (k:List Key){y:V}{u:Tr}(ry:Rep K H y u){ah:List (List Key×V)}{av:List (List Key×Tr)}(h:eI K H ah av):eI K H (putK ah k y) (sN av k u):=by
 unfold putK sN;rw[h.any k];by_cases e:(av.any fun kv=>decide (kv.1=k))=true
 ·rw[ae e,ae e];exact h.map k ry
 ·rw[ai e,ai e];exact h.snoc k ry
theorem eI.length {ah:List (List Key×V)}{av:List (List Key×Tr)}(h:eI K H ah av):ah.length=av.length:=by
 have e:=bE List.length h.keys;rw[aE,aE]at e;exact e
end
def u_(A:Ab)(t tk tv:Tr):Option Ab:=match t,wI tk with
 |.at i,some k=>match A[i]? with
  |some (.dB av)=>if av.length<iS then some (A.set i (.dB (sN av k tv)))else none
  |_=>none
 |_,_=>none
def Em(v:Rz Tr)(o k:Ab->Rz Tr)(ρ:ax):Rz Out:=v.bind fun tv A=>(o A).bind fun t A=>(k A).bind fun tk A=>match u_ A t tk tv with
 |some A'=>.ok (.nx ρ) A'
 |none=>.bad
theorem wJ{A A':Ab}{t tk tv:Tr}(e:u_ A t tk tv=some A'):∃j av key,t=.at j/\wI tk=some key/\A[j]?=some (.dB av)/\av.length<iS/\A'=A.set j (.dB (sN av key tv)):=by
 unfold u_ at e;split at e
 ·rename_i ek;split at e
  ·rename_i eo;split at e
   ·rename_i hl;cases e;exact⟨_,_,_,rfl,ek,eo,hl,rfl⟩
   ·cases e
  ·cases e
 ·cases e
section
variable {X:Cx}{o i value:Expr}{pos pos':Pos}{F G E:ax->Ab->Rz Tr}
theorem Dl(hu:X.A.units+1<cLine)(ho:ZO X o F)(hi:ZE X i G)(hv:ZE X value E):
  ZS X (.Assign [.Subscript o i pos'] value pos) (fun ρ A=>Em (E ρ A) (F ρ) (G ρ) ρ):=
 ⟨(xi hu ho.h hi.h hv.h rL).weak fun D σ H ⟨B0,H0,B,A,ρ,hb,g,ha,r,n,q⟩=>fX hb g ha r n q.bind fun tv A1 v B1 H1 q1 g1 iU r1 rv _=>fX hb g1 iU r1 n (dE.bind q1) fun t A2 w B2 H2 q2 g2 ky r2 j7 KA=>fX hb g2 ky r2 n (dE.bind q2) fun tk A3 y B3 H3 q3 g3 v9 r3 ry KD=>by
   have Om:=j7.same KD.fF;have Oo:=(rv.same KA.fF).same KD.fF;split at q3
   ·rename_i ed;obtain⟨j,av,key,rfl,ek,eo,hl,rfl⟩:=wJ ed;obtain⟨c,rfl,jS⟩:=Om.ia;obtain⟨hd,ah,h1,h2,h3⟩:=v9.get jS eo;have h2:eI X.K (aT B3 H3) ah av:=⟨h2,h3⟩;obtain⟨b,rfl,eb⟩:=u7 ry ek;have hp:=h2.put key Oo;obtain⟨g4,h6⟩:=v9.write (o:=.dB (sN av key tv)) (u:=.dT (putK ah key v)) jS ⟨hd,_,aP,hp.keys,by rw[e8 hd];exact hp.vals⟩;exact⟨c,_,rfl,ue.t h1 eb (by rw[h2.length,<-fo];exact hl),q3 σ B3 _ (g3.trans hb g4) h6 (r3.grow n g4) n⟩
   ·exact q3.elim⟩
end
end L2
namespace L2
open PySem PySem.Spec PyProof.Rows
section
variable {X:Cx}{K:PySem.W.Frag}{B:br}{H H':Hp}{A:Ab}{a:Addr}{u u' u0:HO}
theorem qC.ha (w:qC H H' a u u' u0)(hv:B.hd a=false)(h:HA K B A H):HA K B A H':=by
 refine⟨w.hb h.hb,fun i o e=>?_,h.inj,h.lt⟩;obtain⟨c,h1,h2⟩:=h.ob i o e;refine⟨c,h1,?_⟩;have iH:c≠a:=fun z=>by have q:=h2.hd;rw[z,hv]at q;cases q
 have eq:H' c=H c:=by rw[w.to,aA iH]
 cases o with
 |lst ts=>obtain⟨h0,vs,h1,h2⟩:=h2;exact⟨h0,vs,eq.trans h1,w.yO h2⟩
 |a8 av=>obtain⟨h0,vs,h1,h2⟩:=h2;exact⟨h0,vs,eq.trans h1,h2.keys,w.yO h2.vals⟩
 |dB av=>obtain⟨h0,vs,h1,h2,h3⟩:=h2;exact⟨h0,vs,eq.trans h1,h2,w.yO h3⟩
 |By x=>obtain⟨h0,oe,h1,h2⟩:=h2;exact⟨h0,oe,eq.trans h1,h2⟩
 |tb x q=>obtain⟨h0,h1,h2⟩:=h2;exact⟨h0,h1,eq.trans h2⟩
 |ins c fs=>
  obtain⟨h0,dx,c_,h1,h2,h3,h4,h5⟩:=h2;exact⟨h0,dx,c_,eq.trans h1,w.mO h2 (fun z=>by cases z) (fun _ _ d z=>by cases z<;>cases d),h3,h4,w.yO h5⟩
theorem v_.ha (h:v_ X B H H')(r:HA K B A H):HA K B A H':=by
 rcases h with s|⟨H1,a,o,u0,hk,s,hv,ha,rfl,h0⟩
 ·exact r.same s
 ·exact qC.ha (u:=u0) ⟨ha,rfl,.inl ⟨rfl,o,rfl⟩,hk⟩ hv (r.same s)
end
end L2
namespace L2
open PySem
theorem getD_none{owner:Array (Option Nat)}{j:Nat}(h:owner.getD j (some 0)=none):owner[j]?=some none:=by
 rw[fJ]at h;cases e:owner[j]? with
 |none=>rw[e]at h;cases h
 |some x=>rw[e]at h;exact bE some h
end L2
namespace L2
open PySem PySem.Spec PyProof.Rows PySem.W
def AZ(K:Frag)(D:Addr):Bool:=decide (findIn K (.ref D) "__getattribute__"=some (some (.builtin "BaseException.__getattribute__")))&&(decide (findIn K (.ref D) "__getattr__"=some none)&&(decide (findIn K (.ref D) "__class__"=some (some (.builtin "object.__class__")))&&(decide (mroIn K D (.type "object")=some true)&&decide (mroIn K D (.type "BaseException")=some true))))
theorem Dm{K:Frag}{D:Addr}(h:AZ K D=true):KR K D:=by
 unfold AZ at h;rw[a3,a3,a3,a3]at h;exact⟨bY h.1,bY h.2.1,bY h.2.2.1,bY h.2.2.2.1,bY h.2.2.2.2⟩
def Li(K:Frag)(u:Value)(tab:List (Str×Bool)):Bool:=tab.all fun p=>decide (kitOne K (.ref (clsAt K p.1)) u=some p.2)
def Lj(K:Frag)(xs:List Str):Bool:=xs.all fun x=>AZ K (clsAt K x)&&(clsIn K (clsAt K x)).isSome
theorem mz{α:Type}{z:Str}:∀{l:List (Str×α)} {a:α},l.lookup z=some a->(z,a)∈l
 |[],_,h=>by cases h
 |(y,b)::l,a,h=>by
  rw[bD]at h;cases e:(z==y)with
  |true=>rw[e]at h;cases h;rw[eq_of_beq e];exact cg ..
  |false=>rw[e]at h;exact bC _ (mz h)
theorem GY{K:Frag}{u:Value}{tab:List (Str×Bool)}{xs:List Str}(h:Li K u tab=true)(q:Lj K xs=true)(e:tab.map (·.1)=xs):Ei K u tab:=⟨fun x b hx=>by
 have m:=mz hx;have h1:=bY (g7.mp h _ m);have mx:x∈xs:=by rw[<-e];exact kL m
 have h2:=g7.mp q x mx;rw[a3]at h2;exact⟨h1,Dm h2.1,h2.2⟩⟩
def Ll(K:Frag)(c:Str)(xs:List Str):Bool:=xs.all fun x=>decide (exmOne K (.ref (clsAt K x)) (.ref (clsAt K c))=some true)
theorem A5{K:Frag}{mg:Str->Option Value}{c:Str}{xs:List Str}(m:mg c=some (.ref (clsAt K c)))(h:Ll K c xs=true):xV K mg c xs:=⟨m,fun x hx=>bY (g7.mp h x hx)⟩
theorem Mp{P:List Value->Prop}(h:P []):∀us:List Value,us.length=0->P us
 |[],_=>h
theorem Lm{P:List Value->Prop}{n:Nat}(h:∀a us,us.length=n->P (a::us)):∀us:List Value,us.length=n+1->P us
 |a::us,e=>h a us (Nat.succ.inj e)
theorem Mq{P:List Value->Prop}(h:∀a,P [a]):∀us:List Value,us.length=1->P us:=Lm fun a=>Mp (P:=fun l=>P (a::l)) (h a)
theorem Mr{P:List Value->Prop}(h:∀a b,P [a,b]):∀us:List Value,us.length=2->P us:=Lm fun a=>Mq (P:=fun l=>P (a::l)) (h a)
theorem Ms{P:List Value->Prop}(h:∀a b c,P [a,b,c]):∀us:List Value,us.length=3->P us:=Lm fun a=>Mr (P:=fun l=>P (a::l)) (h a)
theorem Mt{P:List Value->Prop}(h:∀a b c d,P [a,b,c,d]):∀us:List Value,us.length=4->P us:=Lm fun a=>Ms (P:=fun l=>P (a::l)) (h a)
theorem OF{P:List Value->Prop}(h:∀a b c d e,P [a,b,c,d,e]):∀us:List Value,us.length=5->P us:=Lm fun a=>Mt (P:=fun l=>P (a::l)) (h a)
end L2
namespace L2
open PySem PySem.Spec PyProof.Rows PySem.W
section
variable {K:Frag}{c m f:Str}{C:Addr}
def Dn(K:Frag)(C:Addr):Bool:=plainGet K C Str.empty&&(hasDictIn K C&&(plainOver K C&&decide (findIn K (.ref C) "__setattr__"=some (some (.builtin "object.__setattr__")))))
theorem A6(h:Dn K C=true):yx K C:=by
 unfold Dn at h;rw[a3,a3,a3]at h;exact⟨h.1,h.2.1,h.2.2.1,bY h.2.2.2⟩
def OG(K:Frag)(C:Addr)(fs:List Str):Bool:=fs.all fun f=>decide (findIn K (.ref C) f=some none)
end
end L2
namespace L2
open PySem PySem.Spec PyProof.Rows PySem.W
structure Df where
 c:Option Str
 x:Str
 q:Str
 st:Stmt
 ps:List Str
def Sf(K:Frag)(c m:Str):Addr:=match findIn K (.ref (clsAt K c)) m with
 |some (some (.ref a))=>a
 |_=>0
def OH(K:Frag)(a:Addr):FuncData:=match K.lookup a with
 |some ⟨_,_,.func d,_⟩=>d
 |_=>default
def OI(K:Frag)(a:Addr):Bool:=match K.lookup a with
 |some ⟨_,_,.func _,_⟩=>true
 |_=>false
theorem G0{K:Frag}{a:Addr}(h:OI K a=true):∃oc od zF,K.lookup a=some ⟨oc,od,.func (OH K a),zF⟩:=by
 unfold OI at h;unfold OH;split at h
 ·rename_i e;rw[e];exact⟨_,_,_,rfl⟩
 ·cases h
namespace Df
def adr(K:Frag)(d:Df):Addr:=match d.c with
 |none=>clsAt K d.x
 |some c=>Sf K c d.x
def fd(K:Frag)(d:Df):FuncData:=OH K (d.adr K)
def re(d:Df)(f:FuncData):FuncData:=fnOf d.x d.q (nJ d.st) (cz d.st) (aC d.st) .none f.kwdefaults f.doc f.pyModule f.annotations f.code f.closureTuple
def isAt(K:Frag)(d:Df):Bool:=match d.c with
 |none=>decide (nsIn K mainGlobals d.x=some (some (.ref (d.adr K))))
 |some c=>decide (findIn K (.ref (clsAt K c)) d.x=some (some (.ref (d.adr K))))&&(isFn K (.ref (d.adr K))&&Dn K (clsAt K c))
def En(K:Frag)(d:Df):Bool:=OI K (d.adr K)&&(codeIn K (d.fd K).code d.q&&(keepIn K (.ref (d.adr K))&&d.isAt K))
structure Ok(K:Frag)(mg:Str->Option Value)(d:Df):Prop where
 fn:qg K d.x d.q d.st (d.adr K) (d.fd K)
 m0:d.c=none->mg d.x=some (.ref (d.adr K))
 m1:∀c,d.c=some c->Meth K (clsAt K c) d.x (d.adr K)/\yx K (clsAt K c)
theorem of{K:Frag}{mg:Str->Option Value}{d:Df}{h:Heap}(X:K.In h)(G:h.Ns mainGlobals mg)(e:d.fd K=d.re (d.fd K))(k:d.En K=true):d.Ok K mg:=by
 unfold En at k;rw[a3,a3,a3]at k;obtain⟨k1,k2,k3,k4⟩:=k;obtain⟨oc,od,zF,l⟩:=G0 k1;refine⟨⟨⟨oc,od,_,_,_,_,_,_,zF,e,l,k2⟩,k3⟩,fun z=>?_,fun c z=>?_⟩<;>unfold isAt at k4<;>rw[z]at k4
 ·exact mg_of X G (bY k4)
 ·rw[a3,a3]at k4;exact⟨⟨bY k4.1,k4.2.1,k3⟩,A6 k4.2.2⟩
end Df
theorem A7{K:Frag}{mg:Str->Option Value}{h:Heap}(X:K.In h)(G:h.Ns mainGlobals mg):∀{ds:List Df},ds.map (Df.fd K)=ds.map (fun d=>d.re (d.fd K))->ds.all (Df.En K)=true->∀d∈ds,d.Ok K mg
 |[],_,_,d,m=>nomatch m
 |a::ds,e,k,d,m=>by
  rw[fR,a3]at k;rw[aK,aK]at e;injection e with e1 e2
  rcases aY.mp m with rfl|m
  ·exact Df.of X G e1 k.1
  ·exact A7 X G e2 k.2 d m
section
variable {P:Program}{w:World}{K:Frag}{mg:Str->Option Value}{base:Heap}{d:Df}{N:List Str}{k n:Nat}
structure vt(P:Program)(w:World)(K:Frag)(mg:Str->Option Value)(base:Heap)(CX:t7)(n:Nat)(d:Df)(sp:Sp):Prop where
 ok:cf P w K mg base CX n (d.adr K) (d.fd K) d.ps sp
 bd:Binds K (d.fd K) d.ps []
 df:d.Ok K mg
abbrev OJ(d:Df):Prop:=∀(kV doc pm:Value) (an:Option Addr) (cC ct:Value) (us:List Value),us.length=d.ps.length->bindArgs (fnOf d.x d.q (nJ d.st) (cz d.st) (aC d.st) .none kV doc pm an cC ct) ⟨us,[]⟩=pure (d.ps.zip us)
abbrev OK(CX:t7)(P:Program)(w:World)(K:Frag)(mg:Str->Option Value)(base:Heap)(N:List Str)(d:Df):=iR CX P w K mg base N d.q (aC d.st) (d.adr K)
abbrev A8(K:Frag)(d:Df)(k:Nat)(cC:Value)(A:Around)(s:Shared):Prop:=bq k (A.deeper (envOfC d.q (aC d.st) s.heap.objs.size (d.adr K) cC))
theorem dM(N:List Str){a b:Nat}{G:ax->Ab->Rz Out}(D:d.Ok K mg)(hb:N.Nodup->∀cC A outer s H E,A8 K d k cC A s->ZB (OK (nc P w) P w K mg base N d cC A outer s H E) (cz d.st) G)(S:cY N d.ps (aC d.st):=by exact⟨rfl,rfl,rfl,by decide+kernel,rfl,by decide+kernel,by decide+kernel⟩) (B:OJ d:=by exact fun _ _ _ _ _ _=>by first|exact Mp rfl|exact Mq fun _=>rfl|exact Mr fun _ _=>rfl|exact Ms fun _ _ _=>rfl|exact Mt fun _ _ _ _=>rfl|exact OF fun _ _ _ _ _=>rfl) (ha:d.ps.length=a:=by rfl) (hn:N.length=b:=by rfl):
  vt P w K mg base (nc P w) (k+1) d (pI K (cL a b G)):=by
 subst ha;subst hn;exact⟨qg.OE D.fn S (fun ts A e=>uV e) fun cC A outer s H E hr=>⟨G,hb S.nd cC A outer s H E hr,fun ts A e=>C4 e⟩,D.fn.binds B,D⟩
theorem wK(N:List Str){a b:Nat}{G:ax->Rs Out}(D:d.Ok K mg)(hb:N.Nodup->∀cC A outer s H E,A8 K d k cC A s->QB (OK j8 P w K mg base N d cC A outer s H E).zi (cz d.st) G)(S:cY N d.ps (aC d.st):=by exact⟨rfl,rfl,rfl,by decide+kernel,rfl,by decide+kernel,by decide+kernel⟩) (B:OJ d:=by exact fun _ _ _ _ _ _=>by first|exact Mp rfl|exact Mq fun _=>rfl|exact Mr fun _ _=>rfl|exact Ms fun _ _ _=>rfl|exact Mt fun _ _ _ _=>rfl|exact OF fun _ _ _ _ _=>rfl) (ha:d.ps.length=a:=by rfl) (hn:N.length=b:=by rfl):
  vt P w K mg base j8 (k+1) d (spT K (yM a b G)):=by
 subst ha;subst hn;exact⟨qg.Se D.fn S (fun ts t e=>CJ e) fun cC A outer s H E hr=>⟨G,hb S.nd cC A outer s H E hr,fun ts t e=>F3 e⟩,D.fn.binds B,D⟩
theorem OL(N:List Str){a b:Nat}{G:ax->Ab->Rz Out}(D:d.Ok K mg)(hb:N.Nodup->∀cC A outer s H E,A8 K d k cC A s->ZB (OK j8 P w K mg base N d cC A outer s H E).zi (cz d.st) G)(S:cY N d.ps (aC d.st):=by exact⟨rfl,rfl,rfl,by decide+kernel,rfl,by decide+kernel,by decide+kernel⟩) (B:OJ d:=by exact fun _ _ _ _ _ _=>by first|exact Mp rfl|exact Mq fun _=>rfl|exact Mr fun _ _=>rfl|exact Ms fun _ _ _=>rfl|exact Mt fun _ _ _ _=>rfl|exact OF fun _ _ _ _ _=>rfl) (ha:d.ps.length=a:=by rfl) (hn:N.length=b:=by rfl):
  vt P w K mg base j8 (k+1) d (spT K (uF a b G)):=by
 subst ha;subst hn;exact⟨qg.OD D.fn S (fun ts t e=>Ak e) fun cC A outer s H E hr=>⟨G,hb S.nd cC A outer s H E hr,fun ts t e=>CQ e⟩,D.fn.binds B,D⟩
theorem vt.da {CX:t7}{sp:Sp}{x:Str}(C:vt P w K mg base CX n d sp)(hc:d.c=none)(hx:d.x=x)(hq:d.q=x):qU K mg x d.st d.ps (d.adr K) (d.fd K):=
 ⟨by have f:=C.df.fn;rw[hx,hq]at f;exact f,C.bd,by have m:=C.df.m0 hc;rw[hx]at m;exact m⟩
theorem vt.ma {CX:t7}{sp:Sp}{c m:Str}(C:vt P w K mg base CX n d sp)(hc:d.c=some c)(hx:d.x=m):MethAt K c m d.st d.ps (d.adr K) (d.fd K):=
 ⟨⟨d.q,by have f:=C.df.fn;rw[hx]at f;exact f⟩,C.bd,by have m:=(C.df.m1 c hc).1;rw[hx]at m;exact m,(C.df.m1 c hc).2⟩
structure wL(K:Frag)(mg:Str->Option Value)(c:Str):Prop where
 m:makesIn K (clsAt K c)=true
 k:keepIn K (.ref (clsAt K c))=true
 g:mg c=some (.ref (clsAt K c))
theorem vt.mk' {CX:t7}{sp:Sp}{c:Str}(C:vt P w K mg base CX n d sp)(M:wL K mg c)(hc:d.c=some c)(hx:d.x="__init__"):pJ K mg c d.ps (d.adr K) (d.fd K):=
 ⟨by have m:=(C.df.m1 c hc).1;rw[hx]at m;exact⟨M.m,m.at_,m.fn,M.k⟩,C.bd,M.g⟩
end
section
variable {X:Cx}{d:Df}{n k:Nat}{o e l:Expr}{es:List Expr}{p kp pos apos:Pos}{x c m:Str}
section
variable {F O:ax->Rs Tr}{L:ax->Rs (List Tr)}{h:List Tr->Rs Tr}(C:vt X.prog X.w X.K X.mg X.base j8 n d (spT X.K h))
include C
theorem gJ(hr:bq k X.A)(ha:QA X (e::es) L)(hn:n<=k:=by first|decide|omega) (hc:d.c=none:=by rfl) (hx:d.x=x:=by rfl) (hq:d.q=x:=by rfl) (hg:Gl X x:=by rfl) (dG:(x==("__debug__":Str))=false:=by decide) (bx:aI (e::es)=true:=by rfl):QE X (.Call (.Name x p) (e::es) [] pos) (fun ρ=>cp h (L ρ)):=
 K7 (C.da hc hx hq) (C.ok.mono hn) hr ha hg dG bx
theorem A9(hr:bq k X.A)(ho:QE X o F)(ha:QA X (e::es) L)(hn:n<=k:=by first|decide|omega) (hc:d.c=some c:=by rfl) (hx:d.x=m:=by rfl) {pl:Sem Bool} (bx:aI (e::es)=true:=by rfl) (ht:eval (.Call (.Attribute o m apos) (e::es) [] pos) X.env=(do
   let ov<-eval o X.env
   standAt apos.atName
   let(f,first)<-holding [ov] (getMethod ov m pl)
   callWith pos f first (backTo pos (starEach (e::es) X.env)) (backToKw pos (keywordEach [] X.env))):=by rfl):QE X (.Call (.Attribute o m apos) (e::es) [] pos) (fun ρ=>jn c m h (F ρ) (L ρ)):=
 GO (C.ma hc hx) (C.ok.mono hn) hr ho ha bx ht
theorem Dp(hr:bq k X.A)(ho:QE X o F)(hn:n<=k:=by first|decide|omega) (hc:d.c=some c:=by rfl) (hx:d.x=m:=by rfl) {pl:Sem Bool} (ht:eval (.Call (.Attribute o m apos) [] [] pos) X.env=(do
   let ov<-eval o X.env
   standAt apos.atName
   let(f,first)<-holding [ov] (getMethod ov m pl)
   callWith pos f first (backTo pos (starEach [] X.env)) (backToKw pos (keywordEach [] X.env))):=by rfl):QE X (.Call (.Attribute o m apos) [] [] pos) (fun ρ=>jn c m h (F ρ) (.ok [])):=
 De (C.ma hc hx) (C.ok.mono hn) hr ho ht
end
section
variable {F:ax->Ab->Rz Tr}{L:ax->Ab->Rz (List Tr)}{h:List Tr->Ab->Rz Tr}(C:vt X.prog X.w X.K X.mg X.base (nc X.prog X.w) n d (pI X.K h))
include C
theorem j1(hr:bq k X.A)(ha:ZL X (e::es) L)(hn:n<=k:=by first|decide|omega) (hc:d.c=none:=by rfl) (hx:d.x=x:=by rfl) (hq:d.q=x:=by rfl) (he:X.ex=[]:=by rfl) (hg:Gl X x:=by rfl) (dG:(x==("__debug__":Str))=false:=by decide) (bx:aI (e::es)=true:=by rfl):ZE X (.Call (.Name x p) (e::es) [] pos) (fun ρ A=>(L ρ A).bind h):=
 Lb (C.da hc hx hq) (C.ok.mono hn) hr ha he hg dG bx
theorem bH(hr:bq k X.A)(ho:ZO X o F)(ha:ZL X (e::es) L)(hn:n<=k:=by first|decide|omega) (hc:d.c=some c:=by rfl) (hx:d.x=m:=by rfl) {pl:Sem Bool} (he:X.ex=[]:=by rfl) (bx:aI (e::es)=true:=by rfl) (ht:eval (.Call (.Attribute o m apos) (e::es) [] pos) X.env=(do
   let ov<-eval o X.env
   standAt apos.atName
   let(f,first)<-holding [ov] (getMethod ov m pl)
   callWith pos f first (backTo pos (starEach (e::es) X.env)) (backToKw pos (keywordEach [] X.env))):=by rfl):ZE X (.Call (.Attribute o m apos) (e::es) [] pos) (fun ρ A=>dh c m h (F ρ A) (L ρ)):=
 GU (C.ma hc hx) (C.ok.mono hn) hr ho ha he bx ht
theorem Dq(hr:bq k X.A)(ho:ZO X o F)(hn:n<=k:=by first|decide|omega) (hc:d.c=some c:=by rfl) (hx:d.x=m:=by rfl) {pl:Sem Bool} (he:X.ex=[]:=by rfl) (ht:eval (.Call (.Attribute o m apos) [] [] pos) X.env=(do
   let ov<-eval o X.env
   standAt apos.atName
   let(f,first)<-holding [ov] (getMethod ov m pl)
   callWith pos f first (backTo pos (starEach [] X.env)) (backToKw pos (keywordEach [] X.env))):=by rfl):ZE X (.Call (.Attribute o m apos) [] [] pos) (fun ρ A=>dh c m h (F ρ A) fun A=>.ok [] A):=
 Dg (C.ma hc hx) (C.ok.mono hn) hr ho he ht
theorem A_(M:wL X.K X.mg c)(hr:bq (k+1) X.A)(ha:ZL X (e::es) L)(hn:n<=k:=by first|decide|omega) (hc:d.c=some c:=by rfl) (hx:d.x="__init__":=by rfl) (he:X.ex=[]:=by rfl) (hg:Gl X c:=by rfl) (dG:(c==("__debug__":Str))=false:=by decide) (bx:aI (e::es)=true:=by rfl):ZE X (.Call (.Name c p) (e::es) [] pos) (fun ρ A=>lO c h (L ρ A)):=
 GW (C.mk' M hc hx) (C.ok.mono hn) hr ha he hg dG bx
theorem Dr(M:wL X.K X.mg c)(hr:bq (k+1) X.A)(hn:n<=k:=by first|decide|omega) (hc:d.c=some c:=by rfl) (hx:d.x="__init__":=by rfl) (he:X.ex=[]:=by rfl) (hg:Gl X c:=by rfl) (dG:(c==("__debug__":Str))=false:=by decide):ZE X (.Call (.Name c p) [] [] pos) (fun _ A=>lO c h (.ok [] A)):=
 Dh (C.mk' M hc hx) (C.ok.mono hn) hr he hg dG
end
end
end L2
namespace L2
open PySem PySem.Spec PyProof.Rows PySem.W
structure Ia where
 bl:List Str
 own:List Str
 KJ:List Str
 fl:List (Str×List Str)
 kd:List Df
 er:List Str
 xs:List (Str⊕String)
 cs:List Str
 rs:List Str
namespace Ia
def val(K:Frag):Str⊕String->Value
 |.inl c=>.ref (clsAt K c)
 |.inr c=>.type c
def tab(er:List Str):Str⊕String->List (Str×Bool)
 |.inl c=>er.map fun x=>(x,x==c)
 |.inr _=>er.map fun x=>(x,true)
def En(K:Frag)(o:Ia):Bool:=o.bl.all (fun x=>decide (nsIn K mainGlobals x=some none))&&(o.own.all (fun c=>decide (nsIn K mainGlobals c=some (some (.ref (clsAt K c)))))&&(o.KJ.all (fun c=>makesIn K (clsAt K c)&&(keepIn K (.ref (clsAt K c))&&decide (nsIn K mainGlobals c=some (some (.ref (clsAt K c))))))&&
 (o.fl.all (fun p=>Dn K (clsAt K p.1)&&OG K (clsAt K p.1) p.2)&&(o.kd.all (fun d=>decide (specialIn K (.ref (d.adr K)) "__get__"=some (some (.builtin "function.__get__")))&&decide (takesIn K (.ref (d.adr K))=some false))&&
 (Lj K o.er&&(o.xs.all (fun c=>Li K (val K c) (tab o.er c))&&(o.cs.all (fun c=>Ll K c o.er)&&o.rs.all (fun c=>excIn K (clsAt K c) P8 "ValueError.__new__"))))))))
structure Ok(o:Ia)(K:Frag)(mg:Str->Option Value):Prop where
 bl:∀{x},o.bl.contains x=true->mg x=none
 Mu:∀{c},o.own.contains c=true->mg c=some (.ref (clsAt K c))
 OM:∀{c},o.KJ.contains c=true->wL K mg c
 fl:∀{c f fs},o.fl.lookup c=some fs->fs.contains f=true->di K [c] f
 bn:∀(i:Nat) {d:Df},o.kd[i]?=some d->K1 K (d.adr K)
 xc:∀(i:Nat) {c},o.xs[i]?=some c->Ei K (val K c) (tab o.er c)
 ca:∀{c},o.cs.contains c=true->o.own.contains c=true->xV K mg c o.er
 er:∀{c},o.rs.contains c=true->o.own.contains c=true->Kx K mg c
theorem ok{o:Ia}{K:Frag}{mg:Str->Option Value}{h:Heap}(X:K.In h)(G:h.Ns mainGlobals mg)(k:o.En K=true):o.Ok K mg:=by
 unfold En at k;simp only[a3,g7,fP]at k;obtain⟨k1,k2,k3,k4,k5,k6,k7,k8,k9⟩:=k;have Mu:∀{c},o.own.contains c=true->mg c=some (.ref (clsAt K c)):=fun m=>mg_of X G (k2 _ (eS.mp m));refine⟨fun m=>mg_none_of X G (k1 _ (eS.mp m)),Mu,fun m=>?_,fun{c f fs} l m=>?_,fun i d e=>?_,fun i c e=>?_,fun m n=>A5 (Mu n) (k8 _ (eS.mp m)),fun m n=>⟨Mu n,k9 _ (eS.mp m)⟩⟩
 ·have q:=k3 _ (eS.mp m);exact⟨q.1,q.2.1,mg_of X G q.2.2⟩
 ·have q:=k4 _ (mz l);refine⟨fun x hx=>?_⟩;cases dW.mp hx;exact⟨A6 q.1,(bY (g7.mp q.2 f (eS.mp m)):findIn K (.ref (clsAt K c)) f=some none)⟩
 ·have q:=k5 _ (dS e);exact⟨q.1,q.2⟩
 ·refine GY (k7 _ (dS e)) k6 ?_
  cases c<;>simp[tab,Function.comp_def]
end Ia
end L2
namespace L2
open PySem PySem.Spec PyProof.Rows
def sO(K:PySem.W.Frag)(w:World)(mg:Str->Option Value)(x:Str)(av:List (Str×Tr)):Prop:=
 ∃a ah,mg x=some (.ref a)/\qW K w a ah/\∀z,(valueAt ah z=none/\av.lookup z=none)\/∃b vs v0 t,valueAt ah z=some (.ref b)/\(∀H,i6 K H b vs)/\lp vs 0=some v0/\av.lookup z=some t/\∀H,Rep K H v0 t
section
variable {X:Cx}{a b:Expr}{F:ax->Rs Tr}{x:Str}{av:List (Str×Tr)}{p pos uU:Pos}
theorem G1(g:sO X.K X.w X.mg x av)(ha:PE X a (tP X F))(hb:PE X b (tP X fun _=>.ok (.int 0)))(hg:Gl X x:=by rfl) (hd:(x==("__debug__":Str))=false:=by decide) (hs:B9 a:=by exact fun _ _=>rfl) (HG:fV b:=by exact fun _ _=>rfl):PE X (.Subscript (.Subscript (.Name x p) a pos) b uU) (tP X fun ρ=>(F ρ).bind (F6 av)):=by
 obtain⟨ad,ah,hm,D,hz⟩:=g;refine(w_ zI (zU (BG (v:=.ref ad) hg hm rfl hd) ha hs) hb HG).weak fun σ H Q ⟨B,ρ,hb,r,q⟩=>?_
 refine⟨B,ρ,hb,r,q.bind.mono fun t qt v H1 s1 r1=>?_⟩;unfold F6 at qt;split at qt
 ·rename_i z;obtain⟨t,et,k⟩:=cJ qt;rcases hz z with⟨h1,h2⟩|⟨b,vs,v0,t',h1,hq,h0,h2,h4⟩
  ·cases et.symm.trans h2
  ·cases et.symm.trans h2;exact⟨ad,z,ah,.ref b,.ref b,rfl,r1.str_inv.1,D,h1,rfl,B,ρ,hb.same s1,r.same s1,fun v H2 s2 r2=>⟨b,vs,0,v0,rfl,r2.int_inv,hq H2,h0,k v0 H2 (s1.trans s2) (h4 _)⟩⟩
 ·exact qt.elim
theorem G3(g:sO X.K X.w X.mg x av)(ha:QE X a F)(hb:QE X b fun _=>.ok (.int 0))(hg:Gl X x:=by rfl) (hd:(x==("__debug__":Str))=false:=by decide) (hs:B9 a:=by exact fun _ _=>rfl) (HG:fV b:=by exact fun _ _=>rfl):QE X (.Subscript (.Subscript (.Name x p) a pos) b uU) (fun ρ=>(F ρ).bind (F6 av)):=⟨G1 g ha.h hb.h hg hd hs HG⟩
end
inductive va(K:PySem.W.Frag)(w:World):List DictEntry->List (Str×Value)->List (Str×Tr)->Prop
 |nil:va K w [] [] []
 |cons {z:Str} {t:Tok} {b:Addr} {vs:List V} {v0:V} {tr:Tr} {es:List DictEntry} {ah:List (Str×Value)} {av:List (Str×Tr)}:(∀H,i6 K H b vs)->lp vs 0=some v0->(∀H,Rep K H v0 tr)->va K w es ah av->
   va K w (⟨PyData.keyHash w.params z,.str z t,.ref b⟩::es) ((z,.ref b)::ah) ((z,tr)::av)
section
variable {K:PySem.W.Frag}{w:World}{es:List DictEntry}{ah:List (Str×Value)}{av:List (Str×Tr)}{mg:Str->Option Value}{x:Str}{a:Addr}{ep:Nat}
theorem va.keys (prog:Program)(h:va K w es ah av):∀e∈es,∃k,(PySem.strKind prog w).is k e.key=true/\e.hash=(PySem.strKind prog w).hash k:=by
 induction h with
 |nil=>intro e he;cases he
 |@cons z _ _ _ _ _ _ _ _ _ _ _ _ ih=>
  intro e he;rcases aY.mp he with rfl|he
  ·exact⟨z,by simp[PySem.strKind,Value.isStrOf],rfl⟩
  ·exact ih e he
theorem va.pairs (prog:Program)(h:va K w es ah av):Pairs (PySem.strKind prog w) es ah:=by
 induction h with
 |nil=>exact .nil
 |cons _ _ _ _ ih=>exact .cons (by simp[PySem.strKind,Value.isStrOf]) rfl ih
theorem va.at (h:va K w es ah av)(y:Str):(valueAt ah y=none/\av.lookup y=none)\/∃b vs v0 t,valueAt ah y=some (.ref b)/\(∀H,i6 K H b vs)/\lp vs 0=some v0/\av.lookup y=some t/\∀H,Rep K H v0 t:=by
 induction h with
 |nil=>exact .inl ⟨rfl,rfl⟩
 |@cons z t b vs v0 tr es ah av h1 h2 h3 _ ih=>
  by_cases e:z=y
  ·subst e;exact .inr ⟨b,vs,v0,tr,by simp[valueAt],h1,h2,by simp[List.lookup],h3⟩
  ·have e1:valueAt ((z,.ref b)::ah) y=valueAt ah y:=by simp[valueAt,e]
   have e2:List.lookup y ((z,tr)::av)=av.lookup y:=by
    have:(y==z)=false:=gV.mpr fun k=>e k.symm;simp[List.lookup,this]
   rw[e1,e2];exact ih
theorem va.kd (h:va K w es ah av)(hl:K.lookup a=some ⟨.type "dict",none,.dict es.toArray ep,#[]⟩) (hs:(a==sysModules)=false) (hn:(ah.map (·.1)).Nodup):qW K w a ah:=
 ⟨hs,_,_,_,hl,⟨rfl,rfl,rfl⟩,rfl,fun prog=>⟨fun e he=>h.keys prog e (by simpa using he),h.pairs prog,hn⟩⟩
theorem va.gd (h:va K w es ah av)(hm:mg x=some (.ref a))(hl:K.lookup a=some ⟨.type "dict",none,.dict es.toArray ep,#[]⟩) (hs:(a==sysModules)=false) (hn:(ah.map (·.1)).Nodup):sO K w mg x av:=
 ⟨a,ah,hm,h.kd hl hs hn,h.at⟩
theorem va.gk (h:va K w es ah av)(hm:mg x=some (.ref a))(hl:K.lookup a=some ⟨.type "dict",none,.dict es.toArray ep,#[]⟩) (hs:(a==sysModules)=false) (hn:(ah.map (·.1)).Nodup) (hz:∀z∈ah.map (·.1),z.length<=bS):sL K w mg x (ah.map (·.1)):=
 ⟨a,ah,hm,h.kd hl hs hn,rfl,hz⟩
end
end L2
namespace L2
open PySem
section
variable {A A':Ab}{i n:Nat}{ρ:ax}{t:Tr}
theorem Ba{ts:List Tr}:az n A (.tup ts)=.tup ts:=by cases n<;>rfl
theorem Bc{z:Str}:az n A (.str z)=.str z:=by cases n<;>rfl
theorem G4{z:Int}:az n A (.int z)=.int z:=by cases n<;>rfl
theorem Eo{z:Bool}:az n A (.bl z)=.bl z:=by cases n<;>rfl
theorem G5:az n A .a_=.a_:=by cases n<;>rfl
theorem G6{ns:List Int}:az n A (.gq ns)=.gq ns:=by cases n<;>rfl
theorem fx{c:Str}{fs:List (Str×Tr)}(h:A[i]?=some (.ins c fs)):az (n+1) A (.at i)=.ob c (fs.map fun p=>(p.1,az n A p.2)):=by simp only[az,h]
theorem mB{ts:List Tr}(h:A[i]?=some (.lst ts)):az (n+1) A (.at i)=.lst (ts.map (az n A)):=by simp only[az,h]
theorem pP{av:List (Key×Tr)}(h:A[i]?=some (.a8 av)):az (n+1) A (.at i)=.a8 (av.map fun p=>(p.1,az n A p.2)):=by simp only[az,h]
def lT(ts:List Tr):Prop:=∀t∈ts,∃us,t=.tup us
theorem sP{ts:List Tr}(h:lT ts):ts.map (az n A)=ts:=by
 conv=>rhs;rw[<-h9 ts]
 exact eV fun t ht=>by obtain⟨us,rfl⟩:=h t ht;exact Ba
def mV(av:List (Key×Tr)):Prop:=∀p∈av,∀n A,az n A p.2=p.2
theorem sQ{av:List (Key×Tr)}(h:mV av):(av.map fun p=>(p.1,az n A p.2))=av:=by
 conv=>rhs;rw[<-h9 av]
 exact eV fun p hp=>by rw[h p hp];rfl
end
section
variable {α β:Type}{A:Ab}{ρ:ax}{x y t u:Tr}{c:Tr}{a:α}
theorem qH:(∀(a:α) (f:α->Rs β),(Rs.ok a).bind f=f a)/\(∀(a:α) (A:Ab) (f:α->Ab->Rz β),(Rz.ok a A).bind f=f a A)/\(∀(c:Tr) (A:Ab) (f:α->Ab->Rz β),(Rz.exc c A:Rz α).bind f=.exc c A):=⟨fun _ _=>rfl,fun _ _ _=>rfl,fun _ _ _=>rfl⟩
theorem Bd(a:α)(A:Ab):bw (.ok a) A=.ok a A:=rfl
theorem ev:(∀ρ A G,dr (.ok (.nx ρ) A) G=G ρ A)/\(∀t A G,dr (.ok (.ret t) A) G=.ok (.ret t) A)/\(∀c A G,dr (.exc c A) G=.exc c A)
  /\(∀i t A ρ,ig i (.ok t A) ρ=.ok (.nx (ρ.set i (.sh t))) A)/\(∀i c A ρ,ig i (.exc c A) ρ=.exc c A)
  /\(∀t A ρ,dt (.ok t A) ρ=.ok (.nx ρ) A)/\(∀c A ρ,dt (.exc c A) ρ=.exc c A)/\(∀t A,qB (.ok t A)=.ok (.ret t) A)/\(∀c A,qB (.exc c A)=.exc c A)
  /\(∀ρ A,du (.ok (.nx ρ) A)=.ok .a_ A)/\(∀t A,du (.ok (.ret t) A)=.ok t A)/\(∀c A,du (.exc c A)=.exc c A)
  /\(∀x A l,b_ (.ok x A) l=(l A).bind fun xs A=>.ok (x::xs) A)/\(∀x l,a9 (.ok x) l=l.bind fun xs=>.ok (x::xs))
  /\(∀h x y,ff h (.ok x) (.ok y)=h x y)/\(∀h l,cp h (.ok l)=h l)/\(∀b,q_ (.ok (.bl b))=.ok b)
  /\(∀A a b,Ai (.ok true A) a b=a A)/\(∀A a b,Ai (.ok false A) a b=b A)/\(∀a b,HQ (.ok true) a b=a)/\(∀a b,HQ (.ok false) a b=b)
  /\(∀c ρ n,bA (c::ρ) (n+1)=bA ρ n)/\(∀t ρ,bA (.sh t::ρ) 0=.ok t)/\(∀A t ρ,aM A (.sh t::ρ)=.sh (az 5 A t)::aM A ρ)/\(∀A ρ,aM A (.no::ρ)=.no::aM A ρ)/\(∀A,aM A []=[])
  /\(pb (.ok [])=.ok (.tup []))/\(∀a,pb (.ok [a])=.ok (.tup [a]))/\(∀a b,pb (.ok [a,b])=.ok (.tup [a,b]))/\(∀a b c,pb (.ok [a,b,c])=.ok (.tup [a,b,c]))/\(∀a b c d,pb (.ok [a,b,c,d])=.ok (.tup [a,b,c,d]))/\(∀a b c d e,pb (.ok [a,b,c,d,e])=.ok (.tup [a,b,c,d,e]))
  /\(∀ts,mT [.lst ts]=.ok (.int ts.length))/\(∀ts,mT [.tup ts]=.ok (.int ts.length))/\(∀ts,mT [.a8 ts]=.ok (.int ts.length))
  /\(∀i j,jd (.int i) (.int j)=.ok (.int (i+j)))/\(∀x t A,Gx x (.ok [t] A)=.exc (.str x) A)/\(∀i,F2 (.int i)=.ok (.int (-i)))
  /\(∀i A,ie (.ok (.int i)) A=.ok (.int i) A)/\(∀z A,ie (.ok (.str z)) A=.ok (.str z) A)/\(∀b A,ie (.ok (.bl b)) A=.ok (.bl b) A)/\(∀A,ie (.ok .a_) A=.ok .a_ A)/\(∀i A,ie (.ok (.at i)) A=.ok (.at i) A)
  /\(∀b,yF (.ok true) b=b)/\(∀b,yF (.ok false) b=.ok false)/\(∀b,Bv (.ok true) b=.ok true)/\(∀b,Bv (.ok false) b=b)/\(∀b,z3 (.ok b)=.ok (!b))/\(∀a b,Cn (.ok true) a b=a)/\(∀a b,Cn (.ok false) a b=b)
  /\(∀z av,NG (.str z) (.a8 av)=.ok (.bl (gD av (.inr z)).isSome))/\(∀z av,FX (.str z) (.a8 av)=.ok (.bl (!(gD av (.inr z)).isSome)))/\(∀z,Og (.str z)=.ok (.str z))/\(∀z y,yK (.str z) (.str y)=.ok (.bl (z==y)))/\(∀i j,yK (.int i) (.int j)=.ok (.bl (i==j)))/\(∀i j,JK (.int i) (.int j)=.ok (.bl (decide (j<i))))
  /\(∀ρ,fW (.ok (.nx ρ))=.ok .a_)/\(∀t,fW (.ok (.ret t))=.ok t)/\(∀t,z7 (.ok t)=.ok (.ret t))/\(∀ρ G,vU (.ok (.nx ρ)) G=G ρ)/\(∀t G,vU (.ok (.ret t)) G=.ok (.ret t))/\(∀i t ρ,FH i (.ok t) ρ=.ok (.nx (ρ.set i (.sh t)))):=by
 refine⟨?_,?_,?_,?_,?_,?_,?_,?_,?_,?_,?_,?_,?_,?_,?_,?_,?_,?_,?_,?_,?_,?_,?_,?_,?_,?_,?_,?_,?_,?_,?_,?_,?_,?_,?_,?_,?_,?_,?_,?_,?_,?_,?_,?_,?_,?_,?_,?_,?_,?_,?_,?_,?_,?_,?_,?_,?_,?_,?_,?_,?_,?_⟩<;>intros<;>rfl
theorem x_:(∀n A ts,az n A (.tup ts)=.tup ts)/\(∀n A z,az n A (.str z)=.str z)/\(∀n A i,az n A (.int i)=.int i)/\(∀n A b,az n A (.bl b)=.bl b)/\(∀n A,az n A .a_=.a_)/\(∀n A ns,az n A (.gq ns)=.gq ns):=⟨fun _ _ _=>Ba,fun _ _ _=>Bc,fun _ _ _=>G4,fun _ _ _=>Eo,fun _ _=>G5,fun _ _ _=>G6⟩
variable {i:Nat}{z:Str}{ts:List Tr}{av:List (Key×Tr)}
theorem sR{F:Nat->List Tr->Ab->Rz Tr}{l:Ab->Rz (List Tr)}(h:A[i]?=some (.lst ts)):CO F (.ok (.at i) A) l=(l A).bind fun us A=>F i us A:=by
 show(if Ka A i=true then(l A).bind fun us A=>F i us A else .bad)=_;exact ae (by unfold Ka;rw[h])
theorem sS(h:A[i]?=some (.lst ts))(hl:ts.length<iS):lM i [t] A=.ok .a_ (A.set i (.lst (ts++[t]))):=by
 show(match A[i]? with|some (.lst ts)=>if ts.length<iS then Rz.ok Tr.a_ (A.set i (.lst (ts++[t])))else .bad|_=>.bad)=_;rw[h];exact ae hl
end
end L2
namespace L2
open PySem
def roomF(i:Nat):List (Str×Tr):=[("log",.at (i+1)),("ranks",.at (i+2)),("entries",.at (i+3)),("chosen",.at (i+4)),("banned",.at (i+5)),("invited",.at (i+6)),("read_marks",.at (i+7)),("said_by_key",.at (i+8))]
structure dN(A:Ab)(i:Nat)(rows:List Tr)(rk en ch bn iv:List (Key×Tr)):Prop where
 o:A[i]?=some (.ins "Room" (roomF i))
 lg:A[i+1]?=some (.lst rows)
 rk:A[i+2]?=some (.a8 rk)
 en:A[i+3]?=some (.a8 en)
 ch:A[i+4]?=some (.a8 ch)
 bn:A[i+5]?=some (.a8 bn)
 iv:A[i+6]?=some (.a8 iv)
structure pQ(rows:List Tr)(rk en ch bn iv:List (Key×Tr)):Prop where
 lg:lT rows
 rk:mV rk
 en:mV en
 ch:mV ch
 bn:mV bn
 iv:mV iv
section
variable {A:Ab}{i:Nat}{rows:List Tr}{rk en ch bn iv:List (Key×Tr)}
theorem dN.ON (h:dN A i rows rk en ch bn iv)(f:pQ rows rk en ch bn iv):iL ["Room"] "log" (az 5 A (.at i))=.ok (.lst rows):=by
 rw[fx h.o];show Rs.ok (az 4 A (.at (i+1)))=_;rw[mB h.lg,sP f.lg]
theorem dN.Ln (h:dN A i rows rk en ch bn iv)(f:pQ rows rk en ch bn iv):iL ["Room"] "ranks" (az 5 A (.at i))=.ok (.a8 rk):=by
 rw[fx h.o];show Rs.ok (az 4 A (.at (i+2)))=_;rw[pP h.rk,sQ f.rk]
theorem dN.OO (h:dN A i rows rk en ch bn iv)(f:pQ rows rk en ch bn iv):iL ["Room"] "chosen" (az 5 A (.at i))=.ok (.a8 ch):=by
 rw[fx h.o];show Rs.ok (az 4 A (.at (i+4)))=_;rw[pP h.ch,sQ f.ch]
theorem dN.OP (h:dN A i rows rk en ch bn iv):qG ["Room"] "log" (.ok (.at i) A)=.ok (.at (i+1)) A:=by unfold qG Rz.bind;simp only[h.o];rfl
theorem dN.call (h:dN A i rows rk en ch bn iv){m:Str}(hm:zk (roomF i) m=true)(F:List Tr->Ab->Rz Tr)(l:Ab->Rz (List Tr)):dh "Room" m F (.ok (.at i) A) l=(l A).bind fun ts A=>F (.at i::ts) A:=by
 show(match A[i]? with|some (.ins x fs)=>if x="Room"/\zk fs m=true then(l A).bind fun ts A=>F (.at i::ts) A else .bad|_=>.bad)=_;rw[h.o];exact ae ⟨rfl,hm⟩
variable {A':Ab}{mW:List Tr}{d':List (Key×Tr)}
end
end L2
namespace L2
open PySem
section
variable {α:Type}{f:α->Tr}{l:List (Str×α)}{z:Str}{a:α}
def dP(f:α->Tr)(l:List (Str×α)):List (Key×Tr):=l.map fun p=>(Sum.inr p.1,f p.2)
theorem Ds{y:Str}:((Sum.inr y:Key)=.inr z)↔y=z:=⟨fun h=>by injection h,fun h=>by rw[h]⟩
theorem Dt{y:Str}:(decide ((Sum.inr y:Key)=.inr z))=decide (y=z):=decide_eq_decide.mpr Ds
theorem mC:∀{l:List (Str×α)},gD (dP f l) (.inr z)=(l.lookup z).map f
 |[]=>rfl
 |(y,b)::l=>by
  have ih:=mC (l:=l);unfold gD at ih⊢;show Option.map _ (List.find? _ ((Sum.inr y,f b)::dP f l))=_;rw[cW,bD];by_cases h:y=z
  ·subst h;simp
  ·have h2:(z==y)=false:=by simpa using bt h
   simp only[Dt,h,decide_false,h2];exact ih
theorem nP(h:∀a n A,az n A (f a)=f a):mV (dP f l):=fun p hp n A=>by
 obtain⟨q,_,rfl⟩:=eY.mp hp;exact h q.2 n A
end
end L2
namespace L2
open PySem
section
variable {α:Type}{f:α->Tr}{l:List (Str×α)}{z:Str}{A:Ab}{n:Nat}
theorem x':pj (.a8 (dP f l)) (.str z)=mr ((l.lookup z).map f):=by
 show(mr (jg (.str z))).bind (fun k=>mr (gD (dP f l) k))=_;show mr (gD (dP f l) (.inr z))=_;rw[mC]
theorem ya{ns:List Str}:(ns.map Tr.str).map (az n A)=ns.map .str:=by
 rw[bR];exact eV fun z _=>Bc
end
end L2
namespace L2
open PySem
structure gj(A:Ab)(iw:List (Str×Bool))(places:List (Str×Nat)):Prop where
 o:A[0]?=some (.ins "Hall" [("persons",.at 1),("places",.at 2),("hands",.at 3)])
 ps:A[1]?=some (.a8 (dP .bl iw))
 pl:A[2]?=some (.a8 (dP .at places))
section
variable {A A':Ab}{iw:List (Str×Bool)}{places:List (Str×Nat)}
theorem Sg{l:List (Str×Bool)}:mV (dP .bl l):=nP fun _ _ _=>Eo
theorem gj.OQ (h:gj A iw places):iL ["Hall"] "persons" (az 5 A (.at 0))=.ok (.a8 (dP .bl iw)):=by
 rw[fx h.o];show Rs.ok (az 4 A (.at 1))=_;rw[pP h.ps,sQ Sg]
theorem gj.Lo (h:gj A iw places):iL ["Hall"] "places" (az 5 A (.at 0))=.ok (.a8 (dP (fun j=>az 3 A (.at j)) places)):=by
 rw[fx h.o];show Rs.ok (az 4 A (.at 2))=_;rw[pP h.pl];unfold dP;rw[bR];rfl
theorem gj.OR (h:gj A iw places):qG ["Hall"] "places" (.ok (.at 0) A)=.ok (.at 2) A:=by unfold qG Rz.bind;simp only[h.o];rfl
theorem gj.call (h:gj A iw places){m:Str}(hm:zk [("persons",.at 1),("places",.at 2),("hands",.at 3)] m=true)(F:List Tr->Ab->Rz Tr)(l:Ab->Rz (List Tr)):dh "Hall" m F (.ok (.at 0) A) l=(l A).bind fun ts A=>F (.at 0::ts) A:=by
 show(match A[0]? with|some (.ins x fs)=>if x="Hall"/\zk fs m=true then(l A).bind fun ts A=>F (.at 0::ts) A else .bad|_=>.bad)=_;rw[h.o];exact ae ⟨rfl,hm⟩
theorem yb{h:Tr->Tr->Rs Tr}{x:Tr}{b:Ab->Rz Tr}:C7 h (.ok x A) b=(b A).bind fun y A=>ie (h (az 1 A x) (az 1 A y)) A:=rfl
theorem Du{α:Type}{f:α->Tr}{l:List (Str×α)}{i:Nat}(h:A[i]?=some (.a8 (dP f l))):az 1 A (.at i)=.a8 (dP f l):=by
 rw[pP h];unfold dP;rw[bR];rfl
theorem Si:(∀T G ρ A,iT T G [] ρ A=.ok (.nx ρ) A)/\(∀T G t ts ρ A,iT T G (t::ts) ρ A=(bw (T t ρ) A).bind fun ur A=>(G ur A).bind fun o A=>match o with
  |.nx jR=>iT T G ts jR A
  |.ct jR=>iT T G ts jR A
  |.bk jR=>.ok (.nx jR) A
  |.ret t=>.ok (.ret t) A)/\(∀T G ts A ρ,rA T G (.ok ts A) ρ=iT T G ts ρ A)/\(∀i t ρ,gN i t ρ=.ok (ρ.set i (.sh t)))/\(∀ts,j' (.ok (.tup ts))=.ok ts)/\(∀ts,j' (.ok (.lst ts))=.ok ts):=by
 refine⟨?_,?_,?_,?_,?_,?_⟩<;>intros<;>rfl
end
end L2
namespace L2
open PySem
section
variable {A A':Ab}{j ks kb ka n:Nat}{rows:List Tr}{Qh:List (Str×Str)}{stays:List OT}{OU asked:List Str}{d v p:Str}
variable {mW:List Tr}{OV:List (Str×Str)}{OW:List OT}{OX:List Str}
theorem Be{α:Type}{C:ax->Rs Bool}{F:ax->Rs Tr}{ρ:ax}{P:α->Bool}{g h:α->Tr}:∀{xs:List α} {c:Cell},(∀x∈xs,C (.sh (g x)::ρ)=.ok (P x))->(∀x∈xs,P x=true->F (.sh (g x)::ρ)=.ok (h x))->Cr (gN 0) C F (xs.map g) (c::ρ)=.ok ((xs.filter P).map h)
 |[],_,_,_=>rfl
 |x::xs,c,hC,hF=>by
  have ih:=Be (ρ:=ρ) (C:=C) (F:=F) (P:=P) (g:=g) (h:=h) (xs:=xs) (c:=.sh (g x)) (fun y hy=>hC y (bC _ hy)) fun y hy=>hF y (bC _ hy);show(HU (C (.sh (g x)::ρ))).bind (fun k=>if k then(HU (F (.sh (g x)::ρ))).bind fun y=>(Cr (gN 0) C F (xs.map g) (.sh (g x)::ρ)).bind fun ys=>.ok (y::ys)else Cr (gN 0) C F (xs.map g) (.sh (g x)::ρ))=_;rw[hC x (cg ..),ih];show(if P x then _ else _)=_;cases e:P x with
  |true=>rw[nY e,hF x (cg ..) e];rfl
  |false=>rw[nX (by rw[e];exact dU)];rfl
theorem nQ{α:Type}{C:ax->Rs Bool}{F:ax->Rs Tr}{r:Rs (List Tr)}{ix:List (Option Nat)}{ρ G7:ax}{c:Cell}(P:α->Bool)(g h:α->Tr){xs:List α}(hr:r=.ok (xs.map g))(hl:xs.length<=iS)(Sj:mL ix ρ=c::G7)(hC:∀x∈xs,C (.sh (g x)::G7)=.ok (P x))(hF:∀x∈xs,P x=true->F (.sh (g x)::G7)=.ok (h x)):mM ix (gN 0) C F r ρ=.ok (.lst ((xs.filter P).map h)):=by
 unfold mM;rw[hr,Sj];show(if(xs.map g).length<=iS then _ else _)=_;rw[ae (by rw[aE];exact hl),Be hC hF]
 rfl
end
end L2
namespace pR
open PySem L2
def top(i:Nat):Stmt:=PySem.Challenge.pw_talkhall_k27_whole_said_again.main.body.getD i (.Pass ⟨0,0,0,0⟩)
def Dv:Stmt->List Stmt
 |.ClassDef _ _ _ b _ _ _ _ _ _ _=>b
 |_=>[]
def fI(i j:Nat):Stmt:=(Dv (top i)).getD j (.Pass ⟨0,0,0,0⟩)
def dO:Df:=⟨some "Room","write_row","Room.write_row",fI 23 1,["self","who","word","parts"]⟩
def gm:Df:=⟨some "Room","let_in","Room.let_in",fI 23 2,["self","who","word","role"]⟩
def fy:Df:=⟨some "Room","need_in","Room.need_in",fI 23 6,["self","who"]⟩
def de:Df:=⟨some "Hall","need_people","Hall.need_people",fI 25 1,["self","names"]⟩
def dw:Df:=⟨some "Hall","place","Hall.place",fI 25 2,["self","room"]⟩
def dQ:Df:=⟨some "Hall","place_for","Hall.place_for",fI 25 3,["self","names","room"]⟩
def fA:Df:=⟨some "Hall","hand_of","Hall.hand_of",fI 25 4,["self","hand"]⟩
def ju:Df:=⟨some "Hall","come","Hall.come",fI 25 5,["self","who"]⟩
def cZ:Df:=⟨some "Room","__init__","Room.__init__",fI 23 0,["self","who"]⟩
def eK:Df:=⟨some "Hall","__init__","Hall.__init__",fI 25 0,["self"]⟩
def eL:Df:=⟨some "Hand","__init__","Hand.__init__",fI 13 0,["self","owner"]⟩
def iy:Df:=⟨some "Hall","found","Hall.found",fI 25 8,["self","who","room"]⟩
def b8:Df:=⟨some "Room","see_to_owner","Room.see_to_owner",fI 23 5,["self"]⟩
def iz:Df:=⟨some "Room","enter","Room.enter",fI 23 14,["self","who"]⟩
def iA:Df:=⟨some "Hall","enter","Hall.enter",fI 25 9,["self","who","room"]⟩
def kn:Df:=⟨some "Room","say","Room.say",fI 23 22,["self","who","words","answer"]⟩
def ko:Df:=⟨some "Hall","say","Hall.say",fI 25 17,["self","who","room","words","answer"]⟩
def eM:Df:=⟨some "Room","say_once","Room.say_once",fI 23 23,["self","who","key","words"]⟩
def jv:Df:=⟨some "Hall","hand","Hall.hand",fI 25 31,["self","who"]⟩
def eN:Df:=⟨some "Hall","say_once","Hall.say_once",fI 25 34,["self","hand","room","key","words"]⟩
def jw:Df:=⟨some "Room","rows","Room.rows",fI 23 30,["self"]⟩
def jx:Df:=⟨some "Hall","rows","Hall.rows",fI 25 25,["self","room"]⟩
def sT:Df:=⟨none,"_law_mix","_law_mix",top 28,["_law_cell_here","_law_prime","_law_many"]⟩
def pS:Df:=⟨none,"_law_cell","_law_cell",top 27,["_law_script","_law_k"]⟩
def jK:Df:=⟨none,"_law_words","_law_words",top 30,["_law_cell_here"]⟩
def pT:Df:=⟨none,"_law_rank","_law_rank",top 33,["_law_room","_law_who"]⟩
def mD:Df:=⟨none,"_law_begin","_law_begin",top 32,["_law_people"]⟩
def sU:Df:=⟨none,"_law_row","_law_row",top 35,["_law_room","_law_who","_law_parts"]⟩
def jL:Df:=⟨none,"_law_enter","_law_enter",top 36,["_law_room","_law_who","_law_word"]⟩
def fg:Df:=⟨none,"_law_owned","_law_owned",top 38,["_law_room"]⟩
def pU:Df:=⟨none,"_law_done","_law_done",top 39,["_law_model","_law_deed"]⟩
def pV:Df:=⟨none,"_law_call","_law_call",top 31,["_law_hall_here","_law_deed"]⟩
def pW:Df:=⟨none,"_law_hall","_law_hall",top 41,["_law_hall_here","_law_model"]⟩
def lU:Df:=⟨none,"law","law",top 42,["_law_script"]⟩
def DS:List Df:=[dO,gm,fy,de,dw,dQ,fA,ju,cZ,eK,eL,iy,b8,iz,iA,kn,ko,eM,jv,eN,jw,jx,sT,pS,jK,pT,mD,sU,jL,fg,pU,pV,pW,lU]
structure Ib(K:PySem.W.Frag)(w:World)(mg:Str->Option Value):Prop where
 d:∀(i:Nat) {e:Df},DS[i]?=some e->e.Ok K mg
 dict:mg "dict"=none
 len:mg "len"=none
 list:mg "list"=none
 max:mg "max"=none
 range:mg "range"=none
 set:mg "set"=none
 sorted:mg "sorted"=none
 str:mg "str"=none
 tuple:mg "tuple"=none
 G8:wL K mg "Hall"
 G9:wL K mg "Hand"
 G_:wL K mg "Room"
 vb:di K ["Room"] "banned"
 pX:di K ["Room"] "chosen"
 rV:di K ["Room"] "entries"
 lV:di K ["Hall"] "hands"
 mE:di K ["Room"] "invited"
 yc:di K ["Room"] "log"
 yd:di K ["Hand"] "owner"
 jM:di K ["Hall"] "persons"
 fB:di K ["Hall"] "places"
 fY:di K ["Room"] "ranks"
 sV:di K ["Room"] "read_marks"
 ei:di K ["Room"] "said_by_key"
 Ha:di K ["Hand"] "told"
 Bf:sO K w mg "SETTINGS" [("door",.str "open"),("voice",.str "all"),("past",.str "shown")]
 wM:sL K w mg "SETTINGS" ["door","voice","past"]
abbrev CS(n:Nat)(d:Df)(a b:Nat):={F:ax->Ab->Rz Out//∀{P:Program} {w:World} {K:PySem.W.Frag} {mg:Str->Option Value} {base:Heap},Ib K w mg->vt P w K mg base (nc P w) n d (pI K (cL a b F))}
abbrev CP(n:Nat)(d:Df)(a b:Nat):={F:ax->Rs Out//∀{P:Program} {w:World} {K:PySem.W.Frag} {mg:Str->Option Value} {base:Heap},Ib K w mg->vt P w K mg base j8 n d (spT K (yM a b F))}
abbrev CZ(n:Nat)(d:Df)(a b:Nat):={F:ax->Ab->Rz Out//∀{P:Program} {w:World} {K:PySem.W.Frag} {mg:Str->Option Value} {base:Heap},Ib K w mg->vt P w K mg base j8 n d (spT K (uF a b F))}
abbrev KS(n:Nat)(d:Df)(m:List Tr->Ab->Rz Tr):Prop:=∀{P:Program} {w:World} {K:PySem.W.Frag} {mg:Str->Option Value} {base:Heap},Ib K w mg->vt P w K mg base (nc P w) n d (pI K m)
abbrev KP(n:Nat)(d:Df)(m:List Tr->Rs Tr):Prop:=∀{P:Program} {w:World} {K:PySem.W.Frag} {mg:Str->Option Value} {base:Heap},Ib K w mg->vt P w K mg base j8 n d (spT K m)
def cM:CS 1 dO 4 5:=⟨_,fun T=>dM ["self","who","word","parts","number"] (T.d 0 rfl) fun nd _ _ _ _ _ _ hr=>(aw (eG (i:=4) (ay (cc fu (ee il T.len (af (bO T.yc (aa 0)) aN)) aL)) nd) (aw (bh (mU eR fL cI jj (dF (gi T.yc (ag (aa 0)))) (aj (ay (cc fu (cq (af (aa 4) (af (aa 1) (af (aa 2) aN)))) (aa 3))) aS))) (aJ (bN (ag (aa 4))))))⟩
def gK:=cL 4 5 cM.1
theorem gL:KS 1 dO gK:=cM.2
def j2:CS 2 gm 4 4:=⟨_,fun T=>dM ["self","who","word","role"] (T.d 1 rfl) fun _ _ _ _ _ _ _ hr=>(aw (ir (aG hr) (dF (gi T.rV (ag (aa 0)))) (ag (aa 1)) (bH (gL T) hr (dF (ag (aa 0))) (aj (ag (aa 1)) (aj (ag (aa 2)) (aj (ay (cq aN)) aS))))) (aw (ir (aG hr) (dF (gi T.fY (ag (aa 0)))) (ag (aa 1)) (ag (aa 3))) (aJ (bh (GV (dF (gi T.mE (ag (aa 0)))) (ag (aa 1)) (ay lP))))))⟩
def qI:=cL 4 4 j2.1
theorem j3:KS 2 gm qI:=j2.2
def dy:CS 1 fy 2 2:=⟨_,fun T=>dM ["self","who"] (T.d 2 rfl) fun _ _ _ _ _ _ _ hr=>(aJ (cF (aU (aZ (uA (aG hr)) (aa 1) (bO T.fY (aa 0)))) (aJ js) bK))⟩
def jy:=cL 2 2 dy.1
theorem pY:KS 1 fy jy:=dy.2
def ck:CS 1 de 2 3:=⟨_,fun T=>dM ["self","names","name"] (T.d 3 rfl) fun nd _ _ _ _ _ _ hr=>(aJ (u5 (lR (aa 1)) (cS 2 nd) (cQ 2) (aJ (cF (aU (aZ (uA (aG hr)) (aa 2) (bO T.jM (aa 0)))) (aJ js) bK))))⟩
def fD:=cL 2 3 ck.1
theorem dg:KS 1 de fD:=ck.2
def e_:CS 1 dw 2 2:=⟨_,fun T=>dM ["self","room"] (T.d 4 rfl) fun _ _ _ _ _ _ _ hr=>(aw (cF (aU (aZ (uA (aG hr)) (aa 1) (bO T.fB (aa 0)))) (aJ js) bK) (aJ (bN (pO (aG hr) (dF (gi T.fB (ag (aa 0)))) (ag (aa 1))))))⟩
def lW:=cL 2 2 e_.1
theorem lX:KS 1 dw lW:=e_.2
def cN:CS 2 dQ 3 3:=⟨_,fun T=>dM ["self","names","room"] (T.d 5 rfl) fun _ _ _ _ _ _ _ hr=>(aw (bh (bH (dg T) hr (dF (ag (aa 0))) (aj (ag (aa 1)) aS))) (aJ (bN (bH (lX T) hr (dF (ag (aa 0))) (aj (ag (aa 2)) aS)))))⟩
def gO:=cL 3 3 cN.1
theorem gP:KS 2 dQ gO:=cN.2
def dz:CS 1 fA 2 2:=⟨_,fun T=>dM ["self","hand"] (T.d 6 rfl) fun _ _ _ _ _ _ _ hr=>(aw (cF (aU (ip (C' (aZ JL (aa 1) aL) (xY (aZ ND (aa 1) (ee il T.len (af (bO T.lV (aa 0)) aN))))))) (aJ js) bK) (aJ (bN (pO (aG hr) (dF (gi T.lV (ag (aa 0)))) (ag (aa 1))))))⟩
def jz:=cL 2 2 dz.1
theorem pZ:KS 1 fA jz:=dz.2
def mX:CS 1 ju 2 2:=⟨_,fun T=>dM ["self","who"] (T.d 7 rfl) fun _ _ _ _ _ _ _ hr=>(aw (cF (aU (aZ (yL (aG hr)) (aa 1) (bO T.jM (aa 0)))) (aJ js) bK) (aJ (ir (aG hr) (dF (gi T.jM (ag (aa 0)))) (ag (aa 1)) (ay GL))))⟩
def vc:=cL 2 2 mX.1
theorem mY:KS 1 ju vc:=mX.2
def iM:CS 3 cZ 2 2:=⟨_,fun T=>dM ["self","who"] (T.d 8 rfl) fun _ _ _ _ _ _ _ hr=>(aw (gI T.yc (ag (aa 0)) (cD (lS aN))) (aw (gI T.fY (ag (aa 0)) (cD gg)) (aw (gI T.rV (ag (aa 0)) (cD gg)) (aw (gI T.pX (ag (aa 0)) (cD (u6 (C_ rfl) T.dict (af (AV (N':=["what"]) (ix:=[none]) (dI.of (N:=["self","who"]) (sc:=aC cZ.st) rfl rfl (by decide+kernel)) (GQ T.wM) ⟨fun s H ex=>⟨(cS 0 (by show List.Nodup (["what"]:List Str);decide+kernel)),rR,(cq (af (aa 0) (af (G3 T.Bf (aa 0) aL) aN)))⟩⟩ (cQ 0)) aN)))) (aw (gI T.vb (ag (aa 0)) (cD gg)) (aw (gI T.mE (ag (aa 0)) (cD gg)) (aw (gI T.sV (ag (aa 0)) (cD gg)) (aw (gI T.ei (ag (aa 0)) (cD GS)) (aJ (bh (bH (j3 T) hr (dF (ag (aa 0))) (aj (ag (aa 1)) (aj (ay au) (aj (ay au) aS))))))))))))))⟩
def nk:=cL 2 2 iM.1
theorem nr:KS 3 cZ nk:=iM.2
def iN:CS 1 eK 1 1:=⟨_,fun T=>dM ["self"] (T.d 9 rfl) fun _ _ _ _ _ _ _ hr=>(aw (gI T.jM (ag (aa 0)) (cD gg)) (aw (gI T.fB (ag (aa 0)) (cD gg)) (aJ (gI T.lV (ag (aa 0)) (cD (lS aN))))))⟩
def c0:=cL 1 1 iN.1
theorem nt:KS 1 eK c0:=iN.2
def iO:CS 1 eL 2 2:=⟨_,fun T=>dM ["self","owner"] (T.d 10 rfl) fun _ _ _ _ _ _ _ hr=>(aw (gI T.yd (ag (aa 0)) (ag (aa 1))) (aJ (gI T.Ha (ag (aa 0)) (cD gg))))⟩
def nv:=cL 2 2 iO.1
theorem ny:KS 1 eL nv:=iO.2
def lY:CS 5 iy 3 3:=⟨_,fun T=>dM ["self","who","room"] (T.d 11 rfl) fun _ _ _ _ _ _ _ hr=>(aw (bh (bH (dg T) hr (dF (ag (aa 0))) (aj (ay (cq (af (aa 1) aN))) aS))) (aw (cF (aU (aZ (yL (aG hr)) (aa 2) (bO T.fB (aa 0)))) (aJ js) bK) (aJ (ir (aG hr) (dF (gi T.fB (ag (aa 0)))) (ag (aa 2)) (A_ (nr T) T.G_ hr (aj (ag (aa 1)) aS))))))⟩
def sW:=cL 3 3 lY.1
theorem sX:KS 5 iy sW:=lY.2
def eQ:CS 1 b8 1 3:=⟨_,fun T=>dM ["self","owners","heir"] (T.d 12 rfl) fun nd _ _ _ _ _ _ hr=>(aw (AX (i:=1) (N':=["name","self"]) (ix:=[none,some 0]) (dI.of (N:=["self","owners","heir"]) (sc:=aC b8.st) rfl rfl (by decide+kernel)) (AW (bO T.fY (aa 0))) ⟨fun s H ex=>⟨(cS 0 (by show List.Nodup (["name","self"]:List Str);decide+kernel)),(u4 (aZ (dm (cK hr)) (bX (aG hr) (bO T.fY (aa 1)) (aa 0)) au)),(aa 0)⟩⟩ (cQ 0) nd) (aJ (cF (aU (ip (uZ (aZ JM (ee il T.len (af (bO T.fY (aa 0)) aN)) aL) (pL (aZ (dm (cK hr)) (ee il T.len (af (aa 1) aN)) aL))))) (aw (eG (i:=2) gH nd) (aJ (bh gH))) bK)))⟩
def jU:=cL 1 3 eQ.1
theorem jV:KS 1 b8 jU:=eQ.2
def lZ:CS 3 iz 2 2:=⟨_,fun T=>dM ["self","who"] (T.d 13 rfl) fun _ _ _ _ _ _ _ hr=>(aw (cF (aU (aZ (yL (aG hr)) (aa 1) (bO T.fY (aa 0)))) (aJ js) bK) (aw (cF (aU (aZ (yL (aG hr)) (aa 1) (bO T.vb (aa 0)))) (aJ js) bK) (aw (cF (aU (ip (uZ (aZ (dm (cK hr)) (bX (aG hr) (bO T.pX (aa 0)) au) au) (pL (aZ (uA (aG hr)) (aa 1) (bO T.mE (aa 0))))))) (aJ js) bK) (aw (bh (bH (j3 T) hr (dF (ag (aa 0))) (aj (ag (aa 1)) (aj (ay au) (aj (ay au) aS))))) (aJ (bh (Dq (jV T) hr (dF (ag (aa 0))))))))))⟩
def sY:=cL 2 2 lZ.1
theorem sZ:KS 3 iz sY:=lZ.2
def l7:CS 4 iA 3 3:=⟨_,fun T=>dM ["self","who","room"] (T.d 14 rfl) fun _ _ _ _ _ _ _ hr=>(aJ (bh (bH (sZ T) hr (dF (bH (gP T) hr (dF (ag (aa 0))) (aj (ay (cq (af (aa 1) aN))) (aj (ag (aa 2)) aS)))) (aj (ag (aa 1)) aS))))⟩
def s_:=cL 3 3 l7.1
theorem tm:KS 4 iA s_:=l7.2
def iB:CS 2 kn 4 4:=⟨_,fun T=>dM ["self","who","words","answer"] (T.d 15 rfl) fun _ _ _ _ _ _ _ hr=>(aw (bh (bH (pY T) hr (dF (ag (aa 0))) (aj (ag (aa 1)) aS))) (aw (cF (aU (ip (uZ (aZ (dm (cK hr)) (bX (aG hr) (bO T.pX (aa 0)) au) au) (pL (aZ (dm (cK hr)) (bX (aG hr) (bO T.fY (aa 0)) (aa 1)) au))))) (aJ js) bK) (aw (cF (aU (ip (uZ (aZ JO (aa 3) lP) (pL (Ej (AS Lc)))))) (aJ js) bK) (aJ (bN (bH (gL T) hr (dF (ag (aa 0))) (aj (ag (aa 1)) (aj (ay au) (aj (ay (cq (af (aa 2) (af (aa 3) aN)))) aS)))))))))⟩
def p4:=cL 4 4 iB.1
theorem p5:KS 2 kn p4:=iB.2
def iC:CS 3 ko 5 5:=⟨_,fun T=>dM ["self","who","room","words","answer"] (T.d 16 rfl) fun _ _ _ _ _ _ _ hr=>(aJ (bN (bH (p5 T) hr (dF (bH (gP T) hr (dF (ag (aa 0))) (aj (ay (cq (af (aa 1) aN))) (aj (ag (aa 2)) aS)))) (aj (ag (aa 1)) (aj (ag (aa 3)) (aj (ag (aa 4)) aS))))))⟩
def iD:=cL 5 5 iC.1
theorem p6:KS 3 ko iD:=iC.2
def bT:CS 3 eM 4 4:=⟨_,fun T=>dM ["self","who","key","words"] (T.d 17 rfl) fun _ _ _ _ _ _ _ hr=>(aw (cF (aU (aZ (GX (aG hr)) (cq (af (aa 1) (af (aa 2) aN))) (bO T.ei (aa 0)))) (aJ (Dl (aG hr) (dF (gi T.ei (ag (aa 0)))) (ay (cq (af (aa 1) (af (aa 2) aN)))) (bH (p5 T) hr (dF (ag (aa 0))) (aj (ag (aa 1)) (aj (ag (aa 3)) (aj (ay lP) aS)))))) bK) (aJ (bN (ay (Lh (aG hr) (bO T.ei (aa 0)) (cq (af (aa 1) (af (aa 2) aN))))))))⟩
def cu:=cL 4 4 bT.1
theorem nA:KS 3 eM cu:=bT.2
def mZ:CS 3 jv 2 2:=⟨_,fun T=>dM ["self","who"] (T.d 18 rfl) fun _ _ _ _ _ _ _ hr=>(aw (bh (bH (dg T) hr (dF (ag (aa 0))) (aj (ay (cq (af (aa 1) aN))) aS))) (aw (bh (mU eR fL cI jj (dF (gi T.lV (ag (aa 0)))) (aj (A_ (ny T) T.G9 hr (aj (ag (aa 1)) aS)) aS))) (aJ (bN (ay (cc JJ (ee il T.len (af (bO T.lV (aa 0)) aN)) aL))))))⟩
def eJ:=cL 2 2 mZ.1
theorem vd:KS 3 jv eJ:=mZ.2
def c4:CS 4 eN 5 6:=⟨_,fun T=>dM ["self","hand","room","key","words","holder"] (T.d 19 rfl) fun nd _ _ _ _ _ _ hr=>(aw (eG (i:=5) (bH (pZ T) hr (dF (ag (aa 0))) (aj (ag (aa 1)) aS)) nd) (aJ (bN (bH (nA T) hr (dF (bH (lX T) hr (dF (ag (aa 0))) (aj (ag (aa 2)) aS))) (aj (ay (bO T.yd (aa 5))) (aj (ag (aa 3)) (aj (ag (aa 4)) aS)))))))⟩
def bU:=cL 5 6 c4.1
theorem nB:KS 4 eN bU:=c4.2
def c5:CP 1 dw 2 2:=⟨_,fun T=>wK ["self","room"] (T.d 4 rfl) fun _ _ _ _ _ _ _ hr=>(iq (Dc (aZ (uA (aG hr)) (aa 1) (bO T.fB (aa 0))) (jr Ld) xZ) (jr (lQ (bX (aG hr) (bO T.fB (aa 0)) (aa 1)))))⟩
def iP:=yM 2 2 c5.1
theorem nC:KP 1 dw iP:=c5.2
def fZ:CP 1 jw 1 1:=⟨_,fun T=>wK ["self"] (T.d 20 rfl) fun _ _ _ _ _ _ _ hr=>(jr (lQ (u3 CI T.tuple (af (bO T.yc (aa 0)) aN))))⟩
def m4:=yM 1 1 fZ.1
theorem ve:KP 1 jw m4:=fZ.2
def f_:CP 2 jx 2 2:=⟨_,fun T=>wK ["self","room"] (T.d 21 rfl) fun _ _ _ _ _ _ _ hr=>(jr (lQ (Dp (ve T) hr (A9 (nC T) hr (aa 0) (af (aa 1) aN)))))⟩
def dj:=yM 2 2 f_.1
theorem vf:KP 2 jx dj:=f_.2
def nR:CP 1 sT 3 4:=⟨_,fun T=>wK ["_law_cell_here","_law_prime","_law_many","_law_blend"] (T.d 22 rfl) fun nd _ _ _ _ _ _ hr=>(iq (rQ (i:=3) (cc rg (cc ux (aa 0) aL) (aa 1)) nd) (jr (lQ (cc rg (cc rg (cc ux (aa 3) (cc fu (aa 3) aL)) (aa 1)) (aa 2)))))⟩
def ej:=yM 3 4 nR.1
theorem iE:KP 1 sT ej:=nR.2
def vg:CP 1 pS 2 2:=⟨_,fun T=>wK ["_law_script","_law_k"] (T.d 23 rfl) fun _ _ _ _ _ _ _ hr=>(iq (Dc (aZ JL (aa 1) (ee il T.len (af (aa 0) aN))) (jr (lQ (bX (aG hr) (aa 0) (aa 1)))) xZ) (jr (lQ aL)))⟩
def dA:=yM 2 2 vg.1
theorem p7:KP 1 pS dA:=vg.2
def jN:CP 2 jK 1 4:=⟨_,fun T=>wK ["_law_cell_here","_law_signs","_law_some","_law_many"] (T.d 24 rfl) fun nd _ _ _ _ _ _ hr=>(iq (rQ (i:=1) au nd) (iq (Dc (aZ (dm (cK hr)) (cc rg (aa 0) aL) aL) (iq (rQ (i:=2) (cq (af au (af au (af au (af au (af au (af au (af au (af au aN))))))))) nd) (iq (rQ (i:=2) (cc fu (aa 2) (cq (af au (af au (af au (af au aN)))))) nd) (jr (lQ (bX (aG hr) (aa 2) (gJ (iE T) hr (af (aa 0) (af aL (af aL aN))))))))) xZ) (iq (rQ (i:=3) (cc fu aL (gJ (iE T) hr (af (aa 0) (af aL (af aL aN))))) nd) (iq (Dc (aZ (dm (cK hr)) (gJ (iE T) hr (af (aa 0) (af aL (af aL aN)))) aL) (jr (rQ (i:=3) aL nd)) xZ) (jr (lQ (OB PySem.F.slot_str_join PySem.F.type_str_join F1 au (af (AV (N':=["_law_k","_law_signs","_law_cell_here"]) (ix:=[none,some 1,some 0]) (dI.of (N:=["_law_cell_here","_law_signs","_law_some","_law_many"]) (sc:=aC jK.st) rfl rfl (by decide+kernel)) (pM T.range (af (aa 3) aN)) ⟨fun s H ex=>⟨(cS 0 (by show List.Nodup (["_law_k","_law_signs","_law_cell_here"]:List Str);decide+kernel)),rR,(bX (aG hr) (aa 1) (gJ (iE T) hr (af (cc fu (aa 2) (cc ux aL (aa 0))) (af aL (af (ee il T.len (af (aa 1) aN)) aN)))))⟩⟩ (cQ 0)) aN))))))))⟩
def jO:=yM 1 4 jN.1
theorem zb:KP 2 jK jO:=jN.2
def vh:CP 1 pT 2 2:=⟨_,fun T=>wK ["_law_room","_law_who"] (T.d 25 rfl) fun _ _ _ _ _ _ _ hr=>(jr (lQ (K6 (aZ (yL (aG hr)) (aa 1) (bX (aG hr) (aa 0) au)) (K' (aG hr) (af au (af au (af au (af au aN)))) (bX (aG hr) (bX (aG hr) (aa 0) au) (aa 1))) (K_ aL))))⟩
def Bg:=yM 2 2 vh.1
theorem vi:KP 1 pT Bg:=vh.2
def rW:CS 1 mD 1 1:=⟨_,fun T=>dM ["_law_people"] (T.d 26 rfl) fun _ _ _ _ _ _ _ hr=>(aJ (bN (AY (iu (ag au) (cD (u6 CU T.list (af (aa 0) aN))) (iu (ag au) (cD gg) AK)))))⟩
def gQ:=cL 1 1 rW.1
theorem zc:KS 1 mD gQ:=rW.2
def ye:CS 1 sU 3 3:=⟨_,fun T=>dM ["_law_room","_law_who","_law_parts"] (T.d 27 rfl) fun _ _ _ _ _ _ _ hr=>(aw (bh (mU eR fL cI jj (dF (pO (aG hr) (dF (ag (aa 0))) (ay au))) (aj (ay (cc fu (cq (af (cc fu (ee il T.len (af (bX (aG hr) (aa 0) au) aN)) aL) (af (aa 1) aN))) (aa 2))) aS))) (aJ (bN (ay (ee il T.len (af (bX (aG hr) (aa 0) au) aN))))))⟩
def Dw:=cL 3 3 ye.1
theorem tq:KS 1 sU Dw:=ye.2
def rX:CS 2 jL 3 5:=⟨_,fun T=>dM ["_law_room","_law_who","_law_word","_law_number","_law_first"] (T.d 28 rfl) fun nd _ _ _ _ _ _ hr=>(aw (eG (i:=3) (j1 (tq T) hr (aj (ag (aa 0)) (aj (ag (aa 1)) (aj (ay (cq (af (aa 2) aN))) aS)))) nd) (aw (eG (i:=4) (ay (K6 (aZ (dm (cK hr)) (bX (aG hr) (aa 0) au) au) aL (aa 3))) nd) (aw (bh (mU eR fL cI jj (dF (pO (aG hr) (dF (ag (aa 0))) (ay au))) (aj (ay (cq (af (aa 1) (af (aa 4) (af (aa 3) (af lP aN)))))) aS))) (aw (ir (aG hr) (dF (pO (aG hr) (dF (ag (aa 0))) (ay au))) (ag (aa 1)) (ay au)) (aJ (ir (aG hr) (dF (ag (aa 0))) (ay au) (cD (OC (N':=["_law_one","_law_who"]) (ix:=[none,some 1]) (dI.of (N:=["_law_room","_law_who","_law_word","_law_number","_law_first"]) (sc:=aC jL.st) rfl rfl (by decide+kernel)) (lR (bX (aG hr) (aa 0) au)) ⟨fun s H ex=>⟨(cS 0 (by show List.Nodup (["_law_one","_law_who"]:List Str);decide+kernel)),(u4 (aZ (CB (cK hr)) (aa 0) (aa 1))),(aa 0)⟩⟩ (cQ 0)))))))))⟩
def zd:=cL 3 5 rX.1
theorem rY:KS 2 jL zd:=rX.2
def rZ:CS 2 fg 1 3:=⟨_,fun T=>dM ["_law_room","_law_most","_law_there"] (T.d 29 rfl) fun nd _ _ _ _ _ _ hr=>(aw (cF (aU (ip (C' (Ej (AS (bX (aG hr) (aa 0) au))) (xY (aZ (yL (aG hr)) au (Ek (N':=["_law_who","_law_room"]) (ix:=[none,some 0]) (dI.of (N:=["_law_room","_law_most","_law_there"]) (sc:=aC fg.st) rfl rfl (by decide+kernel)) (AW (bX (aG hr) (aa 0) au)) ⟨fun s H ex=>⟨(cS 0 (by show List.Nodup (["_law_who","_law_room"]:List Str);decide+kernel)),rR,(bX (aG hr) (bX (aG hr) (aa 1) au) (aa 0))⟩⟩ (cQ 0))))))) (aJ GR) bK) (aw (eG (i:=1) (ay (ee (KU rfl) T.max (af (Ek (N':=["_law_who","_law_room"]) (ix:=[none,some 0]) (dI.of (N:=["_law_room","_law_most","_law_there"]) (sc:=aC fg.st) rfl rfl (by decide+kernel)) (AW (bX (aG hr) (aa 0) au)) ⟨fun s H ex=>⟨(cS 0 (by show List.Nodup (["_law_who","_law_room"]:List Str);decide+kernel)),rR,(gJ (vi T) hr (af (aa 1) (af (aa 0) aN)))⟩⟩ (cQ 0)) aN))) nd) (aw (x6 (i:=2) (N':=["_law_stay","_law_most","_law_room"]) (ix:=[none,some 1,some 0]) (dI.of (N:=["_law_room","_law_most","_law_there"]) (sc:=aC fg.st) rfl rfl (by decide+kernel)) (lR (bX (aG hr) (aa 0) au)) ⟨fun s H ex=>⟨(cS 0 (by show List.Nodup (["_law_stay","_law_most","_law_room"]:List Str);decide+kernel)),(u4 (ip (uZ (aZ NF (bX (aG hr) (aa 0) aL) lP) (pL (aZ (dm (cK hr)) (gJ (vi T) hr (af (aa 2) (af (bX (aG hr) (aa 0) aL) aN))) (aa 1)))))),(bX (aG hr) (aa 0) aL)⟩⟩ (cQ 0) nd) (aw (ir (aG hr) (dF (pO (aG hr) (dF (ag (aa 0))) (ay au))) (ay (bX (aG hr) (aa 2) aL)) (ay au)) (aJ (bh (j1 (tq T) hr (aj (ag (aa 0)) (aj (ay (bX (aG hr) (aa 2) aL)) (aj (ay (cq (af au (af (bX (aG hr) (aa 2) aL) (af au aN))))) aS))))))))))⟩
def ze:=cL 1 3 rZ.1
theorem zf:KS 2 fg ze:=rZ.2
def vj:CS 3 pU 2 5:=⟨_,fun T=>dM ["_law_model","_law_deed","_law_word","_law_who","_law_room"] (T.d 30 rfl) fun nd _ _ _ _ _ _ hr=>(aw (La (K9 (is:=[2,3]) (AU (i:=2) (AU (i:=3) K8 nd) nd)) (FL [2,3]) (ay (x8 (aa 1) wG (pN aL)))) (aw (cF (aU (aZ (dm (cK hr)) (aa 2) au)) (aw (bh (mU eR fL cI jj (dF (pO (aG hr) (dF (ag (aa 0))) (ay au))) (aj (ag (aa 3)) aS))) (aJ (bN (ay lP)))) bK) (aw (cF (aU (aZ (dm (cK hr)) (aa 2) au)) (aw (eG (i:=4) (AY (iu (ag au) (cD (lS aN)) (iu (ag au) (cD gg) (iu (ag au) (cD (lS aN)) (iu (ag au) (cD (lS aN)) (iu (ag au) (cD (lS aN)) AK)))))) nd) (aw (bh (Le (dF (ag (aa 4))) (ag (GN (wH au au (wH au au (wH au au JT))))))) (aw (ir (aG hr) (dF (pO (aG hr) (dF (ag (aa 0))) (ay au))) (ay (bX (aG hr) (aa 1) aL)) (ag (aa 4))) (aw (bh (j1 (rY T) hr (aj (ag (aa 4)) (aj (ag (aa 3)) (aj (ay au) aS))))) (aw (ir (aG hr) (dF (pO (aG hr) (dF (ag (aa 4))) (ay au))) (ag (aa 3)) (ay au)) (aJ (bN (ay lP)))))))) bK) (aw (eG (i:=4) (pO (aG hr) (dF (pO (aG hr) (dF (ag (aa 0))) (ay au))) (ay (bX (aG hr) (aa 1) aL))) nd) (aw (cF (aU (aZ (dm (cK hr)) (aa 2) au)) (aJ (bN (j1 (tq T) hr (aj (ag (aa 4)) (aj (ag (aa 3)) (aj (ay (cc fu (x8 (aa 1) wG (pN aL)) (x8 (aa 1) (pN aL) wG))) aS)))))) bK) (aw (cF (aU (aZ (dm (cK hr)) (aa 2) au)) (aJ (bh (j1 (rY T) hr (aj (ag (aa 4)) (aj (ag (aa 3)) (aj (ay au) aS)))))) (aJ (cF (aU (aZ (dm (cK hr)) (aa 2) au)) (aJ (bh gH)) (aJ (bh gH))))) (aw (bh (j1 (zf T) hr (aj (ag (aa 4)) aS))) (aJ (bN (ay lP))))))))))⟩
def Bh:=cL 2 5 vj.1
theorem Bi:KS 3 pU Bh:=vj.2
def vk:CS 6 pV 2 3:=⟨_,fun T=>dM ["_law_hall_here","_law_deed","_law_word"] (T.d 31 rfl) fun nd _ _ _ _ _ _ hr=>(aw (eG (i:=2) (ay (bX (aG hr) (aa 1) aL)) nd) (aw (cF (aU (aZ (dm (cK hr)) (aa 2) au)) (aJ (bN (bH (mY T) hr (dF (ag (aa 0))) (aj (ay (bX (aG hr) (aa 1) aL)) aS)))) bK) (aw (cF (aU (aZ (dm (cK hr)) (aa 2) au)) (aJ (bN (bH (sX T) hr (dF (ag (aa 0))) (aj (ay (bX (aG hr) (aa 1) aL)) (aj (ay (bX (aG hr) (aa 1) aL)) aS))))) bK) (aw (cF (aU (aZ (dm (cK hr)) (aa 2) au)) (aJ (bN (bH (tm T) hr (dF (ag (aa 0))) (aj (ay (bX (aG hr) (aa 1) aL)) (aj (ay (bX (aG hr) (aa 1) aL)) aS))))) bK) (aw (cF (aU (aZ (dm (cK hr)) (aa 2) au)) (aJ (bN gH)) bK) (aw (cF (aU (aZ (dm (cK hr)) (aa 2) au)) (aJ (bN gH)) bK) (aw (cF (aU (aZ (dm (cK hr)) (aa 2) au)) (aJ (bN gH)) bK) (aw (cF (aU (aZ (dm (cK hr)) (aa 2) au)) (aJ (bN gH)) bK) (aw (cF (aU (aZ (dm (cK hr)) (aa 2) au)) (aJ (bN gH)) bK) (aw (cF (aU (aZ (dm (cK hr)) (aa 2) au)) (aJ (bN gH)) bK) (aw (cF (aU (aZ (dm (cK hr)) (aa 2) au)) (aJ (bN gH)) bK) (aw (cF (aU (aZ (dm (cK hr)) (aa 2) au)) (aJ (bN (bH (p6 T) hr (dF (ag (aa 0))) (aj (ay (bX (aG hr) (aa 1) aL)) (aj (ay (bX (aG hr) (aa 1) aL)) (aj (ay (bX (aG hr) (aa 1) aL)) (aj (ay (bX (aG hr) (aa 1) aL)) aS))))))) bK) (aw (cF (aU (aZ (dm (cK hr)) (aa 2) au)) (aJ (bN gH)) bK) (aJ (bN gH)))))))))))))))⟩
def Bj:=cL 2 3 vk.1
theorem Bk:KS 6 pV Bj:=vk.2
def vm:CS 7 pW 2 4:=⟨_,fun T=>dM ["_law_hall_here","_law_model","_law_who","_law_deed"] (T.d 32 rfl) fun nd _ _ _ _ _ _ hr=>(aw (u5 (lR (cq (af au (af au (af au (af au (af au aN))))))) (cS 2 nd) (cQ 2) (aJ (bh (bH (mY T) hr (dF (ag (aa 0))) (aj (ag (aa 2)) aS))))) (aJ (u5 (lR (cq (af (cq (af au (af au (af au aN)))) (af (cq (af au (af au (af au aN)))) (af (cq (af au (af au (af au aN)))) (af (cq (af au (af au (af au aN)))) aN)))))) (cS 3 nd) (cQ 3) (aw (bh (j1 (Bk T) hr (aj (ag (aa 0)) (aj (ag (aa 3)) aS)))) (aJ (bh (j1 (Bi T) hr (aj (ag (aa 1)) (aj (ag (aa 3)) aS)))))))))⟩
def jA:=cL 2 4 vm.1
theorem Bl:KS 7 pW jA:=vm.2
def yf:CZ 8 lU 1 12:=⟨_,fun T=>OL ["_law_script","_law_hall_here","_law_model","_law_hand","_law_numbers","_law_sent","_law_k","_law_words_here","_law_answers","_law_turn","_law_cell_here","_law_mine"] (T.d 33 rfl) fun nd _ _ _ _ _ _ hr=>(aw (eG (i:=1) (Dr (nt T) T.G8 hr) nd) (aw (eG (i:=2) (j1 (zc T) hr (aj (ay (cq (af au (af au (af au (af au (af au aN))))))) aS)) nd) (aw (bh (j1 (Bl T) hr (aj (ag (aa 1)) (aj (ag (aa 2)) aS)))) (aw (eG (i:=3) (bH (vd T) hr (dF (ag (aa 1))) (aj (ay au) aS)) nd) (aw (eG (i:=4) (cD (lS aN)) nd) (aw (eG (i:=5) (cD (lS aN)) nd) (aw (u5 (pM T.range (af (gJ (iE T) hr (af (gJ (p7 T) hr (af (aa 0) (af aL aN))) (af aL (af aL aN)))) aN)) (cS 6 nd) (cQ 6) (aw (eG (i:=7) (ay (gJ (zb T) hr (af (cc fu (gJ (p7 T) hr (af (aa 0) (af (cc fu aL (cc rg (aa 6) aL)) aN))) (cc ux aL (aa 6))) aN))) nd) (aw (bh (mU eR fL cI jj (dF (ag (aa 5))) (aj (ag (aa 7)) aS))) (aw (eG (i:=8) (cD (lS aN)) nd) (aw (u5 (pM T.range (af aL aN)) (cS 9 nd) (cQ 9) (aw (eG (i:=10) (ay (cc fu (cc fu (gJ (p7 T) hr (af (aa 0) (af (cc fu aL (cc rg (aa 9) aL)) aN))) (cc ux aL (aa 6))) (aa 9))) nd) (aw (cF (aU (ip (C' (aZ (dm (cK hr)) (aa 9) aL) (xY (aZ JM (gJ (iE T) hr (af (aa 10) (af aL (af aL aN)))) aL))))) (aJ (bh (mU eR fL cI jj (dF (ag (aa 8))) (aj (bH (nB T) hr (dF (ag (aa 1))) (aj (ag (aa 3)) (aj (ay au) (aj (ay (cc fu au (u3 Kt T.str (af (aa 6) aN)))) (aj (ag (aa 7)) aS))))) aS)))) bK) (aJ (cF (aU (aZ (dm (cK hr)) (gJ (iE T) hr (af (aa 10) (af aL (af aL aN)))) aL)) (aJ (bh (bH (p6 T) hr (dF (ag (aa 1))) (aj (ay au) (aj (ay au) (aj (ay au) (aj (ay lP) aS))))))) bK))))) (aw (cF (aU (AS (AV (N':=["_law_one","_law_answers"]) (ix:=[none,some 8]) (dI.of (N:=["_law_script","_law_hall_here","_law_model","_law_hand","_law_numbers","_law_sent","_law_k","_law_words_here","_law_answers","_law_turn","_law_cell_here","_law_mine"]) (sc:=aC lU.st) rfl rfl (by decide+kernel)) (lR (aa 8)) ⟨fun s H ex=>⟨(cS 0 (by show List.Nodup (["_law_one","_law_answers"]:List Str);decide+kernel)),(u4 (aZ (CB (cK hr)) (aa 0) (bX (aG hr) (aa 1) aL))),(aa 0)⟩⟩ (cQ 0)))) (aJ (bN (ay GL))) bK) (aJ (bh (mU eR fL cI jj (dF (ag (aa 4))) (aj (ay (bX (aG hr) (aa 8) aL)) aS)))))))))) (aw (x6 (i:=11) (N':=["_law_row_here"]) (ix:=[none]) (dI.of (N:=["_law_script","_law_hall_here","_law_model","_law_hand","_law_numbers","_law_sent","_law_k","_law_words_here","_law_answers","_law_turn","_law_cell_here","_law_mine"]) (sc:=aC lU.st) rfl rfl (by decide+kernel)) (lR (A9 (vf T) hr (aa 1) (af au aN))) ⟨fun s H ex=>⟨(cS 0 (by show List.Nodup (["_law_row_here"]:List Str);decide+kernel)),(u4 (aZ (dm (cK hr)) (x8 (aa 0) (pN aL) (pN aL)) (cq (af au (af au aN))))),(aa 0)⟩⟩ (cQ 0) nd) (aw (cF (aU (ip (C' (aZ (CB (cK hr)) (AV (N':=["_law_row_here"]) (ix:=[none]) (dI.of (N:=["_law_script","_law_hall_here","_law_model","_law_hand","_law_numbers","_law_sent","_law_k","_law_words_here","_law_answers","_law_turn","_law_cell_here","_law_mine"]) (sc:=aC lU.st) rfl rfl (by decide+kernel)) (lR (aa 11)) ⟨fun s H ex=>⟨(cS 0 (by show List.Nodup (["_law_row_here"]:List Str);decide+kernel)),rR,(bX (aG hr) (aa 0) aL)⟩⟩ (cQ 0)) (aa 4)) (xY (aZ (CB (cK hr)) (aa 4) (GP T.sorted T.set (aa 4))))))) (aJ (bN (ay GL))) bK) (aJ (bN (ay (K5 (dm (cK hr)) (AV (N':=["_law_row_here"]) (ix:=[none]) (dI.of (N:=["_law_script","_law_hall_here","_law_model","_law_hand","_law_numbers","_law_sent","_law_k","_law_words_here","_law_answers","_law_turn","_law_cell_here","_law_mine"]) (sc:=aC lU.st) rfl rfl (by decide+kernel)) (lR (aa 11)) ⟨fun s H ex=>⟨(cS 0 (by show List.Nodup (["_law_row_here"]:List Str);decide+kernel)),rR,(bX (aG hr) (aa 0) aL)⟩⟩ (cQ 0)) (aa 5))))))))))))))⟩
def p8:=uF 1 12 yf.1
theorem Lp:KP 8 lU p8:=yf.2
end pR
namespace pR
open PySem L2
def mix(c p m:Int):Int:=(c*48271 % p)*(c*48271 % p+7) % p % m
theorem p9{c p m:Int}(hm:0<m):0<=mix c p m/\mix c p m<m:=⟨Int.emod_nonneg _ (by omega),Int.emod_lt_of_pos _ hm⟩
theorem wN{i j:Int}(h:lF i j):qA (.int i) (.int j)=.ok (.int (i*j)):=ae h
theorem Hb{i j:Int}(h:0<j):uw (.int i) (.int j)=.ok (.int (i % j)):=ae h
theorem vn(c p m:Int)(hp:0<p)(HM:p<=1048576)(hm:0<m):ej [.int c,.int p,.int m]=.ok (.int (mix c p m)):=by
 have b0:0<=c*48271 % p:=Int.emod_nonneg _ (by omega);have b1:c*48271 % p<p:=Int.emod_lt_of_pos _ hp;show fW (nR.1 [.sh (.int c),.sh (.int p),.sh (.int m),.no])=_;unfold nR;have q1:qA (.int c) (.int 48271)=.ok (.int (c*48271)):=ae (.inr ⟨by decide,by decide⟩);have q2:∀a,uw (.int a) (.int p)=.ok (.int (a % p)):=fun a=>ae hp;have q3:qA (.int (c*48271 % p)) (.int (c*48271 % p+7))=.ok (.int ((c*48271 % p)*(c*48271 % p+7))):=ae (.inl ⟨by omega,by omega⟩);have q4:∀a,uw (.int a) (.int m)=.ok (.int (a % m)):=fun a=>ae hm;simp only[ev,qH,q1,q2,q3,q4,g5,g6,mix]
theorem wO(ns:List Int)(k:Int)(h:0<=k):∃c,dA [.gq ns,.int k]=.ok (.int c):=by
 show∃c,fW (vU (HQ (.ok (decide (k<(ns.length:Int)))) (z7 ((mr (L2.lp ns k)).bind fun n=>.ok (.int n))) (.ok (.nx [.sh (.gq ns),.sh (.int k)]))) fun ρ=>z7 (Rs.ok (.int 0)))=_;by_cases hk:k<(ns.length:Int)
 ·have hl:k.toNat<ns.length:=by omega
  have e:L2.lp ns k=some (ns[k.toNat]):=by
   have q:=nH (xs:=ns) (j:=k.toNat) (bp hl);rw[kM h]at q;exact q
  rw[dZ hk,e];exact⟨_,rfl⟩
 ·rw[cw hk];exact⟨0,rfl⟩
theorem Hc{l:List Tr}{k:Int}(h0:0<=k)(h1:k<l.length):∃t∈l,pj (.tup l) (.int k)=.ok t/\pj (.lst l) (.int k)=.ok t:=by
 have hl:k.toNat<l.length:=by omega
 have q:=nH (xs:=l) (j:=k.toNat) (bp hl);rw[kM h0]at q;exact⟨l[k.toNat],oF _,by show mr (L2.lp l k)=_;rw[q];rfl,by show mr (L2.lp l k)=_;rw[q];rfl⟩
theorem Lq{l:List Str}{k:Int}(h0:0<=k)(h1:k<l.length):∃z∈l,pj (.tup (l.map .str)) (.int k)=.ok (.str z):=by
 obtain⟨t,ht,e,_⟩:=Hc (l:=l.map .str) h0 (by rw[aE];exact h1);obtain⟨z,hz,rfl⟩:=eY.mp ht;exact⟨z,hz,e⟩
theorem Bm{b:Bool}{x y:Rs Out}{K:ax->Rs Out}{P:Rs Tr->Prop}(h:∀r,r=x\/r=y->P (fW (vU r K))):P (fW (vU (HQ (.ok b) x y) K)):=by
 cases b
 ·exact h y (.inr rfl)
 ·exact h x (.inl rfl)
def Bn:List Str:=["hi","@ann hi","@bo @ann","hi @cy","@ann,","@@ann","a@ann","\"","@ed @ed x","@","@annabel","@zed"]
def p_:Str:=" !\"#$&'()*+,-./0123456789:;<=>?@ABCDEFGHIJKLMNOPQRSTUVWXYZ[\\]^_`abcdefghijklmnopqrstuvwxyz{|}~"
theorem vo:p_.length=94/\p_.cps.toList.length=94:=by decide+kernel
theorem strs_map{α:Type}{f:α->Str}:∀{l:List α},iI (l.map fun k=>Tr.str (f k))=.ok (l.map f)
 |[]=>rfl
 |k::l=>by rw[aK,iI,strs_map];rfl
theorem wQ(j:Int):iG (.ok [.int j])=if-4611686018427387904<=j/\j<4611686018427387904 then .ok (uo 0 j.toNat)else .bad:=rfl
theorem Dx(c:Int):∃z,jO [.int c]=.ok (.str z):=by
 show∃z,fW (jN.1 [.sh (.int c),.no,.no,.no])=_;unfold jN;have m3:uw (.int c) (.int 3)=.ok (.int (c % 3)):=Hb (by decide);have mx:=fun p m (hp:0<p) (HM:p<=1048576) (hm:0<m)=>vn c p m hp HM hm;simp only[ev,qH,m3,mx 9973 12 (by decide) (by decide) (by decide),mx 9967 6 (by decide) (by decide) (by decide),mx 9949 9 (by decide) (by decide) (by decide),g5,g6];refine Bm (P:=fun r=>∃z,r=.ok (.str z)) fun r h=>?_
 rcases h with rfl|rfl
 ·obtain⟨z,_,ez⟩:=Lq (l:=Bn) (p9 (c:=c) (p:=9973) (m:=12) (by decide)).1 (p9 (by decide)).2;have t8:∀a b c d e f g h,pb (.ok [a,b,c,d,e,f,g,h])=.ok (.tup [a,b,c,d,e,f,g,h]):=fun _ _ _ _ _ _ _ _=>rfl;have Sk:jd (.tup [.str "hi",.str "@ann hi",.str "@bo @ann",.str "hi @cy",.str "@ann,",.str "@@ann",.str "a@ann",.str "\""]) (.tup [.str "@ed @ed x",.str "@",.str "@annabel",.str "@zed"])=.ok (.tup (Bn.map .str)):=rfl;refine⟨z,?_⟩;simp only[t8,ev,qH,Sk,g5,g6,mx 9973 12 (by decide) (by decide) (by decide),ez]
 ·simp only[ev,qH,mx 9967 6 (by decide) (by decide) (by decide),mx 9949 9 (by decide) (by decide) (by decide),g5,g6];refine Bm (P:=fun r=>∃z,r=.ok (.str z)) fun r h=>?_
  obtain⟨n,hn,rfl⟩:∃n:Nat,n<=60/\r=.ok (.nx [.sh (.int c),.sh (.str p_),.no,.sh (.int (n:Nat))]):=by
   have b:=p9 (c:=c) (p:=9967) (m:=6) (by decide);rcases h with rfl|rfl
   ·exact⟨60,by decide,rfl⟩
   ·exact⟨(1+mix c 9967 6).toNat,by omega,by rw[kM (by omega)];rfl⟩
  have e1:iG (.ok [.int (n:Int)])=.ok ((List.range n).map fun k=>Tr.int (0+(k:Nat))):=by
   rw[wQ,ae ⟨by omega,by omega⟩,eW];unfold uo;rfl
  let f:Nat->Str:=fun k=>⟨#[p_.cps.toList.getD (mix (c+7*(0+(k:Int))) 9941 94).toNat 0]⟩
  have l2:mT [.str p_]=.ok (.int 94):=by show Rs.ok (Tr.int (p_.length:Nat))=_;rw[vo.1];rfl
  simp only[ev,qH,e1];rw[nQ (G7:=[.sh (.str p_),.sh (.int c)]) (fun _=>true) (fun k:Nat=>Tr.int (0+(k:Nat))) (fun k=>Tr.str (f k)) (xs:=List.range n) rfl (by rw[kG];exact a6 hn (by decide)) rfl (fun _ _=>rfl) fun k _ _=>?_]
  ·have e4:(Txt.join ("":Str) ((List.range n).map f)).length=n:=by
    have q:=PySem.W.KT.join_ones ((List.range n).map f) fun a ha=>by obtain⟨j,_,rfl⟩:=eY.mp ha;rfl
    rw[aE,kG]at q;exact q
   have fe:(List.range n).filter (fun _=>true)=List.range n:=List.filter_eq_self.mpr fun _ _=>rfl;have jo:JoinOk "" ((List.range n).map f)=true:=by
    have q:=PyProof.Rows.joinOk_few (sep:="") (as:=List.range n) (pz:=fun _=>true) (f:=f) (by rw[kG];omega) (fun a=>by show 1<=_;decide) (by decide);rw[fe]at q;exact q
   rw[fe];refine⟨Txt.join "" ((List.range n).map f),?_⟩;have jm:mS joinM (.ok (.str "")) (.ok [.lst ((List.range n).map fun k=>Tr.str (f k))])=.ok (.str (Txt.join "" ((List.range n).map f))):=by
    show(iI ((List.range n).map fun k=>Tr.str (f k))).bind (fun zs=>if JoinOk "" zs=true/\(Txt.join "" zs).length<=bS then Rs.ok (Tr.str (Txt.join "" zs))else .bad)=_;rw[strs_map];exact ae ⟨jo,by rw[e4];exact a6 hn (by decide)⟩
   simp only[ev,qH,jm]
  ·have e3:qA (.int 7) (.int (0+(k:Int)))=.ok (.int (7*(0+(k:Int)))):=wN (.inl ⟨by decide,by decide⟩);obtain⟨m0,m1⟩:=p9 (c:=c+7*(0+(k:Int))) (p:=9941) (m:=94) (by decide);simp only[ev,qH,e3,l2,vn _ 9941 94 (by decide) (by decide) (by decide)];show(mr (L2.lp p_.cps.toList (mix (c+7*(0+(k:Int))) 9941 94))).bind (fun ch=>Rs.ok (Tr.str ⟨#[ch]⟩))=_;have hk:(mix (c+7*(0+(k:Int))) 9941 94).toNat<p_.cps.toList.length:=by rw[vo.2];omega
   have q:=nH (xs:=p_.cps.toList) (j:=(mix (c+7*(0+(k:Int))) 9941 94).toNat) (bp hk);rw[kM m0]at q;rw[q];show Rs.ok (Tr.str ⟨#[_]⟩)=Rs.ok (Tr.str ⟨#[p_.cps.toList.getD _ 0]⟩);rw[kz,bp hk];rfl
end pR
namespace pR
open PySem L2
def A0:Ab:=[.ins "Hall" [("persons",.at 1),("places",.at 2),("hands",.at 3)],.a8 [],.a8 [],.lst []]
def A1:Ab:=A0++[.a8 [(.inr "people",.at 5),(.inr "rooms",.at 6)],.lst [.str "ann",.str "bo",.str "cy",.str "dee",.str "ed"],.a8 []]
theorem Sl:lO "Hall" c0 (.ok [] [])=.ok (.at 0) A0:=by kernel_rfl
theorem Sm:gQ [.tup [.str "ann",.str "bo",.str "cy",.str "dee",.str "ed"]] A0=.ok (.at 4) A1:=by kernel_rfl
def A2:Ab:=[.ins "Hall" [("persons",.at 1),("places",.at 2),("hands",.at 3)],.a8 [(.inr "ann",.bl true),(.inr "bo",.bl true),(.inr "cy",.bl true),(.inr "dee",.bl true),(.inr "ed",.bl true)],.a8 [(.inr "hall",.at 7),(.inr "yard",.at 27)],.lst [],.a8 [(.inr "people",.at 5),(.inr "rooms",.at 6)],.lst [.str "ann",.str "bo",.str "cy",.str "dee",.str "ed"],.a8 [(.inr "hall",.at 16),(.inr "yard",.at 36)],.ins "Room" (roomF 7),.lst [.tup [.int 1,.str "ann",.str "found"],.tup [.int 2,.str "bo",.str "enter"],.tup [.int 3,.str "cy",.str "enter"]],.a8 [(.inr "ann",.str "owner"),(.inr "bo",.str "guest"),(.inr "cy",.str "guest")],.a8 [(.inr "ann",.int 1),(.inr "bo",.int 2),(.inr "cy",.int 3)],.a8 [(.inr "door",.str "open"),(.inr "voice",.str "all"),(.inr "past",.str "shown")],.a8 [],.a8 [],.a8 [],.dB [],.a8 [(.inr "rows",.at 17),(.inr "roles",.at 18),(.inr "stays",.at 19),(.inr "barred",.at 20),(.inr "asked",.at 26),(.inr "door",.str "open"),(.inr "voice",.str "all"),(.inr "past",.str "shown")],.lst [.tup [.int 1,.str "ann",.str "found"],.tup [.int 2,.str "bo",.str "enter"],.tup [.int 3,.str "cy",.str "enter"]],.a8 [(.inr "ann",.str "owner"),(.inr "bo",.str "guest"),(.inr "cy",.str "guest")],.lst [.tup [.str "ann",.int 1,.int 1,.a_],.tup [.str "bo",.int 1,.int 2,.a_],.tup [.str "cy",.int 1,.int 3,.a_]],.lst [],.lst [],.lst [],.lst [.str "ann"],.lst [],.lst [.str "ann"],.lst [],.ins "Room" (roomF 27),.lst [.tup [.int 1,.str "dee",.str "found"]],.a8 [(.inr "dee",.str "owner")],.a8 [(.inr "dee",.int 1)],.a8 [(.inr "door",.str "open"),(.inr "voice",.str "all"),(.inr "past",.str "shown")],.a8 [],.a8 [],.a8 [],.dB [],.a8 [(.inr "rows",.at 37),(.inr "roles",.at 38),(.inr "stays",.at 39),(.inr "barred",.at 40),(.inr "asked",.at 42),(.inr "door",.str "open"),(.inr "voice",.str "all"),(.inr "past",.str "shown")],.lst [.tup [.int 1,.str "dee",.str "found"]],.a8 [(.inr "dee",.str "owner")],.lst [.tup [.str "dee",.int 1,.int 1,.a_]],.lst [],.lst [],.lst []]
def A3:Ab:=[.ins "Hall" [("persons",.at 1),("places",.at 2),("hands",.at 3)],.a8 [(.inr "ann",.bl true),(.inr "bo",.bl true),(.inr "cy",.bl true),(.inr "dee",.bl true),(.inr "ed",.bl true)],.a8 [(.inr "hall",.at 7),(.inr "yard",.at 27)],.lst [.at 43],.a8 [(.inr "people",.at 5),(.inr "rooms",.at 6)],.lst [.str "ann",.str "bo",.str "cy",.str "dee",.str "ed"],.a8 [(.inr "hall",.at 16),(.inr "yard",.at 36)],.ins "Room" (roomF 7),.lst [.tup [.int 1,.str "ann",.str "found"],.tup [.int 2,.str "bo",.str "enter"],.tup [.int 3,.str "cy",.str "enter"]],.a8 [(.inr "ann",.str "owner"),(.inr "bo",.str "guest"),(.inr "cy",.str "guest")],.a8 [(.inr "ann",.int 1),(.inr "bo",.int 2),(.inr "cy",.int 3)],.a8 [(.inr "door",.str "open"),(.inr "voice",.str "all"),(.inr "past",.str "shown")],.a8 [],.a8 [],.a8 [],.dB [],.a8 [(.inr "rows",.at 17),(.inr "roles",.at 18),(.inr "stays",.at 19),(.inr "barred",.at 20),(.inr "asked",.at 26),(.inr "door",.str "open"),(.inr "voice",.str "all"),(.inr "past",.str "shown")],.lst [.tup [.int 1,.str "ann",.str "found"],.tup [.int 2,.str "bo",.str "enter"],.tup [.int 3,.str "cy",.str "enter"]],.a8 [(.inr "ann",.str "owner"),(.inr "bo",.str "guest"),(.inr "cy",.str "guest")],.lst [.tup [.str "ann",.int 1,.int 1,.a_],.tup [.str "bo",.int 1,.int 2,.a_],.tup [.str "cy",.int 1,.int 3,.a_]],.lst [],.lst [],.lst [],.lst [.str "ann"],.lst [],.lst [.str "ann"],.lst [],.ins "Room" (roomF 27),.lst [.tup [.int 1,.str "dee",.str "found"]],.a8 [(.inr "dee",.str "owner")],.a8 [(.inr "dee",.int 1)],.a8 [(.inr "door",.str "open"),(.inr "voice",.str "all"),(.inr "past",.str "shown")],.a8 [],.a8 [],.a8 [],.dB [],.a8 [(.inr "rows",.at 37),(.inr "roles",.at 38),(.inr "stays",.at 39),(.inr "barred",.at 40),(.inr "asked",.at 42),(.inr "door",.str "open"),(.inr "voice",.str "all"),(.inr "past",.str "shown")],.lst [.tup [.int 1,.str "dee",.str "found"]],.a8 [(.inr "dee",.str "owner")],.lst [.tup [.str "dee",.int 1,.int 1,.a_]],.lst [],.lst [],.lst [],.ins "Hand" [("owner",.str "ann"),("told",.at 44)],.a8 []]
theorem Sn:jA [.at 0,.at 4] A1=.ok .a_ A2:=by kernel_rfl
theorem So:dh "Hall" "hand" eJ (.ok (.at 0) A2) (fun A=>.ok [.str "ann"] A)=.ok (.int 0) A3:=by kernel_rfl
end pR
namespace pR
open PySem L2
section
variable {A:Ab}{i:Nat}{rows:List Tr}{rk en ch bn iv:List (Key×Tr)}
theorem Dy{qa word:Str}{ps:List Tr}(h:dN A i rows rk en ch bn iv)(f:pQ rows rk en ch bn iv)(hl:rows.length<iS)(hp:3+ps.length<=iS)(ht:jh ps=true):
  gK [.at i,.str qa,.str word,.tup ps] A=.ok (.int (rows.length+1)) (A.set (i+1) (.lst (rows++[.tup (.int (rows.length+1):: .str qa:: .str word::ps)]))):=by
 show du (cM.1 [.sh (.at i),.sh (.str qa),.sh (.str word),.sh (.tup ps),.no] A)=_;unfold cM;have e3:jd (.tup [.int (rows.length+1),.str qa,.str word]) (.tup ps)=.ok (.tup (.int (rows.length+1):: .str qa:: .str word::ps)):=ae hp;have ef:∀A,ie (.ok (.tup (.int (rows.length+1):: .str qa:: .str word::ps))) A=.ok (.tup (.int (rows.length+1):: .str qa:: .str word::ps)) A:=fun A=>ae (by simpa only[Bz,jh,Bool.true_and]using ht);simp only[ev,qH,Bd,x_,h.ON f,h.OP,g5,g6,sR h.lg,sS h.lg hl,e3,ef]
abbrev jW(rows:List Tr)(qa word:Str)(ps:List Tr):Tr:=.tup (.int (rows.length+1):: .str qa:: .str word::ps)
end
abbrev Hd:List (Str×Bool):=[("ann",true),("bo",true),("cy",true),("dee",true),("ed",true)]
abbrev Mv:List (Str×Nat):=[("hall",7),("yard",27)]
abbrev Lr:List (Str×Str):=[("ann","owner"),("bo","guest"),("cy","guest")]
abbrev Qi:List (Str×Int):=[("ann",1),("bo",2),("cy",3)]
abbrev OY:List (Str×Str):=[("door","open"),("voice","all"),("past","shown")]
structure HS(A:Ab)(rows:List Tr)(av:List (List Key×Tr)):Prop where
 hl:gj A Hd Mv
 rm:dN A 7 rows (dP .str Lr) (dP .int Qi) (dP .str OY) [] []
 ks:A[15]?=some (.dB av)
 hs:A[3]?=some (.lst [.at 43])
 hn:A[43]?=some (.ins "Hand" [("owner",.str "ann"),("told",.at 44)])
section
variable {A:Ab}{rows mW:List Tr}{av AM:List (List Key×Tr)}
theorem HS.len (h:HS A rows av):43<A.length:=(cG.mp h.hn).1
theorem HS.keep {A':Ab}(h:HS A rows av)(k:∀i,i<=43->i≠8->i≠15->A'[i]?=A[i]?)(h8:A'[8]?=some (.lst mW))(yA:A'[15]?=some (.dB AM)):HS A' mW AM:=by
 refine⟨⟨?_,?_,?_⟩,⟨?_,h8,?_,?_,?_,?_,?_⟩,yA,?_,?_⟩
 ·rw[k 0 (by decide) (by decide) (by decide)];exact h.hl.o
 ·rw[k 1 (by decide) (by decide) (by decide)];exact h.hl.ps
 ·rw[k 2 (by decide) (by decide) (by decide)];exact h.hl.pl
 ·rw[k 7 (by decide) (by decide) (by decide)];exact h.rm.o
 ·rw[k 9 (by decide) (by decide) (by decide)];exact h.rm.rk
 ·rw[k 10 (by decide) (by decide) (by decide)];exact h.rm.en
 ·rw[k 11 (by decide) (by decide) (by decide)];exact h.rm.ch
 ·rw[k 12 (by decide) (by decide) (by decide)];exact h.rm.bn
 ·rw[k 13 (by decide) (by decide) (by decide)];exact h.rm.iv
 ·rw[k 3 (by decide) (by decide) (by decide)];exact h.hs
 ·rw[k 43 (by decide) (by decide) (by decide)];exact h.hn
theorem HS.He (h:HS A rows av)(r:List Tr):HS (A.set 8 (.lst r)) r av:=h.keep (fun i _ h8 _=>bV (bt h8)) (fM (fS (by decide) h.len)) (by rw[bV (by decide)];exact h.ks)
theorem HS.Ls (h:HS A rows av)(k:List (List Key×Tr)):HS (A.set 15 (.dB k)) rows k:=h.keep (fun i _ _ yA=>bV (bt yA)) (by rw[bV (by decide)];exact h.rm.lg) (fM (fS (by decide) h.len))
theorem HS.else (h:HS A rows av){i:Nat}(hi:43<i)(o:Ao):HS (A.set i o) rows av:=h.keep (fun j hj _ _=>bV (by omega)) (by rw[bV (by omega)];exact h.rm.lg) (by rw[bV (by omega)];exact h.ks)
theorem HS.app (h:HS A rows av)(o:Ao):HS (A++[o]) rows av:=by
 have hl:=h.len;exact h.keep (fun j hj _ _=>dn (by omega)) (by rw[dn (by omega)];exact h.rm.lg) (by rw[dn (by omega)];exact h.ks)
theorem Mw(tu:lT rows):pQ rows (dP .str Lr) (dP .int Qi) (dP .str OY) [] []:=⟨tu,nP fun _ _ _=>by simp only[x_],nP fun _ _ _=>by simp only[x_],nP fun _ _ _=>by simp only[x_],(fun p hp=>by cases hp),(fun p hp=>by cases hp)⟩
theorem Lu(h:HS A rows av)(tu:lT rows){qa:Str}{r:Str}(hw:Lr.lookup qa=some r):jy [.at 7,.str qa] A=.ok .a_ A:=by
 show du (dy.1 [.sh (.at 7),.sh (.str qa)] A)=_;unfold dy;simp only[ev,qH,Bd,x_,h.rm.Ln (Mw tu),mC,hw,kU,kE,iX]
theorem Ep(h:HS A rows av)(tu:lT rows)(hl:rows.length<=1000){qa r words:Str}(hw:Lr.lookup qa=some r):
  p4 [.at 7,.str qa,.str words,.a_] A=.ok (.int (rows.length+1)) (A.set 8 (.lst (rows++[jW rows qa "say" [.str words,.a_]]))):=by
 show du (iB.1 [.sh (.at 7),.sh (.str qa),.sh (.str words),.sh .a_] A)=_;unfold iB;have n:=Lu h tu hw;have ch:pj (.a8 (dP .str OY)) (.str "voice")=.ok (.str "all"):=by rw[x'];rfl
 have rk:pj (.a8 (dP .str Lr)) (.str qa)=.ok (.str r):=by rw[x',hw];rfl
 have w:=Dy (qa:=qa) (word:="say") (ps:=[.str words,.a_]) h.rm (Mw tu) (kN hl (by decide)) (by show 3+2<=iS;decide) rfl;have fz:∀A,ie (.ok (.tup [.str words,.a_])) A=.ok (.tup [.str words,.a_]) A:=fun A=>rfl;have g1:∀x,yF (.ok (("all":Str)==("some":Str))) (.ok x)=.ok false:=fun x=>rfl;have i0:FW .a_ .a_=.ok (.bl false):=rfl;have g2:∀x,yF (.ok false) x=.ok false:=fun x=>rfl;simp only[ev,qH,Bd,x_,h.rm.call (m:="need_in") rfl,n,h.rm.OO (Mw tu),h.rm.Ln (Mw tu),ch,rk,g1,i0,g2,fz,h.rm.call (m:="write_row") rfl,w]
end
end pR
namespace pR
open PySem L2
def gn(k:Nat):Str:=Str.ofString "key "++Str.ofString (toString (k:Int))
theorem Hf:∀k:Nat,k<13->((k:Int).natAbs.log2<1920/\(Str.ofString (toString (k:Int))).length<=bS)/\(Str.ofString "key ").length+(Str.ofString (toString (k:Int))).length<=bS:=by decide+kernel
theorem Dz:∀i:Nat,i<13->∀j:Nat,j<13->gn i=gn j->i=j:=by decide+kernel
theorem Lv{k:Nat}(h:k<13):ff jd (Rs.ok (Tr.str (Str.ofString "key "))) (cp AF (a9 (.ok (.int (k:Int))) (Rs.ok [])))=.ok (.str (gn k)):=by
 obtain⟨h1,h2⟩:=Hf k h;show ff jd (Rs.ok (Tr.str (Str.ofString "key "))) (if(k:Int).natAbs.log2<1920/\(Str.ofString (toString (k:Int))).length<=bS then Rs.ok (Tr.str (Str.ofString (toString (k:Int))))else .bad)=_;rw[ae h1];exact ae h2
abbrev kk(k:Nat):List Key:=[.inr "ann",.inr (gn k)]
def fE:Nat->List (Nat×Str)->List (List Key×Tr)
 |_,[]=>[]
 |i,p::ps=>(kk i,.int (p.1:Int))::fE (i+1) ps
theorem Lw{i j:Nat}(hi:i<13)(hj:j<13)(h:i≠j):kk i≠kk j:=fun e=>by
 injection e with _ e
 injection e with e _
 injection e with e
 exact h (Dz i hi j hj e)
theorem qd{k:Nat}(hk:k<13):∀(i:Nat) (mn:List (Nat×Str)),i+mn.length<=13->jt (fE i mn) (kk k)=if i<=k then(mn[k - i]?).map (fun p=>Tr.int (p.1:Int))else none
 |i,[],_=>by show none=_;split<;>simp
 |i,p::ps,h=>by
  rw[a5]at h;have ih:=qd hk (i+1) ps (by omega);unfold jt at ih⊢;rw[fE,cW];by_cases e:i=k
  ·subst e;rw[dZ rfl,ae (aB _),iZ]
   rfl
  ·rw[cw (Lw (by omega) hk e)];show((fE (i+1) ps).find? fun kv=>decide (kv.1=kk k)).map (·.2)=_;rw[ih];by_cases q:i<=k
   ·rw[ae q,ae (by omega),show k - i=(k - (i+1))+1 by omega]
    rfl
   ·rw[ai q,ai (by omega)]
theorem Bo:∀(i:Nat) (mn:List (Nat×Str)) (p:Nat×Str),fE i (mn++[p])=fE i mn++[(kk (i+mn.length),.int (p.1:Int))]
 |i,[],p=>rfl
 |i,q::mn,p=>by
  show(kk i,_)::fE (i+1) (mn++[p])=(kk i,_)::(fE (i+1) mn++_);rw[Bo (i+1) mn p,a5,show i+1+mn.length=i+(mn.length+1) by omega]
theorem Hg{mn:List (Nat×Str)}(h:mn.length<13)(n:Nat)(w:Str):sN (fE 0 mn) (kk mn.length) (.int (n:Int))=fE 0 (mn++[(n,w)]):=by
 have v:=qd h 0 mn (by omega);rw[ae (bZ _),hW,nE (aB _)]at v;unfold jt at v;have v:=Option.map_eq_none_iff.mp v;unfold sN;rw[ai,Bo,Nat.zero_add];intro z;obtain⟨x,hx,e⟩:=List.any_eq_true.mp z;exact List.find?_eq_none.mp v x hx e
theorem Bp:∀(i:Nat) (mn:List (Nat×Str)),∀p∈fE i mn,∃n:Int,p.2=.int n
 |_,[],p,h=>by cases h
 |i,q::mn,p,h=>by
  rcases aY.mp h with rfl|h
  ·exact⟨_,rfl⟩
  ·exact Bp (i+1) mn p h
theorem kt_len:∀(i:Nat) (mn:List (Nat×Str)),(fE i mn).length=mn.length
 |_,[]=>rfl
 |i,q::mn=>by rw[fE,a5,kt_len,a5]
section
variable {A:Ab}{rows:List Tr}{mn:List (Nat×Str)}
theorem Hh(h:HS A rows (fE 0 mn)):iL ["Room"] "said_by_key" (az 5 A (.at 7))=.ok (.dB (fE 0 mn)):=by
 rw[fx h.rm.o];show Rs.ok (az 4 A (.at 15))=_;rw[az];simp only[h.ks];congr 2
 conv=>rhs;rw[<-h9 (fE 0 mn)]
 refine eV fun p hp=>?_
 obtain⟨n,e⟩:=Bp 0 mn p hp;rw[e];show(p.1,Tr.int n)=p;rw[<-e]
theorem yg(h:HS A rows (fE 0 mn)):lW [.at 0,.str "hall"] A=.ok (.at 7) A:=by
 show du (e_.1 [.sh (.at 0),.sh (.str "hall")] A)=_;unfold e_;have hj:Mv.lookup ("hall":Str)=some 7:=rfl;simp only[ev,qH,Bd,x_,h.hl.Lo,mC,hj,kU,kE,iX,h.hl.OR,yb,Du h.hl.pl,x',mr]
theorem Hi(h:HS A rows (fE 0 mn)):fD [.at 0,.tup [.str "bo"]] A=.ok .a_ A:=by
 show du (ck.1 [.sh (.at 0),.sh (.tup [.str "bo"]),.no] A)=_;unfold ck;have hp:Hd.lookup ("bo":Str)=some true:=rfl;simp only[ev,qH,Bd,x_,Si,g5,g6,h.hl.OQ,mC,hp,kU,kE,iX]
theorem Hj(h:HS A rows (fE 0 mn))(tu:lT rows)(hl:rows.length<=1000):dh "Hall" "say" iD (.ok (.at 0) A) (fun A=>.ok [.str "bo",.str "hall",.str "between",.a_] A)=.ok (.int (rows.length+1)) (A.set 8 (.lst (rows++[jW rows "bo" "say" [.str "between",.a_]]))):=by
 rw[h.hl.call (m:="say") rfl];show du (iC.1 [.sh (.at 0),.sh (.str "bo"),.sh (.str "hall"),.sh (.str "between"),.sh .a_] A)=_;unfold iC;have pf:gO [.at 0,.tup [.str "bo"],.str "hall"] A=.ok (.at 7) A:=by
  show du (cN.1 [.sh (.at 0),.sh (.tup [.str "bo"]),.sh (.str "hall")] A)=_;unfold cN;simp only[ev,qH,Bd,x_,h.hl.call (m:="need_people") rfl,Hi h,h.hl.call (m:="place") rfl,yg h]
 have fz:∀A,ie (.ok (.tup [.str "bo"])) A=.ok (.tup [.str "bo"]) A:=fun A=>rfl;have s:=Ep h tu hl (qa:="bo") (words:="between") (r:="guest") rfl;simp only[ev,qH,Bd,x_,fz,h.hl.call (m:="place_for") rfl,pf,h.rm.call (m:="say") rfl,s]
theorem Bq(h:HS A rows (fE 0 mn)):jz [.at 0,.int 0] A=.ok (.at 43) A:=by
 show du (dz.1 [.sh (.at 0),.sh (.int 0)] A)=_;unfold dz;have a:iL ["Hall"] "hands" (az 5 A (.at 0))=.ok (.lst [az 3 A (.at 43)]):=by
  rw[fx h.hl.o];show Rs.ok (az 4 A (.at 3))=_;rw[az];simp only[h.hs]
  rfl
 have f:qG ["Hall"] "hands" (.ok (.at 0) A)=.ok (.at 3) A:=by unfold qG Rz.bind;simp only[h.hl.o];rfl
 have t1:az 1 A (.at 3)=.lst [.at 43]:=by rw[az];simp only[h.hs];rfl
 have l:mT [.lst [az 3 A (.at 43)]]=.ok (.int 1):=rfl;have o1:NB (.int 0) (.int 0)=.ok (.bl false):=rfl;have o2:NC (.int 0) (.int 1)=.ok (.bl false):=rfl;have o:Bv (.ok false) (.ok false)=.ok false:=rfl;have i:pj (.lst [.at 43]) (.int 0)=.ok (.at 43):=rfl;have fz:∀A,ie (.ok (.at 43)) A=.ok (.at 43) A:=fun A=>rfl;simp only[ev,qH,Bd,x_,a,l,o1,o2,o,f,yb,t1,i,fz]
theorem DA(h:HS A rows (fE 0 mn))(tu:lT rows)(hl:rows.length<=1000)(hm:mn.length<13){w:Str}:
  cu [.at 7,.str "ann",.str (gn mn.length),.str w] A=.ok (.int (rows.length+1)) ((A.set 8 (.lst (rows++[jW rows "ann" "say" [.str w,.a_]]))).set 15 (.dB (fE 0 (mn++[(rows.length+1,w)])))):=by
 have h1:=h.He (rows++[jW rows "ann" "say" [.str w,.a_]]);have h2:=h1.Ls (fE 0 (mn++[(rows.length+1,w)]));have v0:=qd hm 0 mn (by omega);rw[ae (bZ _),hW,nE (aB _)]at v0;have v1:=qd hm 0 (mn++[(rows.length+1,w)]) (by rw[bP,fN];omega);rw[ae (bZ _),hW,gU (aB _),iZ]at v1;have n0:Dj (.tup [.str "ann",.str (gn mn.length)]) (.dB (fE 0 mn))=.ok (.bl true):=by
  show Rs.ok (Tr.bl (!(jt (fE 0 mn) (kk mn.length)).isSome))=_;rw[v0];rfl
 have i1:Lf (.dB (fE 0 (mn++[(rows.length+1,w)]))) (.tup [.str "ann",.str (gn mn.length)])=.ok (.int ((rows.length+1:Nat):Int)):=by
  show mr (jt (fE 0 (mn++[(rows.length+1,w)])) (kk mn.length))=_;rw[v1];rfl
 have s:=Ep h tu hl (qa:="ann") (words:=w) (r:="owner") rfl;have fs:∀{A:Ab},A[7]?=some (.ins "Room" (roomF 7))->qG ["Room"] "said_by_key" (.ok (.at 7) A)=.ok (.at 15) A:=fun h=>by unfold qG Rz.bind;simp only[h];rfl
 have d:u_ (A.set 8 (.lst (rows++[jW rows "ann" "say" [.str w,.a_]]))) (.at 15) (.tup [.str "ann",.str (gn mn.length)]) (.int (rows.length+1))=some ((A.set 8 (.lst (rows++[jW rows "ann" "say" [.str w,.a_]]))).set 15 (.dB (fE 0 (mn++[(rows.length+1,w)])))):=by
  show(match(A.set 8 (.lst (rows++[jW rows "ann" "say" [.str w,.a_]])))[15]? with
   |some (.dB av)=>if av.length<iS then some ((A.set 8 (.lst (rows++[jW rows "ann" "say" [.str w,.a_]]))).set 15 (.dB (sN av (kk mn.length) (.int (rows.length+1)))))else none
   |_=>none)=_
  rw[h1.ks];show(if(fE 0 mn).length<iS then some ((A.set 8 (.lst (rows++[jW rows "ann" "say" [.str w,.a_]]))).set 15 (.dB (sN (fE 0 mn) (kk mn.length) (.int (rows.length+1)))))else none)=_;rw[kt_len,ae (fS hm (by decide)),<-Hg hm (rows.length+1) w]
  rfl
 show du (bT.1 [.sh (.at 7),.sh (.str "ann"),.sh (.str (gn mn.length)),.sh (.str w)] A)=_;unfold bT;have fz:∀A,ie (.ok (.tup [.str "ann",.str (gn mn.length)])) A=.ok (.tup [.str "ann",.str (gn mn.length)]) A:=fun A=>rfl;have pk:∀{t:Tr} {A:Ab} {o k:Ab->Rz Tr} {ρ:ax},Em (.ok t A) o k ρ=(o A).bind fun u A=>(k A).bind fun tk A=>match u_ A u tk t with
  |some A'=>Rz.ok (Out.nx ρ) A'
  |none=>Rz.bad:=rfl
 simp only[ev,qH,Bd,x_,Hh h,n0,h.rm.call (m:="say") rfl,s,pk,fs h1.rm.o,fz,d,Hh h2,i1]
 rfl
theorem DB(h:HS A rows (fE 0 mn)){k n:Nat}{w w':Str}(hk:k<13)(hm:mn.length<=13)(hn:mn[k]?=some (n,w)):
  cu [.at 7,.str "ann",.str (gn k),.str w'] A=.ok (.int (n:Int)) A:=by
 have v0:=qd hk 0 mn (by omega);rw[ae (bZ _),hW,hn]at v0;have n0:Dj (.tup [.str "ann",.str (gn k)]) (.dB (fE 0 mn))=.ok (.bl false):=by
  show Rs.ok (Tr.bl (!(jt (fE 0 mn) (kk k)).isSome))=_;rw[v0];rfl
 have i1:Lf (.dB (fE 0 mn)) (.tup [.str "ann",.str (gn k)])=.ok (.int (n:Int)):=by
  show mr (jt (fE 0 mn) (kk k))=_;rw[v0];rfl
 show du (bT.1 [.sh (.at 7),.sh (.str "ann"),.sh (.str (gn k)),.sh (.str w')] A)=_;unfold bT;simp only[ev,qH,Bd,x_,Hh h,n0,i1]
theorem DC(h:HS A rows (fE 0 mn)){z w:Str}:dh "Hall" "say_once" bU (.ok (.at 0) A) (fun A=>.ok [.int 0,.str "hall",.str z,.str w] A)=du (qB (cu [.at 7,.str "ann",.str z,.str w] A)):=by
 rw[h.hl.call (m:="say_once") rfl];show du (c4.1 [.sh (.at 0),.sh (.int 0),.sh (.str "hall"),.sh (.str z),.sh (.str w),.no] A)=_;unfold c4;have a:iL ["Hand"] "owner" (az 5 A (.at 43))=.ok (.str "ann"):=by
  rw[fx h.hn];rfl
 have fz:∀A,ie (.ok (.str "ann")) A=.ok (.str "ann") A:=fun A=>rfl;simp only[ev,qH,Bd,x_,h.hl.call (m:="hand_of") rfl,Bq h,g5,g6,h.hl.call (m:="place") rfl,yg h,h.rm.call (m:="say_once") rfl,a,fz]
end
end pR
namespace pR
open PySem L2
def Mx:Tr->Bool
 |.tup (_:: .str a:: .str b::_)=>a==("ann":Str)&&b==("say":Str)
 |_=>false
def qe(p:Nat×Str):Tr:=.tup [.int (p.1:Int),.str "ann",.str "say",.str p.2,.a_]
structure RW(rows:List Tr)(mn:List (Nat×Str)):Prop where
 ok:∀t∈rows,∃(n:Int) (a b:Str) (ps:List Tr),t=.tup (.int n:: .str a:: .str b::ps)/\jh ps=true
 fl:rows.filter Mx=mn.map qe
 lt:mn.Pairwise fun p q=>p.1<q.1
 le:∀p∈mn,p.1<=rows.length
section
variable {rows:List Tr}{mn:List (Nat×Str)}
theorem RW.tu (h:RW rows mn):lT rows:=fun t ht=>by obtain⟨n,a,b,ps,e,_⟩:=h.ok t ht;exact⟨_,e⟩
theorem RW.snoc (h:RW rows mn){a:Str}{ps:List Tr}(hp:jh ps=true):∀t∈rows++[jW rows a "say" ps],∃(n:Int) (a b:Str) (ps:List Tr),t=.tup (.int n:: .str a:: .str b::ps)/\jh ps=true:=fun t ht=>by
 rcases iV.mp ht with ht|ht
 ·exact h.ok t ht
 ·rw[dW.mp ht];exact⟨_,_,_,_,rfl,hp⟩
theorem RW.bo (h:RW rows mn):RW (rows++[jW rows "bo" "say" [.str "between",.a_]]) mn:=by
 refine⟨h.snoc rfl,?_,h.lt,fun p hp=>?_⟩
 ·rw[List.filter_append,h.fl,show[jW rows "bo" "say" [.str "between",.a_]].filter Mx=[]from rfl,dY]
 ·have:=h.le p hp;rw[bP];omega
theorem RW.ann (h:RW rows mn)(w:Str):RW (rows++[jW rows "ann" "say" [.str w,.a_]]) (mn++[(rows.length+1,w)]):=by
 refine⟨h.snoc rfl,?_,?_,fun p hp=>?_⟩
 ·rw[List.filter_append,h.fl,hJ]
  rfl
 ·rw[List.pairwise_append];refine⟨h.lt,List.pairwise_singleton _ _,fun p hp q hq=>?_⟩;rw[dW.mp hq];have:=h.le p hp;show p.1<rows.length+1;omega
 ·rw[bP,fN];rcases iV.mp hp with hp|hp
  ·have:=h.le p hp;omega
  ·rw[dW.mp hp];exact aB _
end
def gX(ρ:ax)(A:Ab):Rs Tr:=ff jd (ff jd (cp dA (a9 (bA (aM A ρ) 0) (a9 (ff jd (Rs.ok (Tr.int 7)) (ff uw (bA (aM A ρ) 9) (Rs.ok (Tr.int 4)))) (Rs.ok [])))) (ff qA (Rs.ok (Tr.int 29)) (bA (aM A ρ) 6))) (bA (aM A ρ) 9)
def cO(ρ:ax):Rs Bool:=Bv (q_ (ff yK (bA ρ 9) (Rs.ok (Tr.int 5)))) (q_ (ff JK (cp ej (a9 (bA ρ 10) (a9 (Rs.ok (Tr.int 9643)) (a9 (Rs.ok (Tr.int 3)) (Rs.ok []))))) (Rs.ok (Tr.int 0))))
def Ic:ax->Ab->Rz Out:=fun ρ A=>dt (CO lM (bw (bA ρ 8) A) fun A=>b_ (dh "Hall" "say_once" bU (bw (bA ρ 1) A) fun A=>b_ (bw (bA ρ 3) A) fun A=>b_ (ie (Rs.ok (Tr.str "hall")) A) fun A=>b_ (ie (ff jd (Rs.ok (Tr.str "key ")) (cp AF (a9 (bA (aM A ρ) 6) (Rs.ok [])))) A) fun A=>b_ (bw (bA ρ 7) A) fun A=>Rz.ok [] A) fun A=>Rz.ok [] A) ρ
def cB(ρ:ax):Rs Bool:=q_ (ff yK (cp ej (a9 (bA ρ 10) (a9 (Rs.ok (Tr.int 9631)) (a9 (Rs.ok (Tr.int 4)) (Rs.ok []))))) (Rs.ok (Tr.int 0)))
def My:ax->Ab->Rz Out:=fun ρ A=>dt (dh "Hall" "say" iD (bw (bA ρ 1) A) fun A=>b_ (ie (Rs.ok (Tr.str "bo")) A) fun A=>b_ (ie (Rs.ok (Tr.str "hall")) A) fun A=>b_ (ie (Rs.ok (Tr.str "between")) A) fun A=>b_ (ie (Rs.ok Tr.a_) A) fun A=>Rz.ok [] A) ρ
def DD:ax->Ab->Rz Out:=fun ρ A=>dr (ig 10 (ie (gX ρ A) A) ρ) fun ρ A=>dr (Ai (bw (cO (aM A ρ)) A) (fun A=>Ic ρ A) fun A=>Rz.ok (Out.nx ρ) A) fun ρ A=>Ai (bw (cB (aM A ρ)) A) (fun A=>My ρ A) fun A=>Rz.ok (Out.nx ρ) A
def TS(k q t:Nat)(w:Str)(m5:List (Nat×Str))(nums qJ:List Tr)(A:Ab):Prop:=
 ∃rows mn qf,HS A rows (fE 0 mn)/\RW rows mn/\rows.length<=3+2*(6*k+t)/\A[45]?=some (.lst nums)/\A[46]?=some (.lst qJ)/\A[q]?=some (.lst qf)/\((mn=m5/\qf=[]/\t<=5)\/∃(n r:Nat),mn=m5++[(n,w)]/\qf=List.replicate (r+1) (.int (n:Int))/\r<t)
section
variable {ns:List Int}{k q t:Nat}{w:Str}{m5:List (Nat×Str)}{nums qJ:List Tr}{A:Ab}{c10 c11:Cell}
def rI(ns:List Int)(k q t:Nat)(w:Str)(c10 c11:Cell):ax:=[.sh (.gq ns),.sh (.at 0),.sh (.at 4),.sh (.int 0),.sh (.at 45),.sh (.at 46),.sh (.int (k:Int)),.sh (.str w),.sh (.at q),.sh (.int (t:Int)),c10,c11]
theorem Hk(hk:k<12)(h0:m5.length=k)(hq:46<q)(ht:t<6)(h:TS k q t w m5 nums qJ A):∃A',Ic (rI ns k q t w c10 c11) A=.ok (.nx (rI ns k q t w c10 c11)) A'/\
  ∃rows mn qf,HS A' rows (fE 0 mn)/\RW rows mn/\rows.length<=3+2*(6*k+t)+1/\A'[45]?=some (.lst nums)/\A'[46]?=some (.lst qJ)/\A'[q]?=some (.lst qf)/\∃(n r:Nat),mn=m5++[(n,w)]/\qf=List.replicate (r+1) (.int (n:Int))/\r<t+1:=by
 obtain⟨rows,mn,qf,hs,rw_,hl,Mz,MA,aq,ph⟩:=h;have key:=Lv (k:=k) (by omega);have fk:∀A,ie (.ok (.str (gn k))) A=.ok (.str (gn k)) A:=fun _=>rfl;have fh:∀A,ie (Rs.ok (Tr.str "hall")) A=.ok (.str "hall") A:=fun _=>rfl;have al:∀n,qf=List.replicate n (.int 0)->True:=fun _ _=>trivial;have go:∀{n:Nat} {A1:Ab},cu [.at 7,.str "ann",.str (gn k),.str w] A=.ok (.int (n:Int)) A1->A1[q]?=some (.lst qf)->qf.length<iS->Ic (rI ns k q t w c10 c11) A=.ok (.nx (rI ns k q t w c10 c11)) (A1.set q (.lst (qf++[.int (n:Int)]))):=fun{n A1} e eq el=>by
  have e2:=DC hs (z:=gn k) (w:=w);rw[e]at e2;have e2:dh "Hall" "say_once" bU (.ok (.at 0) A) (fun A=>.ok [.int 0,.str "hall",.str (gn k),.str w] A)=.ok (.int (n:Int)) A1:=e2;unfold Ic;show dt (CO lM (.ok (.at q) A) fun A=>b_ (dh "Hall" "say_once" bU (.ok (.at 0) A) fun A=>b_ (.ok (.int 0) A) fun A=>b_ (ie (Rs.ok (Tr.str "hall")) A) fun A=>b_ (ie (ff jd (Rs.ok (Tr.str "key ")) (cp AF (a9 (.ok (.int (k:Int))) (Rs.ok [])))) A) fun A=>b_ (.ok (.str w) A) fun A=>Rz.ok [] A) fun A=>Rz.ok [] A) _=_;rw[sR aq,key];show dt ((b_ (dh "Hall" "say_once" bU (.ok (.at 0) A) fun A=>.ok [.int 0,.str "hall",.str (gn k),.str w] A) fun A=>Rz.ok [] A).bind fun us A=>lM q us A) _=_;rw[e2];show dt (lM q [.int (n:Int)] A1) _=_;rw[sS eq el]
  rfl
 have nq:∀{i:Nat} {o:Ao} {A1:Ab},i≠q->(A1.set q o)[i]?=A1[i]? :=fun h=>bV (bt h)
 rcases ph with⟨rfl,rfl,SO⟩|⟨n,r,rfl,rfl,hr⟩
 ·have o0:=DA hs rw_.tu (by omega) (by omega) (w:=w);rw[h0]at o0;have h1:=(hs.He (rows++[jW rows "ann" "say" [.str w,.a_]])).Ls (fE 0 (mn++[(rows.length+1,w)]));have Lx:∀{i:Nat},43<i->((A.set 8 (.lst (rows++[jW rows "ann" "say" [.str w,.a_]]))).set 15 (.dB (fE 0 (mn++[(rows.length+1,w)]))))[i]?=A[i]? :=fun h=>by rw[bV (by omega),bV (by omega)]
  generalize ((A.set 8 (.lst (rows++[jW rows "ann" "say" [.str w,.a_]]))).set 15 (.dB (fE 0 (mn++[(rows.length+1,w)]))))=A1 at o0 h1 Lx;refine⟨_,go (n:=rows.length+1) o0 (by rw[Lx (by omega)];exact aq) (by show 0<iS;decide),_,_,_,h1.else (by omega) _,rw_.ann w,by rw[bP,fN];omega,by rw[nq (by omega),Lx (by decide)];exact Mz,by rw[nq (by omega),Lx (by decide)];exact MA,fM (by have:=(cG.mp (show A1[q]?=some _ from by rw[Lx (by omega)];exact aq)).1;exact this),rows.length+1,0,rfl,rfl,by omega⟩
 ·have o1:=DB hs (k:=k) (n:=n) (w:=w) (w':=w) (by omega) (by rw[bP,fN];omega) (by rw[gU (by omega),h0,iZ];rfl);refine⟨_,go o1 aq (by rw[kA];exact kN (show r+1<=10 by omega) (by decide)),_,_,_,hs.else (by omega) _,rw_,by omega,by rw[nq (by omega)];exact Mz,by rw[nq (by omega)];exact MA,fM (cG.mp aq).1,n,r+1,rfl,?_,by omega⟩;rw[<-List.replicate_succ']
theorem Hl(hk:k<12)(h0:m5.length=k)(hq:46<q)(ht:t<6)(h:TS k q t w m5 nums qJ A):∃A' vv,DD (rI ns k q t w c10 c11) A=.ok (.nx (rI ns k q t w vv c11)) A'/\TS k q (t+1) w m5 nums qJ A':=by
 obtain⟨x0,ex⟩:=wO ns (7+(t:Int) % 4) (by omega);have gx:gX (rI ns k q t w c10 c11) A=.ok (.int (x0+29*(k:Int)+(t:Int))):=by
  unfold gX;show ff jd (ff jd (dA [.gq ns,.int (7+(t:Int) % 4)]) (qA (.int 29) (.int (k:Int)))) (.ok (.int (t:Int)))=_;rw[ex,wN (by unfold lF;simp)]
  rfl
 generalize x0+29*(k:Int)+(t:Int)=x at gx;have co:cO (aM A (rI ns k q t w (.sh (.int x)) c11))=.ok (((t:Int)==5)||decide (0<mix x 9643 3)):=by
  show Bv (.ok ((t:Int)==5)) (q_ (ff JK (ej [.int x,.int 9643,.int 3]) (Rs.ok (Tr.int 0))))=_;rw[vn _ _ _ (by decide) (by decide) (by decide)];cases(t:Int)==5<;>rfl
 have cb:∀A,cB (aM A (rI ns k q t w (.sh (.int x)) c11))=.ok (mix x 9631 4==0):=fun A=>by
  show q_ (ff yK (ej [.int x,.int 9631,.int 4]) (Rs.ok (Tr.int 0)))=_;rw[vn _ _ _ (by decide) (by decide) (by decide)]
  rfl
 have first:∃A1,(Ai (bw (cO (aM A (rI ns k q t w (.sh (.int x)) c11))) A) (fun A=>Ic (rI ns k q t w (.sh (.int x)) c11) A) fun A=>Rz.ok (Out.nx (rI ns k q t w (.sh (.int x)) c11)) A)=.ok (.nx (rI ns k q t w (.sh (.int x)) c11)) A1/\
   ∃rows mn qf,HS A1 rows (fE 0 mn)/\RW rows mn/\rows.length<=3+2*(6*k+t)+1/\A1[45]?=some (.lst nums)/\A1[46]?=some (.lst qJ)/\A1[q]?=some (.lst qf)/\((mn=m5/\qf=[]/\t+1<=5)\/∃(n r:Nat),mn=m5++[(n,w)]/\qf=List.replicate (r+1) (.int (n:Int))/\r<t+1):=by
  rw[co];cases z:((t:Int)==5)||decide (0<mix x 9643 3)with
  |true=>
   obtain⟨A1,e,rows,mn,qf,h1,h2,h3,h4,h5,h6,h7⟩:=Hk (ns:=ns) (c10:=.sh (.int x)) (c11:=c11) hk h0 hq ht h;exact⟨A1,e,rows,mn,qf,h1,h2,h3,h4,h5,h6,.inr h7⟩
  |false=>
   rw[Bool.or_eq_false_iff]at z;have t5:t≠5:=fun e=>by rw[e]at z;exact absurd z.1 (by decide)
   obtain⟨rows,mn,qf,h1,h2,h3,h4,h5,h6,h7⟩:=h;refine⟨A,rfl,rows,mn,qf,h1,h2,by omega,h4,h5,h6,h7.imp (fun⟨a,b,c⟩=>⟨a,b,by omega⟩) fun⟨n,r,a,b,c⟩=>⟨n,r,a,b,by omega⟩⟩
 obtain⟨A1,e1,rows,mn,qf,h1,h2,h3,h4,h5,h6,h7⟩:=first
 have run:DD (rI ns k q t w c10 c11) A=Ai (bw (cB (aM A1 (rI ns k q t w (.sh (.int x)) c11))) A1) (fun A=>My (rI ns k q t w (.sh (.int x)) c11) A) fun A=>Rz.ok (Out.nx (rI ns k q t w (.sh (.int x)) c11)) A:=by
  unfold DD;rw[gx];show dr (Ai (bw (cO (aM A (rI ns k q t w (.sh (.int x)) c11))) A) (fun A=>Ic (rI ns k q t w (.sh (.int x)) c11) A) fun A=>Rz.ok (Out.nx (rI ns k q t w (.sh (.int x)) c11)) A) _=_;rw[e1]
  rfl
 rw[run,cb];cases mix x 9631 4==0 with
 |false=>exact⟨A1,.sh (.int x),rfl,rows,mn,qf,h1,h2,by omega,h4,h5,h6,h7⟩
 |true=>
  have s:=Hj h1 h2.tu (by omega);refine⟨_,.sh (.int x),?_,_,mn,qf,h1.He _,h2.bo,by rw[bP,fN];omega,by rw[bV (by decide)];exact h4,by rw[bV (by decide)];exact h5,by rw[bV (by omega)];exact h6,h7⟩;show My (rI ns k q t w (.sh (.int x)) c11) A1=_;unfold My;show dt (dh "Hall" "say" iD (.ok (.at 0) A1) fun A=>.ok [.str "bo",.str "hall",.str "between",.a_] A) _=_;rw[s]
  rfl
end
end pR
namespace pR
open PySem L2
section
variable {ns:List Int}{k q t:Nat}{w:Str}{m5:List (Nat×Str)}{nums qJ:List Tr}{A:Ab}{c7 c8 c9 c10 c11:Cell}
def rJ(ns:List Int)(k q:Nat)(w:Str)(c9 c10 c11:Cell):ax:=[.sh (.gq ns),.sh (.at 0),.sh (.at 4),.sh (.int 0),.sh (.at 45),.sh (.at 46),.sh (.int (k:Int)),.sh (.str w),.sh (.at q),c9,c10,c11]
theorem vp(hk:k<12)(h0:m5.length=k)(hq:46<q):∀(m t:Nat) (A:Ab) (c9 c10:Cell),t+m=6->TS k q t w m5 nums qJ A->∃A' d9 vv,iT (gN 9) DD ((List.range m).map fun i=>.int ((t+i:Nat):Int)) (rJ ns k q w c9 c10 c11) A=.ok (.nx (rJ ns k q w d9 vv c11)) A'/\TS k q 6 w m5 nums qJ A'
 |0,t,A,c9,c10,e,h=>by
  have e:t=6:=by omega
  subst e;exact⟨A,c9,c10,rfl,h⟩
 |m+1,t,A,c9,c10,e,h=>by
  obtain⟨A1,vv,e1,h1⟩:=Hl (ns:=ns) (c10:=c10) (c11:=c11) hk h0 hq (show t<6 by omega) h;obtain⟨A2,f9,OZ,e2,h2⟩:=vp hk h0 hq m (t+1) A1 (.sh (.int (t:Int))) vv (by omega) h1;refine⟨A2,f9,OZ,?_,h2⟩;rw[n5,aK,bR];have me:(List.range m).map ((fun i=>Tr.int ((t+i:Nat):Int))∘Nat.succ)=(List.range m).map fun i=>Tr.int ((t+1+i:Nat):Int):=eV fun i _=>by
   show Tr.int ((t+(i+1):Nat):Int)=_;rw[show t+(i+1)=t+1+i by omega]
  rw[me];show(DD (rI ns k q t w c10 c11) A).bind (fun o A=>match o with
   |.nx jR=>iT (gN 9) DD ((List.range m).map fun i=>Tr.int ((t+1+i:Nat):Int)) jR A
   |.ct jR=>iT (gN 9) DD ((List.range m).map fun i=>Tr.int ((t+1+i:Nat):Int)) jR A
   |.bk jR=>.ok (.nx jR) A
   |.ret t=>.ok (.ret t) A)=_
  rw[e1];exact e2
def gW(ρ:ax)(A:Ab):Rs Tr:=cp jO (a9 (ff jd (cp dA (a9 (bA (aM A ρ) 0) (a9 (ff jd (Rs.ok (Tr.int 1)) (ff uw (bA (aM A ρ) 6) (Rs.ok (Tr.int 6)))) (Rs.ok [])))) (ff qA (Rs.ok (Tr.int 17)) (bA (aM A ρ) 6))) (Rs.ok []))
def cT(ρ:ax)(A:Ab):Rs Bool:=Rs.bind (mM [none,some 8] (gN 0) (fun ρ=>q_ (ff tW (bA ρ 0) (ff pj (bA ρ 1) (Rs.ok (Tr.int 0))))) (fun ρ=>bA ρ 0) (j' (bA (aM A ρ) 8)) (aM A ρ)) yE
def MB:ax->Ab->Rz Out:=fun ρ A=>dr (Ai (bw (cT ρ A) A) (fun A=>qB (ie (Rs.ok (Tr.bl false)) A)) fun A=>Rz.ok (Out.nx ρ) A) fun ρ A=>dt (CO lM (bw (bA ρ 4) A) fun A=>b_ (ie (ff pj (bA (aM A ρ) 8) (Rs.ok (Tr.int 0))) A) fun A=>Rz.ok [] A) ρ
def MC:ax->Ab->Rz Out:=fun ρ A=>dr (rA (gN 9) DD (bw (iG (a9 (Rs.ok (Tr.int 6)) (Rs.ok []))) A) ρ) MB
def O0:ax->Ab->Rz Out:=fun ρ A=>dr (ig 8 (kf (z5 (Rs.ok [])) A) ρ) MC
def MD:ax->Ab->Rz Out:=fun ρ A=>dr (dt (CO lM (bw (bA ρ 5) A) fun A=>b_ (bw (bA ρ 7) A) fun A=>Rz.ok [] A) ρ) O0
def tw:ax->Ab->Rz Out:=fun ρ A=>dr (ig 7 (ie (gW ρ A) A) ρ) MD
structure OS(k:Nat)(mn:List (Nat×Str))(A:Ab)(rows:List Tr):Prop where
 hs:HS A rows (fE 0 mn)
 rw:RW rows mn
 le:rows.length<=3+12*k
 ln:mn.length=k
 nu:A[45]?=some (.lst (mn.map fun p=>.int (p.1:Int)))
 st:A[46]?=some (.lst (mn.map fun p=>.str p.2))
def rK(ns:List Int)(c6 c7 c8 c9 c10 c11:Cell):ax:=[.sh (.gq ns),.sh (.at 0),.sh (.at 4),.sh (.int 0),.sh (.at 45),.sh (.at 46),c6,c7,c8,c9,c10,c11]
theorem Hm{r n:Nat}(h:A[q]?=some (.lst (List.replicate (r+1) (.int (n:Int))))):az 5 A (.at q)=.lst (List.replicate (r+1) (.int (n:Int))):=by
 rw[mB h,List.map_replicate];rfl
theorem Qj{r:Nat}{t:Tr}:pj (.lst (List.replicate (r+1) t)) (.int 0)=.ok t:=by
 show mr (L2.lp (List.replicate (r+1) t) ((0:Nat):Int))=_;rw[nH (xs:=List.replicate (r+1) t) (j:=0) (v:=t) rfl];rfl
theorem Hn{n r:Nat}(hr:r<6)(h:A[q]?=some (.lst (List.replicate (r+1) (.int (n:Int)))))(Qk:A[45]?=some (.lst nums))(hn:nums.length<100):MB (rJ ns k q w c9 c10 c11) A=.ok (.nx (rJ ns k q w c9 c10 c11)) (A.set 45 (.lst (nums++[.int (n:Int)]))):=by
 have e:=Hm h;have ct:cT (rJ ns k q w c9 c10 c11) A=.ok false:=by
  unfold cT;have l:mM [none,some 8] (gN 0) (fun ρ=>q_ (ff tW (bA ρ 0) (ff pj (bA ρ 1) (Rs.ok (Tr.int 0))))) (fun ρ=>bA ρ 0) (j' (bA (aM A (rJ ns k q w c9 c10 c11)) 8)) (aM A (rJ ns k q w c9 c10 c11))=_:=nQ (G7:=[.sh (.lst (List.replicate (r+1) (.int (n:Int))))]) (c:=.no) (fun _=>false) Tr.int Tr.int (xs:=List.replicate (r+1) (n:Int)) (by
    show j' (.ok (az 5 A (.at q)))=_;rw[e,List.map_replicate];rfl) (by rw[kA];exact a6 (show r+1<=6 by omega) (by decide)) (by
    show[_,Cell.sh (az 5 A (.at q))]=_;rw[e]) (fun x hx=>by
    rw[(List.mem_replicate.mp hx).2];show q_ (ff tW (.ok (.int (n:Int))) (pj (.lst (List.replicate (r+1) (.int (n:Int)))) (.int 0)))=_;rw[Qj];show(Rs.ok (!((n:Int)==(n:Int))))=_;simp) fun x _ h=>by cases h
  rw[l];rw[List.filter_eq_nil_iff.mpr fun _ _ h=>by cases h]
  rfl
 unfold MB;rw[ct];show dt (CO lM (.ok (.at 45) A) fun A=>b_ (ie (ff pj (.ok (az 5 A (.at q))) (Rs.ok (Tr.int 0))) A) fun A=>Rz.ok [] A) _=_;rw[sR Qk,e];show dt ((b_ (ie (pj (.lst (List.replicate (r+1) (.int (n:Int)))) (.int 0)) A) fun A=>Rz.ok [] A).bind fun us A=>lM 45 us A) _=_;rw[Qj];show dt (lM 45 [.int (n:Int)] A) _=_;rw[sS Qk (fS hn (by decide))]
 rfl
theorem DE{rows:List Tr}(hk:k<12)(h:OS k m5 A rows):∃A' O1 mW d7 d8 d9 vv,tw (rK ns (.sh (.int (k:Int))) c7 c8 c9 c10 c11) A=.ok (.nx (rK ns (.sh (.int (k:Int))) d7 d8 d9 vv c11)) A'/\OS (k+1) O1 A' mW:=by
 obtain⟨hs,rw_,le,ln,nu,st⟩:=h;obtain⟨x0,ex⟩:=wO ns (1+(k:Int) % 6) (by omega);obtain⟨w,ew⟩:=Dx (x0+17*(k:Int));have gw:gW (rK ns (.sh (.int (k:Int))) c7 c8 c9 c10 c11) A=.ok (.str w):=by
  unfold gW;show cp jO (a9 (ff jd (dA [.gq ns,.int (1+(k:Int) % 6)]) (qA (.int 17) (.int (k:Int)))) (Rs.ok []))=_;rw[ex,wN (by unfold lF;simp)];exact ew
 have Ql:46<A.length:=(cG.mp st).1;generalize BA:A.set 46 (.lst ((m5.map fun p=>.str p.2)++[.str w]))=A1;have SQ:A1.length=A.length:=by rw[<-BA,kS]
 have h1:HS A1 rows (fE 0 m5):=by rw[<-BA];exact hs.else (by decide) _
 have MA:A1[46]?=some (.lst ((m5.map fun p=>.str p.2)++[.str w])):=by rw[<-BA];exact fM Ql
 have Mz:A1[45]?=some (.lst (m5.map fun p=>.int (p.1:Int))):=by rw[<-BA,bV (by decide)];exact nu
 have ts:TS k A1.length 0 w m5 (m5.map fun p=>.int (p.1:Int)) ((m5.map fun p=>.str p.2)++[.str w]) (A1++[.lst []]):=
  ⟨rows,m5,[],h1.app _,rw_,by omega,by rw[dn (by omega)];exact Mz,by rw[dn (by omega)];exact MA,by rw[gU (aB _),iZ];rfl,.inl ⟨rfl,rfl,by decide⟩⟩
 obtain⟨A2,d9,vv,e2,Br,Qm,qf,s1,s2,s3,s4,s5,s6,s7⟩:=vp (ns:=ns) (c11:=c11) hk ln (by omega) 6 0 _ c9 c10 rfl ts;rcases s7 with⟨_,_,z⟩|⟨n,r,rfl,rfl,hr⟩
 ·omega
 have e3:=Hn (ns:=ns) (k:=k) (w:=w) (c9:=d9) (c10:=vv) (c11:=c11) hr s6 s4 (by rw[aE];omega);have Sq:45<A2.length:=(cG.mp s4).1;refine⟨A2.set 45 (.lst ((m5.map fun p=>.int (p.1:Int))++[.int (n:Int)])),m5++[(n,w)],Br,.sh (.str w),.sh (.at A1.length),d9,vv,?_,s1.else (by decide) _,s2,by omega,by rw[bP,fN,ln],by rw[fM Sq,hJ];rfl,by rw[bV (by decide),s5,hJ];rfl⟩
 ·have er:iG (a9 (Rs.ok (Tr.int 6)) (Rs.ok []))=.ok ((List.range 6).map fun i=>Tr.int ((0+i:Nat):Int)):=by
   show iG (.ok [.int 6])=_;rw[wQ,ae ⟨by decide,by decide⟩]
   rfl
  have b3:MC (rJ ns k A1.length w c9 c10 c11) (A1++[.lst []])=dr (iT (gN 9) DD ((List.range 6).map fun i=>Tr.int ((0+i:Nat):Int)) (rJ ns k A1.length w c9 c10 c11) (A1++[.lst []])) MB:=by
   unfold MC;rw[er];unfold rA bw Rz.bind
   rfl
  have b2:O0 (rK ns (.sh (.int (k:Int))) (.sh (.str w)) c8 c9 c10 c11) A1=MC (rJ ns k A1.length w c9 c10 c11) (A1++[.lst []]):=rfl;have b1:MD (rK ns (.sh (.int (k:Int))) (.sh (.str w)) c8 c9 c10 c11) A=O0 (rK ns (.sh (.int (k:Int))) (.sh (.str w)) c8 c9 c10 c11) A1:=by
   unfold MD;show dr (dt (CO lM (.ok (.at 46) A) fun A=>.ok [.str w] A) (rK ns (.sh (.int (k:Int))) (.sh (.str w)) c8 c9 c10 c11)) _=_;rw[sR st];show dr (dt (lM 46 [.str w] A) (rK ns (.sh (.int (k:Int))) (.sh (.str w)) c8 c9 c10 c11)) _=_;rw[sS st (by rw[aE,ln];exact fS hk (by decide)),BA]
   rfl
  have b0:tw (rK ns (.sh (.int (k:Int))) c7 c8 c9 c10 c11) A=MD (rK ns (.sh (.int (k:Int))) (.sh (.str w)) c8 c9 c10 c11) A:=by
   unfold tw;rw[gw]
   rfl
  rw[b0,b1,b2,b3,e2];exact e3
end
end pR
namespace pR
open PySem L2
section
variable {ns:List Int}{k:Nat}{mn:List (Nat×Str)}{rows:List Tr}{A:Ab}{c6 c7 c8 c9 c10 c11:Cell}
theorem r6:∀(m k:Nat) (mn:List (Nat×Str)) (A:Ab) (rows:List Tr) (c6 c7 c8 c9 c10:Cell),k+m<=12->OS k mn A rows->∃A' O1 mW d6 d7 d8 d9 vv,iT (gN 6) tw ((List.range m).map fun i=>.int ((k+i:Nat):Int)) (rK ns c6 c7 c8 c9 c10 c11) A=.ok (.nx (rK ns d6 d7 d8 d9 vv c11)) A'/\OS (k+m) O1 A' mW
 |0,k,mn,A,rows,c6,c7,c8,c9,c10,e,h=>⟨A,mn,rows,c6,c7,c8,c9,c10,rfl,h⟩
 |m+1,k,mn,A,rows,c6,c7,c8,c9,c10,e,h=>by
  obtain⟨A1,Qn,Er,d7,d8,d9,vv,e1,h1⟩:=DE (ns:=ns) (c7:=c7) (c8:=c8) (c9:=c9) (c10:=c10) (c11:=c11) (show k<12 by omega) h;obtain⟨A2,Qm,Br,f6,f7,f8,f9,OZ,e2,h2⟩:=r6 m (k+1) Qn A1 Er (.sh (.int (k:Int))) d7 d8 d9 vv (by omega) h1;refine⟨A2,Qm,Br,f6,f7,f8,f9,OZ,?_,by rw[show k+(m+1)=k+1+m by omega];exact h2⟩;rw[n5,aK,bR];have me:(List.range m).map ((fun i=>Tr.int ((k+i:Nat):Int))∘Nat.succ)=(List.range m).map fun i=>Tr.int ((k+1+i:Nat):Int):=eV fun i _=>by
   show Tr.int ((k+(i+1):Nat):Int)=_;rw[show k+(i+1)=k+1+i by omega]
  rw[me];show(tw (rK ns (.sh (.int (k:Int))) c7 c8 c9 c10 c11) A).bind (fun o A=>match o with
   |.nx jR=>iT (gN 6) tw ((List.range m).map fun i=>Tr.int ((k+1+i:Nat):Int)) jR A
   |.ct jR=>iT (gN 6) tw ((List.range m).map fun i=>Tr.int ((k+1+i:Nat):Int)) jR A
   |.bk jR=>.ok (.nx jR) A
   |.ret t=>.ok (.ret t) A)=_
  rw[e1];exact e2
def cR(ρ:ax):Rs Bool:=q_ (ff yK (GK (bA ρ 0) (Me (Rs.ok (Tr.int 1))) (Me (Rs.ok (Tr.int 3)))) (pb (a9 (Rs.ok (Tr.str "ann")) (a9 (Rs.ok (Tr.str "say")) (Rs.ok [])))))
def gM(ρ:ax)(A:Ab):Rs Tr:=mM [none] (gN 0) cR (fun ρ=>bA ρ 0) (j' (jn "Hall" "rows" dj (bA (aM A ρ) 1) (a9 (Rs.ok (Tr.str "hall")) (Rs.ok [])))) (aM A ρ)
def gC(j:Int)(ρ:ax)(A:Ab):Rs Tr:=mM [none] (gN 0) (fun x=>Rs.ok true) (fun ρ=>ff pj (bA ρ 0) (Rs.ok (Tr.int j))) (j' (bA (aM A ρ) 11)) (aM A ρ)
def cE(ρ:ax)(A:Ab):Rs Bool:=Bv (q_ (ff tW (gC 0 ρ A) (bA (aM A ρ) 4))) (q_ (ff tW (bA (aM A ρ) 4) (Rs.bind (bA (aM A ρ) 4) dv)))
def O2:ax->Ab->Rz Out:=fun ρ A=>qB (ie (ff yK (gC 3 ρ A) (bA (aM A ρ) 5)) A)
def ME:ax->Ab->Rz Out:=fun ρ A=>dr (Ai (bw (cE ρ A) A) (fun A=>qB (ie (Rs.ok (Tr.bl false)) A)) fun A=>Rz.ok (Out.nx ρ) A) O2
def Ly:ax->Ab->Rz Out:=fun ρ A=>dr (ig 11 (kf (gM ρ A) A) ρ) ME
theorem yh{n:Nat}(h:gj A Hd Mv){m:Str}(hm:zk (([("persons",.at 1),("places",.at 2),("hands",.at 3)]:List (Str×Tr)).map fun p=>(p.1,az n A p.2)) m=true)(F:List Tr->Rs Tr)(l:Rs (List Tr)):jn "Hall" m F (.ok (az (n+1) A (.at 0))) l=l.bind fun ts=>F (az (n+1) A (.at 0)::ts):=by
 rw[fx h.o];exact ae ⟨rfl,hm⟩
theorem DF{n i:Nat}{rk en ch bn iv:List (Key×Tr)}(h:dN A i rows rk en ch bn iv){m:Str}(hm:zk ((roomF i).map fun p=>(p.1,az n A p.2)) m=true)(F:List Tr->Rs Tr)(l:Rs (List Tr)):jn "Room" m F (.ok (az (n+1) A (.at i))) l=l.bind fun ts=>F (az (n+1) A (.at i)::ts):=by
 rw[fx h.o];exact ae ⟨rfl,hm⟩
theorem DG(h:HS A rows (fE 0 mn))(tu:lT rows):dj [az 5 A (.at 0),.str "hall"]=.ok (.tup rows):=by
 have pl:iP [az 5 A (.at 0),.str "hall"]=.ok (az 3 A (.at 7)):=by
  show fW (c5.1 [.sh (az 5 A (.at 0)),.sh (.str "hall")])=_;unfold c5;have hj:Mv.lookup ("hall":Str)=some 7:=rfl;simp only[ev,qH,h.hl.Lo,mC,hj,kU,kE,iX,x',mr]
 have lg:iL ["Room"] "log" (az 3 A (.at 7))=.ok (.lst rows):=by
  rw[fx h.rm.o];show Rs.ok (az 2 A (.at 8))=_;rw[mB h.rm.lg,sP tu]
 have e:m4 [az 3 A (.at 7)]=.ok (.tup rows):=by
  show fW (fZ.1 [.sh (az 3 A (.at 7))])=_;unfold fZ;have tt:v7 [.lst rows]=.ok (.tup rows):=rfl;simp only[ev,qH,lg,tt]
 have cH:=yh (n:=4) (m:="place") h.hl rfl;have cR:=DF (n:=2) (m:="rows") h.rm rfl;show fW (f_.1 [.sh (az 5 A (.at 0)),.sh (.str "hall")])=_;unfold f_;simp only[ev,qH,cH,pl,cR,e]
theorem Lz{x a b:Tr}{ps:List Tr}:m9 (x::a::b::ps) (some 1) (some 3)=[a,b]:=by
 have e1:HT.cU (x::a::b::ps).length 0 (some 1)=1:=by
  show HT.cU (x::a::b::ps).length 0 (some ((1:Nat):Int))=1;rw[HT.w6,a5];omega
 have e2:HT.cU (x::a::b::ps).length (x::a::b::ps).length (some 3)=3:=by
  show HT.cU (x::a::b::ps).length (x::a::b::ps).length (some ((3:Nat):Int))=3;rw[HT.w6,a5,a5,a5];omega
 unfold m9;rw[e1,e2]
 rfl
theorem LA(h:HS A rows (fE 0 mn))(rw_:RW rows mn)(hl:rows.length<=1000):gM (rK ns c6 c7 c8 c9 c10 c11) A=.ok (.lst (mn.map qe)):=by
 unfold gM;have cH:=yh (n:=4) (m:="rows") h.hl rfl;have l:mM [none] (gN 0) cR (fun ρ=>bA ρ 0) (j' (jn "Hall" "rows" dj (bA (aM A (rK ns c6 c7 c8 c9 c10 c11)) 1) (a9 (Rs.ok (Tr.str "hall")) (Rs.ok [])))) (aM A (rK ns c6 c7 c8 c9 c10 c11))=.ok (.lst ((rows.filter Mx).map id)):=nQ (G7:=[]) (c:=.no) Mx id id (xs:=rows) (by
   show j' (jn "Hall" "rows" dj (.ok (az 5 A (.at 0))) (.ok [.str "hall"]))=_;rw[cH];show j' (dj [az 5 A (.at 0),.str "hall"])=_;rw[DG h rw_.tu,h9];rfl) (a6 hl (by decide)) rfl (fun x hx=>by
   obtain⟨n,a,b,ps,rfl,_⟩:=rw_.ok x hx;show q_ (yK (.tup (m9 (.int n:: .str a:: .str b::ps) (some 1) (some 3))) (.tup [.str "ann",.str "say"]))=_;rw[Lz];show Rs.ok (a==("ann":Str)&&(b==("say":Str)&&true))=Rs.ok (a==("ann":Str)&&b==("say":Str));rw[Bool.and_true]) fun x _ _=>rfl
 rw[l,h9,rw_.fl]
theorem yi:∀mn:List (Nat×Str),jh (mn.map qe)=true
 |[]=>rfl
 |p::mn=>by rw[aK,jh,yi mn];rfl
theorem Es{q:Nat}{j:Int}{g:Nat×Str->Tr}(hm:mn.length<=12)(h:A[q]?=some (.lst (mn.map qe)))(hj:∀p,pj (qe p) (.int j)=.ok (g p)):gC j (rK ns c6 c7 c8 c9 c10 (.sh (.at q))) A=.ok (.lst (mn.map g)):=by
 unfold gC;have l:mM [none] (gN 0) (fun x=>Rs.ok true) (fun ρ=>ff pj (bA ρ 0) (Rs.ok (Tr.int j))) (j' (bA (aM A (rK ns c6 c7 c8 c9 c10 (.sh (.at q)))) 11)) (aM A (rK ns c6 c7 c8 c9 c10 (.sh (.at q))))=.ok (.lst ((mn.filter fun _=>true).map g)):=nQ (G7:=[]) (c:=.no) (fun _=>true) qe g (xs:=mn) (by
   show j' (.ok (az 5 A (.at q)))=_;rw[mB h,sP fun t ht=>by obtain⟨p,_,rfl⟩:=eY.mp ht;exact⟨_,rfl⟩];rfl) (a6 hm (by decide)) rfl (fun x hx=>rfl) fun x _ _=>hj x
 rw[l,List.filter_eq_self.mpr fun _ _=>rfl]
theorem DH(h:A[45]?=some (.lst (mn.map fun p=>.int (p.1:Int)))):az 5 A (.at 45)=.lst (mn.map fun p=>.int (p.1:Int)):=by
 rw[mB h,bR];rfl
theorem ya(h:A[46]?=some (.lst (mn.map fun p=>.str p.2))):az 5 A (.at 46)=.lst (mn.map fun p=>.str p.2):=by
 rw[mB h,bR];rfl
theorem Bs{g:Nat×Str->Tr}(h:∀p,jY (g p)=true/\dT (g p)=0):∀mn:List (Nat×Str),ml (mn.map g)=true/\Cw (mn.map g)=0
 |[]=>⟨rfl,rfl⟩
 |p::mn=>by
  obtain⟨a,b⟩:=Bs h mn;rw[aK,ml,Cw,a,b,(h p).1,(h p).2];exact⟨rfl,rfl⟩
theorem yj{g:Nat×Str->Tr}(h:∀p,jY (g p)=true/\dT (g p)=0):yK (.lst (mn.map g)) (.lst (mn.map g))=.ok (.bl true)/\tW (.lst (mn.map g)) (.lst (mn.map g))=.ok (.bl false):=by
 obtain⟨a,b⟩:=Bs h mn;have p:jY (.lst (mn.map g))=true:=by rw[jY];exact a
 have d:dT (.lst (mn.map g))<=40:=by rw[dT,b];decide
 have e:=pd p;unfold yK tW;rw[ae ⟨p,p,d⟩,ae ⟨p,p,d⟩,e];exact⟨rfl,rfl⟩
theorem ints_map:∀{mn:List (Nat×Str)},jq (mn.map fun p=>.int (p.1:Int))=some (mn.map fun p=>(p.1:Int))
 |[]=>rfl
 |p::mn=>by rw[aK,jq,ints_map];rfl
theorem r8{α:Type}[DecidableEq α]:∀{xs ss:List α},(ss++xs).Nodup->bG ss xs=ss++xs
 |[],ss,_=>by rw[dY];rfl
 |x::xs,ss,h=>by
  have e:cv ss x=ss++[x]:=by
   unfold cv;have:x∉ss:=fun m=>by
    rw[List.nodup_append]at h;exact h.2.2 x m x (cg ..) rfl
   simp[this]
  show bG (cv ss x) xs=_;rw[e,r8 (by rw[kF];exact h),kF]
  rfl
theorem Ho(hm:mn.length<=12)(h:mn.Pairwise fun p q=>p.1<q.1):dv (.lst (mn.map fun p=>.int (p.1:Int)))=.ok (.lst (mn.map fun p=>.int (p.1:Int))):=by
 have lt:(mn.map fun p=>(p.1:Int)).Pairwise (· <·):=by
  rw[List.pairwise_map];exact h.imp fun h=>by omega
 have nd:bG [] (mn.map fun p=>(p.1:Int))=mn.map fun p=>(p.1:Int):=by
  have q:=r8 (ss:=[]) (xs:=mn.map fun p=>(p.1:Int)) (by
   rw[List.nil_append];exact lt.imp fun h=>by omega)
  exact q
 have so:mn.map (fun p=>(p.1:Int))=sortI (mn.map fun p=>(p.1:Int)):=uT (List.Perm.refl _) (lt.imp fun h=>by omega);have im:=ints_map (mn:=mn);cases mn with
 |nil=>
  show Rs.ok (Tr.lst ((jl []).map .str))=_;rw[show jl []=[]from(uS (ss:=[]) (List.Perm.refl _) rfl).symm]
  rfl
 |cons p mn=>
  have:pH ((p::mn).map fun p=>Tr.int (p.1:Int))=none:=rfl;unfold dv;simp only[this,im,nd];rw[ae ⟨by rw[aE];omega,by rw[aE];omega⟩,<-so,bR]
  rfl
theorem O3(hk:k<=12)(h:OS k mn A rows):∃A',Ly (rK ns c6 c7 c8 c9 c10 c11) A=.ok (.ret (.bl true)) A':=by
 obtain⟨hs,rw_,le,ln,nu,st⟩:=h;have Ql:46<A.length:=(cG.mp st).1;generalize BA:A++[.lst (mn.map qe)]=A1;have aq:A1[A.length]?=some (.lst (mn.map qe)):=by rw[<-BA,gU (aB _),iZ];rfl
 have n1:A1[45]?=some (.lst (mn.map fun p=>.int (p.1:Int))):=by rw[<-BA,dn (by omega)];exact nu
 have s1:A1[46]?=some (.lst (mn.map fun p=>.str p.2)):=by rw[<-BA,dn (by omega)];exact st
 have b1:Ly (rK ns c6 c7 c8 c9 c10 c11) A=ME (rK ns c6 c7 c8 c9 c10 (.sh (.at A.length))) A1:=by
  unfold Ly;rw[LA hs rw_ (by omega)];have nz:kf (.ok (.lst (mn.map qe))) A=.ok (.at A.length) A1:=by
   show(if jh (mn.map qe)=true then Rz.ok (Tr.at A.length) (A++[.lst (mn.map qe)])else .bad)=_;rw[ae (yi mn),BA]
  rw[nz]
  rfl
 have g0:=Es (ns:=ns) (c6:=c6) (c7:=c7) (c8:=c8) (c9:=c9) (c10:=c10) (j:=0) (g:=fun p=>.int (p.1:Int)) (by omega) aq fun p=>rfl;have g3:=Es (ns:=ns) (c6:=c6) (c7:=c7) (c8:=c8) (c9:=c9) (c10:=c10) (j:=3) (g:=fun p=>.str p.2) (by omega) aq fun p=>rfl;have ce:cE (rK ns c6 c7 c8 c9 c10 (.sh (.at A.length))) A1=.ok false:=by
  unfold cE;rw[g0];show Bv (q_ (ff tW (.ok (.lst (mn.map fun p=>.int (p.1:Int)))) (.ok (az 5 A1 (.at 45))))) (q_ (ff tW (.ok (az 5 A1 (.at 45))) (dv (az 5 A1 (.at 45)))))=_;rw[DH n1,Ho (by omega) rw_.lt];have e:=(yj (mn:=mn) (g:=fun p=>.int (p.1:Int)) fun p=>⟨rfl,rfl⟩).2;show Bv (q_ (tW (.lst (mn.map fun p=>.int (p.1:Int))) (.lst (mn.map fun p=>.int (p.1:Int))))) (q_ (tW (.lst (mn.map fun p=>.int (p.1:Int))) (.lst (mn.map fun p=>.int (p.1:Int)))))=_;rw[e]
  rfl
 have b2:ME (rK ns c6 c7 c8 c9 c10 (.sh (.at A.length))) A1=O2 (rK ns c6 c7 c8 c9 c10 (.sh (.at A.length))) A1:=by
  unfold ME;rw[ce]
  rfl
 refine⟨A1,?_⟩;rw[b1,b2];unfold O2;rw[g3];show qB (ie (ff yK (.ok (.lst (mn.map fun p=>.str p.2))) (.ok (az 5 A1 (.at 46)))) A1)=_;rw[ya s1];have e:=(yj (mn:=mn) (g:=fun p=>.str p.2) fun p=>⟨rfl,rfl⟩).1;show qB (ie (yK (.lst (mn.map fun p=>.str p.2)) (.lst (mn.map fun p=>.str p.2))) A1)=_;rw[e]
 rfl
end
end pR
namespace pR
open PySem L2
def l6:ax->Ab->Rz Out:=fun ρ A=>dr (rA (gN 6) tw (bw (iG (a9 (cp ej (a9 (cp dA (a9 (bA ρ 0) (a9 (Rs.ok (Tr.int 0)) (Rs.ok [])))) (a9 (Rs.ok (Tr.int 9649)) (a9 (Rs.ok (Tr.int 13)) (Rs.ok []))))) (Rs.ok []))) A) ρ) Ly
def l5:ax->Ab->Rz Out:=fun ρ A=>dr (ig 5 (kf (z5 (Rs.ok [])) A) ρ) l6
def l4:ax->Ab->Rz Out:=fun ρ A=>dr (ig 4 (kf (z5 (Rs.ok [])) A) ρ) l5
def l3:ax->Ab->Rz Out:=fun ρ A=>dr (ig 3 (dh "Hall" "hand" eJ (bw (bA ρ 1) A) fun A=>b_ (ie (Rs.ok (Tr.str "ann")) A) fun A=>Rz.ok [] A) ρ) l4
def l2:ax->Ab->Rz Out:=fun ρ A=>dr (dt (Rz.bind (b_ (bw (bA ρ 1) A) fun A=>b_ (bw (bA ρ 2) A) fun A=>Rz.ok [] A) jA) ρ) l3
def l1:ax->Ab->Rz Out:=fun ρ A=>dr (ig 2 (Rz.bind (b_ (ie (pb (a9 (Rs.ok (Tr.str "ann")) (a9 (Rs.ok (Tr.str "bo")) (a9 (Rs.ok (Tr.str "cy")) (a9 (Rs.ok (Tr.str "dee")) (a9 (Rs.ok (Tr.str "ed")) (Rs.ok []))))))) A) fun A=>Rz.ok [] A) gQ) ρ) l2
def l0:ax->Ab->Rz Out:=fun ρ A=>dr (ig 1 (lO "Hall" c0 (Rz.ok [] A)) ρ) l1
theorem Hq:yf.1=l0:=by
 unfold yf
 rfl
theorem Sr:∃rows,OS 0 [] (A3++[.lst []]++[.lst []]) rows:=by
 refine⟨_,⟨⟨⟨rfl,rfl,rfl⟩,⟨rfl,rfl,rfl,rfl,rfl,rfl,rfl⟩,rfl,rfl,rfl⟩,⟨?_,rfl,.nil,fun p h=>(nomatch h)⟩,by decide,rfl,rfl,rfl⟩⟩;intro t ht;rcases aY.mp ht with rfl|ht
 ·exact⟨_,_,_,_,rfl,rfl⟩
 rcases aY.mp ht with rfl|ht
 ·exact⟨_,_,_,_,rfl,rfl⟩
 rcases aY.mp ht with rfl|ht
 ·exact⟨_,_,_,_,rfl,rfl⟩
 cases ht
end pR
namespace pR
open PySem L2
variable (ns:List Int)
theorem O4:∃A',l6 (rK ns .no .no .no .no .no .no) (A3++[.lst []]++[.lst []])=.ok (.ret (.bl true)) A':=by
 obtain⟨rows,h⟩:=Sr;generalize A3++[.lst []]++[.lst []]=A at h;obtain⟨x,ex⟩:=wO ns 0 (by decide);have b:=p9 (c:=x) (p:=9649) (m:=13) (by decide);obtain⟨m,hm,em⟩:∃m:Nat,m<=12/\mix x 9649 13=(m:Int):=⟨(mix x 9649 13).toNat,by omega,by omega⟩;have er:iG (a9 (cp ej (a9 (cp dA (a9 (bA (rK ns .no .no .no .no .no .no) 0) (a9 (Rs.ok (Tr.int 0)) (Rs.ok [])))) (a9 (Rs.ok (Tr.int 9649)) (a9 (Rs.ok (Tr.int 13)) (Rs.ok []))))) (Rs.ok []))=.ok ((List.range m).map fun i=>Tr.int ((0+i:Nat):Int)):=by
  show iG (a9 (cp ej (a9 (dA [.gq ns,.int 0]) (Rs.ok [Tr.int 9649,.int 13]))) (Rs.ok []))=_;rw[ex];show iG (a9 (ej [.int x,.int 9649,.int 13]) (Rs.ok []))=_;rw[vn _ _ _ (by decide) (by decide) (by decide),em];show iG (.ok [.int (m:Int)])=_;rw[wQ,ae ⟨by omega,by omega⟩,eW];unfold uo
  first
   |rfl
   |(congr 1;exact eV fun i _=>by rw[Int.natCast_add];rfl)
 obtain⟨A1,Qn,Er,d6,d7,d8,d9,vv,e1,h1⟩:=r6 (ns:=ns) (c11:=.no) m 0 [] A rows .no .no .no .no .no (by omega) h;obtain⟨A2,e2⟩:=O3 (ns:=ns) (c6:=d6) (c7:=d7) (c8:=d8) (c9:=d9) (c10:=vv) (c11:=.no) (k:=0+m) (by omega) h1;refine⟨A2,?_⟩;unfold l6;rw[er];show dr (iT (gN 6) tw ((List.range m).map fun i=>Tr.int ((0+i:Nat):Int)) (rK ns .no .no .no .no .no .no) A) Ly=_;rw[e1];exact e2
theorem b4(A:Ab)(h:A.length=45):l4 [.sh (.gq ns),.sh (.at 0),.sh (.at 4),.sh (.int 0),.no,.no,.no,.no,.no,.no,.no,.no] A=l6 (rK ns .no .no .no .no .no .no) (A++[.lst []]++[.lst []]):=by
 show l6 [.sh (.gq ns),.sh (.at 0),.sh (.at 4),.sh (.int 0),.sh (.at A.length),.sh (.at (A++[Ao.lst []]).length),.no,.no,.no,.no,.no,.no] (A++[.lst []]++[.lst []])=_;rw[bP,h]
 rfl
theorem b3{A A':Ab}(h:dh "Hall" "hand" eJ (.ok (.at 0) A) (fun A=>.ok [.str "ann"] A)=.ok (.int 0) A'):l3 [.sh (.gq ns),.sh (.at 0),.sh (.at 4),.no,.no,.no,.no,.no,.no,.no,.no,.no] A=l4 [.sh (.gq ns),.sh (.at 0),.sh (.at 4),.sh (.int 0),.no,.no,.no,.no,.no,.no,.no,.no] A':=by
 show dr (ig 3 (dh "Hall" "hand" eJ (.ok (.at 0) A) fun A=>.ok [.str "ann"] A) [.sh (.gq ns),.sh (.at 0),.sh (.at 4),.no,.no,.no,.no,.no,.no,.no,.no,.no]) l4=_;rw[h]
 rfl
theorem b2{A A':Ab}(h:jA [.at 0,.at 4] A=.ok .a_ A'):l2 [.sh (.gq ns),.sh (.at 0),.sh (.at 4),.no,.no,.no,.no,.no,.no,.no,.no,.no] A=l3 [.sh (.gq ns),.sh (.at 0),.sh (.at 4),.no,.no,.no,.no,.no,.no,.no,.no,.no] A':=by
 show dr (dt (jA [.at 0,.at 4] A) [.sh (.gq ns),.sh (.at 0),.sh (.at 4),.no,.no,.no,.no,.no,.no,.no,.no,.no]) l3=_;rw[h]
 rfl
theorem b1{A A':Ab}(h:gQ [.tup [.str "ann",.str "bo",.str "cy",.str "dee",.str "ed"]] A=.ok (.at 4) A'):l1 [.sh (.gq ns),.sh (.at 0),.no,.no,.no,.no,.no,.no,.no,.no,.no,.no] A=l2 [.sh (.gq ns),.sh (.at 0),.sh (.at 4),.no,.no,.no,.no,.no,.no,.no,.no,.no] A':=by
 show dr (ig 2 (gQ [.tup [.str "ann",.str "bo",.str "cy",.str "dee",.str "ed"]] A) [.sh (.gq ns),.sh (.at 0),.no,.no,.no,.no,.no,.no,.no,.no,.no,.no]) l2=_;rw[h]
 rfl
theorem b0{A A':Ab}(h:lO "Hall" c0 (.ok [] A)=.ok (.at 0) A'):l0 [.sh (.gq ns),.no,.no,.no,.no,.no,.no,.no,.no,.no,.no,.no] A=l1 [.sh (.gq ns),.sh (.at 0),.no,.no,.no,.no,.no,.no,.no,.no,.no,.no] A':=by
 unfold l0;rw[h]
 rfl
theorem Bt:p8 [.gq ns]=.ok (.bl true):=by
 unfold p8;rw[Hq];obtain⟨A',e⟩:=O4 ns;have st:startT 12 [.gq ns]=[.sh (.gq ns),.no,.no,.no,.no,.no,.no,.no,.no,.no,.no,.no]:=rfl;unfold uF;rw[ae ⟨rfl,rfl⟩,st,b0 ns Sl,b1 ns Sm,b2 ns Sn,b3 ns So,b4 ns A3 rfl,e]
 rfl
end pR
namespace L2
open PySem PySem.Spec PyProof.Rows
theorem zg{P:Program}{w:World}{K:PySem.W.Frag}{mg mb:Str->Option Value}{CX:t7}{k:Nat}{fa a:Addr}{fd:FuncData}{x:Str}{sp:Sp}{ba:Shared}{vs:List Value}{ns:List Int}
  (KX:K.In ba.heap) (L8:ba.heap.Ns mainGlobals mg) (hb:ba.heap.Ns builtinsNs mb) (Ss:∀x:Str,x≠"__name__"->mb x=bootBuiltins x) (O5:ba.heap.NoLimit) (hg:ba.gens=#[]) (O6:∃bm ob,mg "__builtins__"=some (.ref bm)/\bm≠builtinsNs/\bm≠mainGlobals/\ba.heap.get? bm=some ob/\ob.cls=.type "module"/\ob.dict=some builtinsNs/\ob.data=.plain)
  (ha:ba.heap.get? a=some {cls:=.type "list",data:=.seq vs.toArray}) (hi:IntsAre vs ns) (hl:ns.length<=sizeLine) (hr:bq k callerA)
  (F:∀base:Heap,K.In base->base.Ns mainGlobals mg->cf P w K mg base CX k fa fd [x] sp) (LB:∀(s:Shared) (u:Value),BindsTo s fd ⟨[u],[]⟩ [(x,u)])
  (DR:∀H:Hp,Ft H->iF K H a (ns.map V.int)->sp [.ref a] H (fun v _=>v=.bl true) fun _ _ _=>False)
  (O7:∀H e s',CX [] H ba (fun _ _ _=>False) e s'->False):
  codeAny (model P w) callerA (.call (.ref fa) ⟨[.ref a],[]⟩) (fun r s'=>r=.ok (.ret (.bool true))/\OldK ba.heap s'.heap/\s'.os=ba.os/\AllBare s'.gens) ba:=by
 have rv:=mh hi;have O8:=hi.length;have core:∀H:Hp,Ft H->iF K H a (ns.map V.int)->j4 P w H ba.heap->(∀b,H b≠none->b=a)->(H a≠none->K.lookup a=none)->
   codeAny (model P w) callerA (.call (.ref fa) ⟨[.ref a],[]⟩) (fun r s'=>r=.ok (.ret (.bool true))/\OldK ba.heap s'.heap/\s'.os=ba.os/\AllBare s'.gens) ba:=by
  intro H hO hS bB hA hK;have tB:∀{b:Addr} {o:Obj},ba.heap.get? b=some o->H b=none->(r9 ba.heap H).get? b=some o:=fun e n=>zl e n;have HH:∀{b:Addr} {o:Obj},ba.heap.get? b=some o->(∀xs n,o.data≠ .seq xs n)->H b=none:=fun{b o} e d1=>by
   cases q:H b with
   |none=>rfl
   |some u=>
    have e':b=a:=hA b (by rw[q];simp);subst e';rw[ha]at e;cases e;exact absurd rfl (d1 _ _)
  have MF:∀{b:Addr} {m:Str->Option Value},ba.heap.Ns b m->(r9 ba.heap H).Ns b m:=fun{b m} ⟨o,es,ep,e,d,r⟩=>⟨o,es,ep,tB e (HH e fun _ _ z=>by rw[d]at z;cases z),d,r⟩;have Qo:K.In (r9 ba.heap H):=fun b o e=>tB (KX b o e) (by
   cases q:H b with
   |none=>rfl
   |some u=>
    have e':b=a:=hA b (by rw[q];simp);subst e';rw[hK (by rw[q];simp)]at e;cases e)
  have hM:Mod K mg (r9 ba.heap H):=⟨Qo,MF L8,⟨mb,MF hb,Ss⟩,(let⟨mc,h1,h2⟩:=O5;⟨mc,MF h1,h2⟩),(let⟨bm,ob,b1,b2,b3,b4,b5,b6,b7⟩:=O6;⟨bm,ob,b1,b2,b3,tB b4 (HH b4 fun _ _ z=>by rw[b7]at z;cases z),b5,b6,b7⟩)⟩;have e0:vJ P w K mg (r9 ba.heap H) callerA [] ba H:=⟨rfl,hM,fun b o e=>BC e,Nat.le_of_eq (ym _ _),trivial,fun b hb=>absurd (show b∈([]:List Addr)from hb) (by simp),bB,.of_eq hg⟩;refine hX ((F _ Qo (MF L8)).run callerA [] ba H ⟨[.ref a],[]⟩ [.ref a] [.ref a] _ _ hr e0 (LB ba (.ref a)) (.cons rfl .nil) (DR H hO hS)) fun r s' h=>?_
  cases r with
  |error e=>exact(O7 H e s' h).elim
  |ok fl=>
   cases fl with
   |next=>exact False.elim h
   |brk=>exact False.elim h
   |cont=>exact False.elim h
   |ret u=>
    obtain⟨v,H',os,bare,un,O9,r',q⟩:=h;have q':v=.bl true:=q;subst q';obtain rfl:u=Value.bool true:=r';refine⟨rfl,OldK.of_keep fun b o e=>?_,os,bare⟩;cases q:H b with
    |none=>exact un.keep b o e q (by intro z;exact absurd (show b∈([]:List Addr)from z) (by simp)) (by simp)
    |some u=>
     rcases hO b with z|⟨ob,xs,z⟩
     ·rw[q]at z;cases z
     ·have z2:=un.jP b ob _ z;obtain⟨e1,_⟩:=bB b _ z;obtain⟨e2,_⟩:=O9 b _ z2;rw[e]at e1;cases e1;exact e2
 cases hk:K.lookup a with
 |some o=>
  have e:=KX a o hk;rw[ha]at e;cases e;refine core (fun _=>none) (fun _=>.inl rfl) (.inr ⟨_,vs.toArray,_,hk,rfl,rfl,rfl,by rw[a7,O8];exact hl,by simpa using rv⟩) (fun b u z=>by have z':(none:Option HO)=some u:=z;cases z') (fun b z=>absurd rfl z) fun z=>absurd rfl z
 |none=>
  refine core (fun b=>if b=a then some (.gp {cls:=.type "list",data:=.seq vs.toArray} (.lst (ns.map V.int)))else none) (fun b=>?_) (.inl (.inr ⟨{cls:=.type "list",data:=.seq vs.toArray},ae rfl⟩)) (fun b u z=>?_) (fun b z=>?_) fun _=>hk
  ·by_cases hb:b=a
   ·exact .inr ⟨_,_,ae hb⟩
   ·exact .inl (ai hb)
  ·by_cases hb:b=a
   ·have z':=(ae hb).symm.trans z;cases z';subst hb;exact⟨ha,by rw[aE];exact hl,vs,_,rv,ha⟩
   ·have z':=(ai hb).symm.trans z;cases z'
  ·by_cases hb:b=a
   ·exact hb
   ·exact absurd (ai hb) z
theorem Bu{l:PySem.W.OpenLaw}{n k:Nat}{q:Program}{loose:List Str}{XP:(Str->Option Value)->Heap->Prop}{YP:World->Heap->Prop}{d:DefRec}{K:Params->PySem.W.Frag}{CX:World->t7}{sp:World->Sp}{x:Str}
  (hn:l.most=some n) (HF:n<=sizeLine) (I_:d.params.defaults=[]) (hr:bq k callerA)
  (hY:∀(w:World) (h:Heap),YP w h->(K w.params).In h)
  (F:∀(w:World) (mg:Str->Option Value) (fa:Addr) (h:Heap),(K w.params).In h->h.Ns mainGlobals mg->mg d.name=some (.ref fa)->
   ∃fd:FuncData,(∀(s:Shared) (u:Value),BindsTo s fd ⟨[u],[]⟩ [(x,u)])/\
    ∀base:Heap,(K w.params).In base->base.Ns mainGlobals mg->cf l.prog w (K w.params) mg base (CX w) k fa fd [x] (sp w))
  (DR:∀(w:World) (H:Hp) (a:Addr) (ns:List Int),ns.length<=n->Ft H->iF (K w.params) H a (ns.map V.int)->sp w [.ref a] H (fun v _=>v=.bl true) fun _ _ _=>False)
  (O7:∀(w:World) (H:Hp) (s:Shared) (e:Value) (s':Shared),CX w [] H s (fun _ _ _=>False) e s'->False):
  PySem.W.WalkO q loose XP YP l.row.toRowW d [] (fun f vs=>PySem.call f vs):=by
 refine Pr.uj hn I_ fun w eu ba mg mb fa o pm cd doc a vs ns G Y ho hd vx Ja Fs hints hlen hg=>?_
 have KX:=hY w _ Y;obtain⟨fd,hb,hF⟩:=F w mg fa _ KX G.T.g Ja;have O6:∃bm ob,mg "__builtins__"=some (.ref bm)/\bm≠builtinsNs/\bm≠mainGlobals/\ba.heap.get? bm=some ob/\ob.cls=.type "module"/\ob.dict=some builtinsNs/\ob.data=.plain:=by
  obtain⟨bm,ob,b1,b2,b3,b4,b5,b6⟩:=G.T.bmain;refine⟨bm,ob,b1,b2,fun z=>?_,b3,b4,b5,b6⟩;obtain⟨o,es,ep,e,hd,_⟩:=G.T.g;rw[z,e]at b3;cases b3;rw[hd]at b6;cases b6
 exact zg KX G.T.g G.T.b G.T.builtins G.T.nolimit hg O6 Fs hints (a6 hlen HF) hr hF hb (fun H hO hS=>DR w H a ns hlen hO hS) fun H e s'=>O7 w H ba e s'
end L2
namespace pR
open PySem L2
def O:Ia:=⟨["dict","len","list","max","range","set","sorted","str","tuple"],["Hall","Hand","Room"],["Hall","Hand","Room"],[("Room",["banned","chosen","entries","invited","log","ranks","read_marks","said_by_key"]),("Hall",["hands","persons","places"]),("Hand",["owner","told"])],[],[],[],[],[]⟩
set_option maxHeartbeats 8000000 in
theorem all_mk{l:PySem.W.OpenLaw}{w:World}{K:PySem.W.Frag}{h:Heap}{mg:Str->Option Value}{fa:Addr}(X:K.In h)(G:h.Ns mainGlobals mg)(Su:mg "law"=some (.ref fa))
  (c1:DS.map (Df.fd K)=DS.map (fun d=>d.re (d.fd K))) (c2:DS.all (Df.En K)=true) (c3:O.En K=true)
  {O_:Addr} {Sv:Nat} {Pa Pb Pc:Tok} {LC LD LF:Addr} (e1:PySem.W.nsIn K mainGlobals "SETTINGS"=some (some (.ref O_))) (d1:K.lookup O_=some ⟨.type "dict",none,.dict #[⟨PyData.keyHash w.params "door",.str "door" Pa,.ref LC⟩,⟨PyData.keyHash w.params "voice",.str "voice" Pb,.ref LD⟩,⟨PyData.keyHash w.params "past",.str "past" Pc,.ref LF⟩] Sv,#[]⟩) (s1:(O_==sysModules)=false)
  {LG:Option Addr} {LH:Nat} {LI:Array (Option Value)} {Hr Hs:Tok} (LJ:K.lookup LC=some ⟨.type "tuple",LG,.seq #[.str "open" Hr,.str "asked" Hs] LH,LI⟩)
  {LK:Option Addr} {LL:Nat} {LM:Array (Option Value)} {Ht Hv:Tok} (LN:K.lookup LD=some ⟨.type "tuple",LK,.seq #[.str "all" Ht,.str "some" Hv] LL,LM⟩)
  {LO:Option Addr} {LP:Nat} {LQ:Array (Option Value)} {Hw Hx:Tok} (LR:K.lookup LF=some ⟨.type "tuple",LO,.seq #[.str "shown" Hw,.str "hidden" Hx] LP,LQ⟩)
  :∃fd:FuncData,(∀(s:Shared) (v:Value),BindsTo s fd ⟨[v],[]⟩ [("_law_script",v)])/\∀base:Heap,K.In base->base.Ns mainGlobals mg->cf l.prog w K mg base j8 8 fa fd ["_law_script"] (spT K p8):=by
 have o:=O.ok X G c3;have T:Ib K w mg:=⟨fun i d e=>A7 X G c1 c2 d (dS e),o.bl rfl,o.bl rfl,o.bl rfl,o.bl rfl,o.bl rfl,o.bl rfl,o.bl rfl,o.bl rfl,o.bl rfl,o.OM rfl,o.OM rfl,o.OM rfl,o.fl (c:="Room") rfl rfl,o.fl (c:="Room") rfl rfl,o.fl (c:="Room") rfl rfl,o.fl (c:="Hall") rfl rfl,o.fl (c:="Room") rfl rfl,o.fl (c:="Room") rfl rfl,o.fl (c:="Hand") rfl rfl,o.fl (c:="Hall") rfl rfl,o.fl (c:="Hall") rfl rfl,o.fl (c:="Room") rfl rfl,o.fl (c:="Room") rfl rfl,o.fl (c:="Room") rfl rfl,o.fl (c:="Hand") rfl rfl,va.gd (av:=[("door",.str "open"),("voice",.str "all"),("past",.str "shown")]) (.cons (vs:=[.str "open",.str "asked"]) (fun H=>.inr ⟨_,_,_,LJ,rfl,rfl,by show 2<=sizeLine;decide,(.cons ⟨_,rfl⟩ (.cons ⟨_,rfl⟩ .nil))⟩) rfl (fun H=>.str _ (by decide)) (.cons (vs:=[.str "all",.str "some"]) (fun H=>.inr ⟨_,_,_,LN,rfl,rfl,by show 2<=sizeLine;decide,(.cons ⟨_,rfl⟩ (.cons ⟨_,rfl⟩ .nil))⟩) rfl (fun H=>.str _ (by decide)) (.cons (vs:=[.str "shown",.str "hidden"]) (fun H=>.inr ⟨_,_,_,LR,rfl,rfl,by show 2<=sizeLine;decide,(.cons ⟨_,rfl⟩ (.cons ⟨_,rfl⟩ .nil))⟩) rfl (fun H=>.str _ (by decide)) .nil))) (W.mg_of X G e1) d1 s1 (show List.Nodup (["door","voice","past"]:List Str) by decide),va.gk (av:=[("door",.str "open"),("voice",.str "all"),("past",.str "shown")]) (.cons (vs:=[.str "open",.str "asked"]) (fun H=>.inr ⟨_,_,_,LJ,rfl,rfl,by show 2<=sizeLine;decide,(.cons ⟨_,rfl⟩ (.cons ⟨_,rfl⟩ .nil))⟩) rfl (fun H=>.str _ (by decide)) (.cons (vs:=[.str "all",.str "some"]) (fun H=>.inr ⟨_,_,_,LN,rfl,rfl,by show 2<=sizeLine;decide,(.cons ⟨_,rfl⟩ (.cons ⟨_,rfl⟩ .nil))⟩) rfl (fun H=>.str _ (by decide)) (.cons (vs:=[.str "shown",.str "hidden"]) (fun H=>.inr ⟨_,_,_,LR,rfl,rfl,by show 2<=sizeLine;decide,(.cons ⟨_,rfl⟩ (.cons ⟨_,rfl⟩ .nil))⟩) rfl (fun H=>.str _ (by decide)) .nil))) (W.mg_of X G e1) d1 s1 (show List.Nodup (["door","voice","past"]:List Str) by decide) (show∀z∈(["door","voice","past"]:List Str),z.length<=bS by decide)⟩;cases Su.symm.trans ((T.d 33 rfl:lU.Ok K mg).m0 rfl);obtain⟨oc,od,kV,doc,pm,an,cC,ct,zF,e9,_,_⟩:=(T.d 33 rfl:lU.Ok K mg).fn.ex;exact⟨_,fun s v=>by rw[e9];exact .of_eq rfl,fun base _ _=>(Lp T).ok⟩
theorem Hy{K:PySem.W.Frag}{H:Hp}{Q:VK}{E:XK}{a:Addr}{ns:List Int}(hS:iF K H a (ns.map V.int))(hQ:∀H',Q (.bl true) H'):spT K p8 [.ref a] H Q E:=
 ⟨⟨fun _=>false,fun _=>none⟩,[.gq ns],fun b e=>(nomatch e),.cons (.gq hS) .nil,.bl true,Bt ns,fun v H' _ r=>by rw[r.mj];exact hQ H'⟩
theorem walk{l:PySem.W.OpenLaw}{q:Program}{loose:List Str}{XP:(Str->Option Value)->Heap->Prop}{YP:World->Heap->Prop}{d:DefRec}{K:Params->PySem.W.Frag}(hn:l.most=some 63)(I_:d.params.defaults=[])
  (hY:∀(w:World) (h:Heap),YP w h->(K w.params).In h)
  (F:∀(w:World) (mg:Str->Option Value) (fa:Addr) (h:Heap),(K w.params).In h->h.Ns mainGlobals mg->mg d.name=some (.ref fa)->
   ∃fd:FuncData,(∀(s:Shared) (u:Value),BindsTo s fd ⟨[u],[]⟩ [("_law_script",u)])/\∀base:Heap,(K w.params).In base->base.Ns mainGlobals mg->cf l.prog w (K w.params) mg base j8 8 fa fd ["_law_script"] (spT (K w.params) p8)):
  PySem.W.WalkO q loose XP YP l.row.toRowW d [] (fun f vs=>PySem.call f vs):=
 L2.Bu (n:=63) (k:=8) (x:="_law_script") (CX:=fun _=>j8) (sp:=fun w=>spT (K w.params) p8) hn (by decide) I_ ⟨rfl,by decide,by decide⟩ hY F (fun _ _ a ns hl _ hS=>Hy hS fun _=>rfl) fun _ _ _ _ _ z=>z
end pR
namespace PySem.W.Fast
theorem tw10810714919827972092:True:=trivial
theorem tw1435316965327559412:True:=trivial
theorem tw15881261762981438102:True:=trivial
theorem tw1059752012860761786:True:=trivial
theorem tw6523151080666916777:True:=trivial
theorem tw10806257185709958227:True:=trivial
theorem tw15218604103848234772:True:=trivial
theorem tw17241937877380026185:True:=trivial
theorem tw5629535851262461500:True:=trivial
theorem tw15453695570421295349:True:=trivial
theorem tw11289212793759880615:True:=trivial
theorem tw15218238621181024032:True:=trivial
theorem tw12555296724871114311:True:=trivial
theorem tw16446373624403501617:True:=trivial
theorem tw16874429364083945473:True:=trivial
theorem tw12337970610175093989:True:=trivial
theorem tw9627276242533215895:True:=trivial
theorem tw8760881387153658091:True:=trivial
theorem tw15664125963578464199:True:=trivial
theorem tw3636877387672765476:True:=trivial
theorem tw11862837916707512288:True:=trivial
theorem tw12804438464415329707:True:=trivial
theorem tw17029775113545971516:True:=trivial
theorem tw9305492800882552495:True:=trivial
theorem tw433137525496736895:True:=trivial
theorem tw9730262430138869520:True:=trivial
theorem tw13080941074883087888:True:=trivial
theorem tw6911645506868082861:True:=trivial
theorem tw15312143970145582025:True:=trivial
theorem tw11836647888677268439:True:=trivial
theorem tw12751658028382990881:True:=trivial
theorem tw3979425063849220859:True:=trivial
theorem tw1519732355701752131:True:=trivial
theorem tw16890609142151473519:True:=trivial
theorem tw10278708079683188652:True:=trivial
theorem tw1024541072241109447:True:=trivial
theorem tw5445479237522734411:True:=trivial
theorem tw8902195278452936026:True:=trivial
theorem tw4166792047573603993:True:=trivial
theorem tw3192720519555820479:True:=trivial
theorem tw2549251902007865962:True:=trivial
theorem tw18299262905304065724:True:=trivial
theorem tw2664354520610617651:True:=trivial
theorem tw7104899736295769251:True:=trivial
theorem tw7513084648264106764:True:=trivial
theorem tw4487686306786542040:True:=trivial
theorem tw14373449665698289934:True:=trivial
theorem tw13669169223336690089:True:=trivial
theorem tw9793133755544942527:True:=trivial
theorem tw13697252709914615739:True:=trivial
theorem tw15394782427918764356:True:=trivial
theorem tw8129231636346344060:True:=trivial
theorem tw7015617547910859189:True:=trivial
theorem tw8680574310787307006:True:=trivial
theorem tw16244329302840433764:True:=trivial
theorem tw14122262642314672381:True:=trivial
theorem tw584732397562198797:True:=trivial
theorem tw16887448350121250836:True:=trivial
theorem tw3640772207162101318:True:=trivial
theorem tw1260417185798752040:True:=trivial
theorem tw4349064567078630311:True:=trivial
theorem tw4352488595292875270:True:=trivial
theorem tw8502651016459689606:True:=trivial
theorem tw9399476627083182043:True:=trivial
theorem tw2979944726983484372:True:=trivial
theorem tw1420725923303650079:True:=trivial
theorem tw7571099700047263852:True:=trivial
theorem tw12707104455502621123:True:=trivial
theorem tw17981950723862431612:True:=trivial
theorem tw11497557873756803117:True:=trivial
theorem tw4775493913177663587:True:=trivial
theorem tw10315275418986720705:True:=trivial
theorem tw12228151864324702945:True:=trivial
theorem tw5788099770176187113:True:=trivial
theorem tw4095489100070761629:True:=trivial
theorem tw17242359300056596101:True:=trivial
theorem tw5892905109698244985:True:=trivial
theorem tw5839197113884834021:True:=trivial
theorem tw17819829452010846393:True:=trivial
theorem tw14713247640920623688:True:=trivial
theorem tw18409640414903653248:True:=trivial
theorem tw8070334689335266344:True:=trivial
theorem tw5859457245657692016:True:=trivial
theorem tw14384786767938738644:True:=trivial
theorem tw12674417161896002145:True:=trivial
theorem tw302342711048576974:True:=trivial
theorem tw4064556351867285152:True:=trivial
theorem tw6291609223026366337:True:=trivial
theorem tw10458820435021202107:True:=trivial
theorem tw7374210184422840479:True:=trivial
theorem tw12516334024634344824:True:=trivial
theorem tw10618995853706480523:True:=trivial
theorem tw2803194370788909074:True:=trivial
theorem tw17116359985419316859:True:=trivial
theorem tw3722649141510886060:True:=trivial
theorem tw18305056763378719160:True:=trivial
theorem tw11575919912514771136:True:=trivial
theorem tw2524981976608678802:True:=trivial
theorem tw3116004752273686892:True:=trivial
theorem tw12357426913609075069:True:=trivial
theorem tw17249690140101494365:True:=trivial
theorem tw18185019820541917392:True:=trivial
theorem tw7221035550668392869:True:=trivial
theorem tw15547520590621485961:True:=trivial
theorem tw15958181596422337461:True:=trivial
theorem tw10466237195718722055:True:=trivial
theorem tw524682946117931507:True:=trivial
theorem tw2482021459701777244:True:=trivial
theorem tw11438871675769884250:True:=trivial
theorem tw12131098611356429864:True:=trivial
theorem tw1719638104842885893:True:=trivial
theorem tw13425099720556292811:True:=trivial
theorem tw11934012508873926559:True:=trivial
theorem tw16898751391829358866:True:=trivial
theorem tw9351525147008318249:True:=trivial
theorem tw585420636103140964:True:=trivial
theorem tw2024945617398493436:True:=trivial
theorem tw2695494913120406410:True:=trivial
theorem tw1362236213183720589:True:=trivial
theorem tw10531199908237817896:True:=trivial
theorem tw5987665817781257215:True:=trivial
theorem tw7995974104313794984:True:=trivial
theorem tw2142018576809333521:True:=trivial
theorem tw12482391179823312497:True:=trivial
theorem tw18058391604445289187:True:=trivial
theorem tw14840960976518277640:True:=trivial
theorem tw5548816319181040276:True:=trivial
theorem tw12857261967677888858:True:=trivial
theorem tw15134659560699730974:True:=trivial
theorem tw3836606417924635026:True:=trivial
theorem tw9219069079033734688:True:=trivial
theorem tw14431646218014987198:True:=trivial
theorem tw2378470967695634627:True:=trivial
theorem tw4213550728259863051:True:=trivial
theorem tw7176343019083133994:True:=trivial
theorem tw1784802625496839781:True:=trivial
theorem tw6021178202233646323:True:=trivial
theorem tw17320428907889641837:True:=trivial
theorem tw12494621624564541818:True:=trivial
theorem tw6071471183724557926:True:=trivial
theorem tw12403245657115434188:True:=trivial
theorem tw16083897996146602693:True:=trivial
theorem tw2943571476242154427:True:=trivial
theorem tw1628358827039380287:True:=trivial
theorem tw8807872322141228301:True:=trivial
theorem tw8930918392816555606:True:=trivial
theorem tw14616482532375285577:True:=trivial
theorem tw7019120325591738713:True:=trivial
theorem tw13120115968735640697:True:=trivial
theorem tw15335877923516818880:True:=trivial
theorem tw5611645553049947526:True:=trivial
theorem tw1505707815147732521:True:=trivial
theorem tw13872687045524966955:True:=trivial
theorem tw11384109844514392777:True:=trivial
theorem tw54367842006523269:True:=trivial
theorem tw15319243350558899372:True:=trivial
theorem tw7247735666644292062:True:=trivial
theorem tw2800984077023687590:True:=trivial
theorem tw11057216117873349374:True:=trivial
theorem tw5333943387393182995:True:=trivial
theorem tw3649935512978362676:True:=trivial
theorem tw10249355388928762494:True:=trivial
theorem tw3762438129395994497:True:=trivial
theorem tw9108161130942135873:True:=trivial
theorem tw8634992138818017353:True:=trivial
theorem tw13692607940114603742:True:=trivial
theorem tw12864123958015579636:True:=trivial
theorem tw15695569478691219701:True:=trivial
theorem tw10275594501317033583:True:=trivial
theorem tw17184931227915621004:True:=trivial
theorem tw13646947241558722827:True:=trivial
theorem tw1389859588890884665:True:=trivial
theorem tw13059257368029615795:True:=trivial
theorem tw5299687339353949477:True:=trivial
theorem tw14706402569019507364:True:=trivial
theorem tw272959538767476256:True:=trivial
theorem tw17210620304231657830:True:=trivial
theorem tw9549512887812075976:True:=trivial
theorem tw9441314262154389309:True:=trivial
theorem tw8722330167728371002:True:=trivial
theorem tw5646531721430775125:True:=trivial
theorem tw2596490707246284160:True:=trivial
theorem tw9514071959142683463:True:=trivial
theorem tw8542006333691417274:True:=trivial
theorem tw3036714312526936725:True:=trivial
theorem tw6355462566384076928:True:=trivial
theorem tw3085273775311195544:True:=trivial
theorem tw8684934353009439774:True:=trivial
theorem tw4034734424922943451:True:=trivial
theorem tw10104325860304512900:True:=trivial
theorem tw11696232226143539597:True:=trivial
theorem tw12582284037754037284:True:=trivial
theorem tw7680499357142756561:True:=trivial
theorem tw1124926468214523976:True:=trivial
theorem tw9733348579576837547:True:=trivial
theorem tw13865764864379670296:True:=trivial
theorem tw9132400975452965134:True:=trivial
theorem tw16587476370191291423:True:=trivial
theorem tw4861478691043432028:True:=trivial
theorem tw14054271195075761225:True:=trivial
theorem tw15659201637072135590:True:=trivial
theorem tw4099982201589398413:True:=trivial
theorem tw6306791374152869909:True:=trivial
theorem tw13821003971334963670:True:=trivial
theorem tw10134635582706444270:True:=trivial
theorem tw16199094885523536334:True:=trivial
theorem tw14402672998358395610:True:=trivial
theorem tw536935708126498778:True:=trivial
theorem tw2423187069755978596:True:=trivial
theorem tw5067628086434033111:True:=trivial
theorem tw3433646476065198379:True:=trivial
theorem tw6302606350045255721:True:=trivial
theorem tw7140267782730823286:True:=trivial
theorem tw433097816578590395:True:=trivial
theorem tw15130849966739851222:True:=trivial
theorem tw373476426177693547:True:=trivial
theorem tw9818646818247131598:True:=trivial
theorem tw420301746225693497:True:=trivial
theorem tw16150279242495839308:True:=trivial
theorem tw10494889225702521735:True:=trivial
theorem tw17770493722419019949:True:=trivial
theorem tw12351124038352401101:True:=trivial
theorem tw5463940225413559750:True:=trivial
theorem tw8614976691629163482:True:=trivial
theorem tw7034904122471366104:True:=trivial
theorem tw16397232263722236553:True:=trivial
theorem tw9912558405454322039:True:=trivial
theorem tw17782084199362626641:True:=trivial
theorem tw1289514195311793477:True:=trivial
theorem tw11757970117278919819:True:=trivial
theorem tw7205002555364824612:True:=trivial
theorem tw11716415318334457427:True:=trivial
theorem tw11118571224128318061:True:=trivial
theorem tw17059777611476764782:True:=trivial
theorem tw80305959348619941:True:=trivial
theorem tw12743147014486509950:True:=trivial
theorem tw12433352184887514712:True:=trivial
theorem tw18311444979338474:True:=trivial
theorem tw4380991332570459219:True:=trivial
theorem tw385078949697294948:True:=trivial
theorem tw17400161279788652262:True:=trivial
theorem tw8106239130770288072:True:=trivial
theorem tw13341098734776741933:True:=trivial
theorem tw6583778143000259013:True:=trivial
theorem tw7113348807610244636:True:=trivial
theorem tw11613707272963425061:True:=trivial
theorem tw11178258439990918787:True:=trivial
theorem tw562591187766498647:True:=trivial
theorem tw6855857224285521740:True:=trivial
theorem tw3625273893885869707:True:=trivial
theorem tw1048202752514211955:True:=trivial
theorem tw17789339601736464783:True:=trivial
theorem tw13558704469457239952:True:=trivial
theorem tw15063590567293525452:True:=trivial
theorem tw1269052380537977846:True:=trivial
theorem tw5564098151436811171:True:=trivial
theorem tw17945164174717618189:True:=trivial
theorem tw5158025823763406920:True:=trivial
theorem tw6412691635018744282:True:=trivial
theorem tw2940180601766548862:True:=trivial
theorem tw12099415008539527237:True:=trivial
theorem tw2011783930900831930:True:=trivial
theorem tw1311958073208533377:True:=trivial
theorem tw10360345496217572257:True:=trivial
theorem tw12125464286587543996:True:=trivial
theorem tw10977610241996599347:True:=trivial
theorem tw10022206732657029737:True:=trivial
theorem tw15394100606310296267:True:=trivial
theorem tw8560184754868972125:True:=trivial
theorem tw3286337935668614785:True:=trivial
theorem tw7234686168051791564:True:=trivial
theorem tw5750575830182437869:True:=trivial
theorem tw3426080734920542685:True:=trivial
theorem tw4801831158043846706:True:=trivial
theorem tw2094907736056803255:True:=trivial
theorem tw5959435037274319044:True:=trivial
theorem tw5604836096137657888:True:=trivial
theorem tw14607820135824155096:True:=trivial
theorem tw10187605907369596466:True:=trivial
theorem tw14190269108053286900:True:=trivial
theorem tw15877494452281305817:True:=trivial
theorem tw7619316269217922341:True:=trivial
theorem tw18022327582906246000:True:=trivial
theorem tw2756911783897418759:True:=trivial
theorem tw8184410919841664102:True:=trivial
theorem tw2283346835999062539:True:=trivial
theorem tw16739582157017331883:True:=trivial
theorem tw3299281198681700191:True:=trivial
theorem tw3802187075655707259:True:=trivial
theorem tw14821791550973956076:True:=trivial
theorem tw1203204898757407463:True:=trivial
theorem tw1314473744004984892:True:=trivial
theorem tw14957213389946772914:True:=trivial
theorem tw438968921850637732:True:=trivial
theorem tw2920559847211472861:True:=trivial
theorem tw10019493128037915054:True:=trivial
theorem tw13111359421909181364:True:=trivial
theorem tw8756849846698408632:True:=trivial
theorem tw8553198989504311158:True:=trivial
theorem tw10424679242341319387:True:=trivial
theorem tw4423734667533250572:True:=trivial
theorem tw1778853738511696180:True:=trivial
theorem tw13156356943889102847:True:=trivial
theorem tw16257336254365685979:True:=trivial
theorem tw9566174852604445727:True:=trivial
theorem tw10215179834635157711:True:=trivial
theorem tw6476775283785836481:True:=trivial
theorem tw17424626383341596158:True:=trivial
theorem tw13298645341995188439:True:=trivial
theorem tw2211145639024362411:True:=trivial
theorem tw16516539266712910264:True:=trivial
theorem tw1400180736061584758:True:=trivial
theorem tw6282116926779822778:True:=trivial
theorem tw7560748218025527445:True:=trivial
theorem tw13469147174012833979:True:=trivial
theorem tw10599284542755540852:True:=trivial
theorem tw11702402233924581884:True:=trivial
theorem tw7424251770605000568:True:=trivial
theorem tw9641663471438854815:True:=trivial
theorem tw6281916380184629805:True:=trivial
theorem tw4149092476645045316:True:=trivial
theorem tw5509566783835958911:True:=trivial
theorem tw9508778446131288901:True:=trivial
theorem tw17160688690910834833:True:=trivial
theorem tw10602206331154886219:True:=trivial
theorem tw9977643811594569751:True:=trivial
theorem tw3132190936513806538:True:=trivial
theorem tw2319487918389630196:True:=trivial
theorem tw5928879637364191849:True:=trivial
theorem tw5096735862436961662:True:=trivial
theorem tw1028559762609269638:True:=trivial
theorem tw16248656309632012693:True:=trivial
theorem tw9237227048182601507:True:=trivial
theorem tw6783387552673091456:True:=trivial
theorem tw12179991487466169591:True:=trivial
theorem tw16652098530572029113:True:=trivial
theorem tw321538143664059209:True:=trivial
theorem tw1918399749712722156:True:=trivial
theorem tw15257689114021800051:True:=trivial
theorem tw15703162101074786063:True:=trivial
theorem tw12853610845898266367:True:=trivial
theorem tw14130701598187434564:True:=trivial
theorem tw15117032973949646748:True:=trivial
theorem tw2784897506590305266:True:=trivial
theorem tw17455122538059438625:True:=trivial
theorem tw9792746136225965038:True:=trivial
theorem tw14455538751838940985:True:=trivial
theorem tw16200530307871350058:True:=trivial
theorem tw1873714051389782726:True:=trivial
theorem tw17231407335941063533:True:=trivial
theorem tw6022570906447459467:True:=trivial
theorem tw12686319668656531183:True:=trivial
theorem tw12925433248205846891:True:=trivial
theorem tw7722280768429099755:True:=trivial
theorem tw10172538890540534620:True:=trivial
theorem tw8456655182212333800:True:=trivial
theorem tw16460148070114067027:True:=trivial
theorem tw11313075480668683316:True:=trivial
theorem tw3799715989405080541:True:=trivial
theorem tw705390506063355782:True:=trivial
theorem tw3795659875973122360:True:=trivial
theorem tw4313802680973551530:True:=trivial
theorem tw4941273980100682853:True:=trivial
theorem tw728136048704778268:True:=trivial
theorem tw16207679523645488379:True:=trivial
theorem tw5381598178010886532:True:=trivial
theorem tw11694063939044605902:True:=trivial
theorem tw1952147083883823095:True:=trivial
theorem tw5918339790527684951:True:=trivial
theorem tw18403921754418174475:True:=trivial
theorem tw365398118197563404:True:=trivial
theorem tw11739130960951918263:True:=trivial
theorem tw797264505829522361:True:=trivial
theorem tw2120432435408787316:True:=trivial
theorem tw17078780945924820045:True:=trivial
theorem tw17186612814785040259:True:=trivial
theorem tw4099854138800282954:True:=trivial
theorem tw6137664856098904531:True:=trivial
theorem tw2749318232290815086:True:=trivial
theorem tw5282396844602517236:True:=trivial
theorem tw7508662771182996893:True:=trivial
theorem tw13965821585526284036:True:=trivial
theorem tw1595599453926907588:True:=trivial
theorem tw15051394043595599922:True:=trivial
theorem tw4574548291054344484:True:=trivial
theorem tw11434241621304124091:True:=trivial
theorem tw15447819745292594764:True:=trivial
theorem tw5391262163854022939:True:=trivial
theorem tw3387781003394304011:True:=trivial
theorem tw4212471091702698098:True:=trivial
theorem tw1463441516718284977:True:=trivial
theorem tw15538801953921172814:True:=trivial
theorem tw11270715231374493195:True:=trivial
theorem tw15438199468235257375:True:=trivial
theorem tw14116828758366727595:True:=trivial
theorem tw3160004425751678880:True:=trivial
theorem tw5204269501042709676:True:=trivial
theorem tw16827584367248536031:True:=trivial
theorem tw5613911594451943100:True:=trivial
theorem tw2758515533521799114:True:=trivial
theorem tw2112583037651503303:True:=trivial
theorem tw4589176838875621898:True:=trivial
theorem tw475897603862344968:True:=trivial
theorem tw8648567056906093782:True:=trivial
theorem tw1003703946202821237:True:=trivial
theorem tw4215413228665247478:True:=trivial
theorem tw6138821696680882086:True:=trivial
theorem tw16375665686574400242:True:=trivial
theorem tw17482398868213354966:True:=trivial
theorem tw4652130155874445436:True:=trivial
theorem tw12052857556759054531:True:=trivial
theorem tw9957861472517330890:True:=trivial
theorem tw15585992987605727559:True:=trivial
theorem tw14492419264759167917:True:=trivial
theorem tw16102320725698356120:True:=trivial
theorem tw2433158140719666408:True:=trivial
theorem tw5269947227023532883:True:=trivial
theorem tw4747056954693339008:True:=trivial
theorem tw11444360007578409334:True:=trivial
theorem tw5246668640365798873:True:=trivial
theorem tw3095229306708720923:True:=trivial
theorem tw3008366115657912751:True:=trivial
theorem tw10638695880969170347:True:=trivial
theorem tw8654879586263114043:True:=trivial
theorem tw705936501367506501:True:=trivial
theorem tw16182792641362506487:True:=trivial
theorem tw4228635431053828673:True:=trivial
theorem tw13361874647320202224:True:=trivial
theorem tw3538915064491501021:True:=trivial
theorem tw395566692142364520:True:=trivial
theorem tw10853411632026333215:True:=trivial
theorem tw15893571018406357742:True:=trivial
theorem tw16270793915536038531:True:=trivial
theorem tw13942602144588065421:True:=trivial
theorem tw12104319225018687891:True:=trivial
theorem tw12531242903052653295:True:=trivial
theorem tw16553618595446942219:True:=trivial
theorem tw16306446983087691859:True:=trivial
theorem tw6754417515545377002:True:=trivial
theorem tw16321553804714094182:True:=trivial
theorem tw4469471739848458468:True:=trivial
theorem tw16677832586418260436:True:=trivial
theorem tw5619707202421756293:True:=trivial
theorem tw10950839769904840816:True:=trivial
theorem tw2138290490730552973:True:=trivial
theorem tw7683255485595462139:True:=trivial
theorem tw7558526852787356656:True:=trivial
theorem tw3278433185090451386:True:=trivial
theorem tw14020304603391404488:True:=trivial
theorem tw5660949006484996530:True:=trivial
theorem tw11730240110619870308:True:=trivial
theorem tw12603027359013012170:True:=trivial
theorem tw16084171452462728959:True:=trivial
theorem tw11706051602058050522:True:=trivial
theorem tw11497169930343065233:True:=trivial
theorem tw8080317073693217379:True:=trivial
theorem tw8945853634406143171:True:=trivial
theorem tw4624718333774754300:True:=trivial
theorem tw11534937866944818307:True:=trivial
theorem tw6232867204089091886:True:=trivial
theorem tw9491682096147605630:True:=trivial
theorem tw8423286644458411172:True:=trivial
theorem tw16657696840242470689:True:=trivial
theorem tw1154510640371996271:True:=trivial
theorem tw9136550987104039306:True:=trivial
theorem tw18078442058582410518:True:=trivial
theorem tw14583407665578586796:True:=trivial
theorem tw15643266001533313645:True:=trivial
theorem tw16493786381464103001:True:=trivial
theorem tw4810013076167330815:True:=trivial
theorem tw2222335343106468185:True:=trivial
theorem tw10904076717487631904:True:=trivial
theorem tw17828158365882719917:True:=trivial
theorem tw11913250515016430437:True:=trivial
theorem tw12729580674584845399:True:=trivial
theorem tw17973643495889480578:True:=trivial
theorem tw3027607438592812764:True:=trivial
theorem tw17842342291986280846:True:=trivial
theorem tw6213482631838884978:True:=trivial
theorem tw12714677329431187542:True:=trivial
theorem tw15937708034897611119:True:=trivial
theorem tw17420361043551931489:True:=trivial
theorem tw9836663831940553550:True:=trivial
theorem tw9880082034485605132:True:=trivial
theorem tw11272096175051204585:True:=trivial
theorem tw4675651618225356522:True:=trivial
theorem tw9177168604006446077:True:=trivial
theorem tw1465659922968263666:True:=trivial
theorem tw15667671947344694454:True:=trivial
theorem tw16448012648638581880:True:=trivial
theorem tw848514854457981778:True:=trivial
theorem tw8215653998112786928:True:=trivial
theorem tw800313373667727650:True:=trivial
theorem tw11163105598745219352:True:=trivial
theorem tw12444182579217508563:True:=trivial
theorem tw11072665804813551498:True:=trivial
theorem tw17717135171610915581:True:=trivial
theorem tw2126571239634650825:True:=trivial
theorem tw14112455588910996445:True:=trivial
theorem tw13262760005701877773:True:=trivial
theorem tw616463945514025059:True:=trivial
theorem tw14696244737459666874:True:=trivial
theorem tw7156961796727802177:True:=trivial
theorem tw11054496689989986220:True:=trivial
theorem tw9392896580189759614:True:=trivial
theorem tw11189835122409817888:True:=trivial
theorem tw8014987229859003105:True:=trivial
theorem tw3520417242280692875:True:=trivial
theorem tw9938894273296772186:True:=trivial
theorem tw8626550506400194754:True:=trivial
theorem tw12094641051371351326:True:=trivial
theorem tw6035002209922859737:True:=trivial
theorem tw18015825876139420372:True:=trivial
theorem tw6259746629016883597:True:=trivial
theorem tw8049589770465540065:True:=trivial
theorem tw13643924626847344632:True:=trivial
theorem tw4807595692144876326:True:=trivial
theorem tw14770336465512900082:True:=trivial
theorem tw17924847940167850771:True:=trivial
theorem tw9465815039314674046:True:=trivial
theorem tw9326554161240059768:True:=trivial
theorem tw5667490257609640892:True:=trivial
theorem tw2352086516652673248:True:=trivial
theorem tw24543078011871174:True:=trivial
theorem tw1528135409495930206:True:=trivial
theorem tw3511541090851026106:True:=trivial
theorem tw13944641543060398291:True:=trivial
theorem tw18205329944379044887:True:=trivial
theorem tw16313302775363335329:True:=trivial
theorem tw6320908215380132342:True:=trivial
theorem tw1426814056163017508:True:=trivial
theorem tw6813424088735166487:True:=trivial
theorem tw271295993558764662:True:=trivial
theorem tw15092254810269943757:True:=trivial
theorem tw5312375356386068618:True:=trivial
theorem tw15334963279816462475:True:=trivial
theorem tw16647927421166185184:True:=trivial
theorem tw10553459410291416544:True:=trivial
theorem tw10573986733580449293:True:=trivial
theorem tw9257992210707903002:True:=trivial
theorem tw15373429057452877316:True:=trivial
theorem tw12203112544997586797:True:=trivial
theorem tw5116413230677006785:True:=trivial
theorem tw12306725783159431487:True:=trivial
theorem tw12248535908373875559:True:=trivial
theorem tw6311265766399810736:True:=trivial
theorem tw10025825719028466754:True:=trivial
theorem tw14508284756949433772:True:=trivial
theorem tw3700215153409206708:True:=trivial
theorem tw5996851708113913391:True:=trivial
theorem tw5364520920138428561:True:=trivial
theorem tw4657000094264702871:True:=trivial
theorem tw8611998256131682704:True:=trivial
theorem tw10889191307245376254:True:=trivial
theorem tw2232326514318574625:True:=trivial
theorem tw12836123828443259365:True:=trivial
theorem tw15611501642501012376:True:=trivial
theorem tw6379245139941693503:True:=trivial
theorem tw5430701206773614753:True:=trivial
theorem tw14652742100513249193:True:=trivial
theorem tw4257160959601511184:True:=trivial
theorem tw848671403795593405:True:=trivial
theorem tw15944606642836700817:True:=trivial
theorem tw6815297695049440539:True:=trivial
theorem tw2015353398528780248:True:=trivial
theorem tw16773241193434661346:True:=trivial
theorem tw4003321507080401638:True:=trivial
theorem tw3645316819403821332:True:=trivial
theorem tw8206824870523083555:True:=trivial
theorem tw6125629114254689673:True:=trivial
theorem tw18445884037041865345:True:=trivial
theorem tw11252697001849061056:True:=trivial
theorem tw17200755127271238287:True:=trivial
theorem tw11812216726000888526:True:=trivial
theorem tw14456306924224401289:True:=trivial
theorem tw7079981783721548581:True:=trivial
theorem tw1783848597274472813:True:=trivial
theorem tw9754843815698444089:True:=trivial
theorem tw15905532025507881026:True:=trivial
theorem tw5480087530435997318:True:=trivial
theorem tw13883748324876218218:True:=trivial
theorem tw14397001894528232816:True:=trivial
theorem tw1211579025463734381:True:=trivial
theorem tw10015274453085457182:True:=trivial
theorem tw12320582420902526851:True:=trivial
theorem tw896468169423220858:True:=trivial
theorem tw862024220275648102:True:=trivial
theorem tw4010978098496735327:True:=trivial
theorem tw8541033382673478322:True:=trivial
theorem tw7302198793420425024:True:=trivial
theorem tw11674306258283815437:True:=trivial
theorem tw8177552538780497309:True:=trivial
theorem tw1823977768427556606:True:=trivial
theorem tw7402889111578909075:True:=trivial
theorem tw59099206191984619:True:=trivial
theorem tw2481489922009211575:True:=trivial
theorem tw1752686002017267421:True:=trivial
theorem tw15741256846957080946:True:=trivial
theorem tw11613960189503190567:True:=trivial
theorem tw12833986864400988761:True:=trivial
theorem tw15720157055814844116:True:=trivial
theorem tw8384257447610470762:True:=trivial
theorem tw5197135899857373869:True:=trivial
theorem tw16278339775500821896:True:=trivial
theorem tw2593481805387416338:True:=trivial
theorem tw4654983479212523640:True:=trivial
theorem tw6985205559653316434:True:=trivial
theorem tw9586189675542726895:True:=trivial
theorem tw16660592821832063431:True:=trivial
theorem tw16831276992792397698:True:=trivial
theorem tw13782686284564214236:True:=trivial
theorem tw7702277818134163221:True:=trivial
theorem tw17500773868644510654:True:=trivial
theorem tw16000355751345856089:True:=trivial
theorem tw114860033724009240:True:=trivial
theorem tw16310190720754396858:True:=trivial
theorem tw4862628140978490:True:=trivial
theorem tw7333998788641965310:True:=trivial
theorem tw3311168697821830557:True:=trivial
theorem tw2663990689004709003:True:=trivial
theorem tw14348670555835726899:True:=trivial
theorem tw1006373688684784108:True:=trivial
theorem tw5193584556603084322:True:=trivial
theorem tw7824914393196466367:True:=trivial
theorem tw11275184908187612027:True:=trivial
theorem tw8930763308368949239:True:=trivial
theorem tw16264512729920232006:True:=trivial
theorem tw2664154545732335048:True:=trivial
theorem tw13669672136431890032:True:=trivial
theorem tw3922565941351069204:True:=trivial
theorem tw4324614609706064487:True:=trivial
theorem tw15622395816419007186:True:=trivial
theorem tw15379701572148780824:True:=trivial
theorem tw3624008100591771148:True:=trivial
theorem tw7356423926326243235:True:=trivial
theorem tw16119563535034682342:True:=trivial
theorem tw15637056481685482639:True:=trivial
theorem tw4036091160696858601:True:=trivial
theorem tw1314559117331687445:True:=trivial
theorem tw3130203525580397737:True:=trivial
theorem tw14063161890333855371:True:=trivial
theorem tw1537845810970880605:True:=trivial
theorem tw9779475497923011701:True:=trivial
theorem tw13813192150157124107:True:=trivial
theorem tw17264036162892668586:True:=trivial
theorem tw17013893328703427479:True:=trivial
theorem tw11383963119532254339:True:=trivial
theorem tw4430070231904789060:True:=trivial
theorem tw15093236114581660239:True:=trivial
theorem tw15452163120318053770:True:=trivial
theorem tw12207468084150671050:True:=trivial
theorem tw9194934039156771176:True:=trivial
theorem tw16985821400265699286:True:=trivial
theorem tw1585933895424919935:True:=trivial
theorem tw12101550424862503703:True:=trivial
theorem tw6156560732620849334:True:=trivial
theorem tw9029074436935340590:True:=trivial
theorem tw4550860409043452355:True:=trivial
theorem tw5320450246773395517:True:=trivial
theorem tw8958507937666228662:True:=trivial
theorem tw6183246178937183056:True:=trivial
theorem tw15487127161382070721:True:=trivial
theorem tw4960566018834469427:True:=trivial
theorem tw5815400982020848998:True:=trivial
theorem tw2659593944654847442:True:=trivial
theorem tw14508540879047642906:True:=trivial
theorem tw4328459643623781902:True:=trivial
theorem tw2582342497375817635:True:=trivial
theorem tw10114260585075309161:True:=trivial
theorem tw8156226501672485312:True:=trivial
theorem tw13496664985017000748:True:=trivial
theorem tw14885717924723415631:True:=trivial
theorem tw16828776996338918875:True:=trivial
theorem tw12615676221862687642:True:=trivial
theorem tw2591534765840253925:True:=trivial
theorem tw13069664263167384902:True:=trivial
theorem tw18438249746268397026:True:=trivial
theorem tw2329913555699232661:True:=trivial
theorem tw481372420149011702:True:=trivial
theorem tw11262699575991414772:True:=trivial
theorem tw3283687522966648914:True:=trivial
theorem tw13847666963854901513:True:=trivial
theorem tw18133530324178036595:True:=trivial
theorem tw3472417914223012308:True:=trivial
theorem tw4273979477013611931:True:=trivial
theorem tw11702255157389964655:True:=trivial
theorem tw5235322345460534558:True:=trivial
theorem tw134978850485194195:True:=trivial
theorem tw678898269116683234:True:=trivial
theorem tw16549290693153007706:True:=trivial
theorem tw17903862522747536007:True:=trivial
theorem tw11086492237983806879:True:=trivial
theorem tw1016400183209138257:True:=trivial
theorem tw3994166189449902982:True:=trivial
theorem tw15283975418402388038:True:=trivial
theorem tw8207069815337775507:True:=trivial
theorem tw15064403451849130395:True:=trivial
theorem tw3197371054398087116:True:=trivial
theorem tw5667877859365498434:True:=trivial
theorem tw18173904406471915366:True:=trivial
theorem tw7005787549420347164:True:=trivial
theorem tw3895626692095589069:True:=trivial
theorem tw2495384421997958483:True:=trivial
theorem tw1067182443733248158:True:=trivial
theorem tw717525038487731953:True:=trivial
theorem tw3115966493500459830:True:=trivial
theorem tw14459043838136477773:True:=trivial
theorem tw7967153995540797250:True:=trivial
theorem tw2026913875967801047:True:=trivial
theorem tw164008286961058817:True:=trivial
theorem tw16912642414471854317:True:=trivial
theorem tw451117546366325095:True:=trivial
theorem tw3173411954949260345:True:=trivial
theorem tw1882717557410333389:True:=trivial
theorem tw7621591390294487186:True:=trivial
theorem tw15675373382965495938:True:=trivial
theorem tw4891254548700734792:True:=trivial
theorem tw8294994645479979692:True:=trivial
theorem tw13831427030294531907:True:=trivial
theorem tw775864917474635962:True:=trivial
theorem tw2159056791108623521:True:=trivial
theorem tw9685741367206509993:True:=trivial
theorem tw13827839875094940973:True:=trivial
theorem tw4498657208541027368:True:=trivial
theorem tw15505283228841335887:True:=trivial
theorem tw3982615527433037470:True:=trivial
theorem tw2501658430152487277:True:=trivial
theorem tw2446711887622320814:True:=trivial
theorem tw2524715294823622778:True:=trivial
theorem tw18051688829750043234:True:=trivial
theorem tw16491993530212040665:True:=trivial
theorem tw4976116276927958282:True:=trivial
theorem tw4849147217546104520:True:=trivial
theorem tw2223312225806236792:True:=trivial
theorem tw14241936409616197018:True:=trivial
theorem tw13922380589692673059:True:=trivial
theorem tw1181269032865876875:True:=trivial
theorem tw1926148357680694163:True:=trivial
theorem tw3211325188221375359:True:=trivial
theorem tw8122441086978874555:True:=trivial
theorem tw74425618312404472:True:=trivial
theorem tw17119735570805417665:True:=trivial
theorem tw14231822855202430820:True:=trivial
theorem tw3364839052587249578:True:=trivial
theorem tw12304767563247400160:True:=trivial
theorem tw4683278524380989911:True:=trivial
theorem tw16082626143393912835:True:=trivial
theorem tw17273962518169502307:True:=trivial
theorem tw5436745189781730181:True:=trivial
theorem tw11468416797033510615:True:=trivial
theorem tw6777601437348508175:True:=trivial
theorem tw14798593455860886100:True:=trivial
theorem tw16385837459041716351:True:=trivial
theorem tw1343013224692709744:True:=trivial
theorem tw8422195793802353291:True:=trivial
theorem tw14158665581169579760:True:=trivial
theorem tw10943600545877950709:True:=trivial
theorem tw10125053121272273654:True:=trivial
theorem tw11528424747008159663:True:=trivial
theorem tw1829904967317061448:True:=trivial
theorem tw11407307770727509707:True:=trivial
theorem tw13580342175742684550:True:=trivial
theorem tw7283854237605776925:True:=trivial
theorem tw11757341483983744543:True:=trivial
theorem tw2027316548437717928:True:=trivial
theorem tw15910062408501512427:True:=trivial
theorem tw16143206569005773965:True:=trivial
theorem tw13820684493429634557:True:=trivial
theorem tw1456864926083530442:True:=trivial
theorem tw4636246457929182414:True:=trivial
theorem tw3163964567201469529:True:=trivial
theorem tw16210646904316444608:True:=trivial
theorem tw6237606047046976598:True:=trivial
theorem tw8909319795379570646:True:=trivial
theorem tw9214436154145382252:True:=trivial
theorem tw4544572752254590213:True:=trivial
theorem tw11582383053320331291:True:=trivial
theorem tw17966150628078423175:True:=trivial
theorem tw7271111566420767380:True:=trivial
theorem tw15896350076500877074:True:=trivial
theorem tw10140821834932026827:True:=trivial
theorem tw5188248540841867720:True:=trivial
theorem tw11624875262018552678:True:=trivial
theorem tw9888476545977287201:True:=trivial
theorem tw5205278306962519689:True:=trivial
theorem tw2151659686062875512:True:=trivial
theorem tw15873162135977262720:True:=trivial
theorem tw17471527951974623063:True:=trivial
theorem tw16395236354982430957:True:=trivial
theorem tw15066918336885499970:True:=trivial
theorem tw936737585269979887:True:=trivial
theorem tw4809183486907735943:True:=trivial
theorem tw498768560885313130:True:=trivial
theorem tw12912174536087774753:True:=trivial
theorem tw7360379128396958107:True:=trivial
theorem tw13603238828068330054:True:=trivial
theorem tw13117197394793329650:True:=trivial
theorem tw6477491040547052306:True:=trivial
theorem tw7564120155452921172:True:=trivial
theorem tw77064856379283840:True:=trivial
theorem tw12216782630035600007:True:=trivial
theorem tw12075803583098615807:True:=trivial
theorem tw4761118716037161654:True:=trivial
theorem tw1575003621559798069:True:=trivial
theorem tw9108826429332218501:True:=trivial
theorem tw5226032142361360144:True:=trivial
theorem tw8943278032239538933:True:=trivial
theorem tw2901510678546907620:True:=trivial
theorem tw8280580748875130015:True:=trivial
theorem tw2762195690201266754:True:=trivial
theorem tw4466966398983680578:True:=trivial
theorem tw1983768900708412629:True:=trivial
theorem tw7208539391360453451:True:=trivial
theorem tw11683114453346899028:True:=trivial
theorem tw14586846103320691140:True:=trivial
theorem tw2303797347362625592:True:=trivial
theorem tw8692060377516980056:True:=trivial
theorem tw17195510539320914921:True:=trivial
theorem tw4377173682052647357:True:=trivial
theorem tw14474008131113116403:True:=trivial
theorem tw7542088296327367103:True:=trivial
theorem tw11330052487791045564:True:=trivial
theorem tw5178775988537076668:True:=trivial
theorem tw3333361326957936178:True:=trivial
theorem tw13652882298704437707:True:=trivial
theorem tw17127946165537493485:True:=trivial
theorem tw6274796014141209474:True:=trivial
theorem tw11417799555498582598:True:=trivial
theorem tw279146597805717263:True:=trivial
theorem tw7504378294183351637:True:=trivial
theorem tw8164481809402508773:True:=trivial
theorem tw3167005445550466236:True:=trivial
theorem tw8623547169832363817:True:=trivial
theorem tw14572847169343055666:True:=trivial
theorem tw11633649939195602900:True:=trivial
theorem tw4570536089941677559:True:=trivial
theorem tw5260172821964320856:True:=trivial
theorem tw9830322217397769255:True:=trivial
theorem tw18310866577344083846:True:=trivial
theorem tw15292371460683867782:True:=trivial
theorem tw7515808774188733568:True:=trivial
theorem tw1800807103295638079:True:=trivial
theorem tw1175563155326551591:True:=trivial
theorem tw15735425080283604980:True:=trivial
theorem tw7917188393561820971:True:=trivial
theorem tw14928753357281626189:True:=trivial
theorem tw11013374802065863698:True:=trivial
theorem tw827108275587434237:True:=trivial
theorem tw13041299953597981724:True:=trivial
theorem tw14520262474129164674:True:=trivial
theorem tw1600345597579193567:True:=trivial
theorem tw15463063206268590578:True:=trivial
theorem tw17510957423261678139:True:=trivial
theorem tw9658097636487943484:True:=trivial
theorem tw14026834326210579165:True:=trivial
theorem tw14073137931827714510:True:=trivial
theorem tw8106094398530553645:True:=trivial
theorem tw9791255567027204386:True:=trivial
theorem tw8838254837626162810:True:=trivial
theorem tw6090500460793431585:True:=trivial
theorem tw2107876833945607509:True:=trivial
theorem tw2332202935742923395:True:=trivial
theorem tw143008115177129261:True:=trivial
theorem tw9086217829610091597:True:=trivial
theorem tw10298678153730634984:True:=trivial
theorem tw4790636361739839547:True:=trivial
theorem tw16336281580145716344:True:=trivial
theorem tw11707138752558211408:True:=trivial
theorem tw3430323425094552180:True:=trivial
theorem tw17872162002204420348:True:=trivial
theorem tw16774523610297893540:True:=trivial
theorem tw6550656968448214717:True:=trivial
theorem tw5451981973980213013:True:=trivial
theorem tw376572741197035460:True:=trivial
theorem tw17508420039838325648:True:=trivial
theorem tw13881884899598890002:True:=trivial
theorem tw4405567362343441976:True:=trivial
theorem tw5004692400427344147:True:=trivial
theorem tw14384345559151017322:True:=trivial
theorem tw39645798429288120:True:=trivial
theorem tw1095672492464631608:True:=trivial
theorem tw7533781664642054238:True:=trivial
theorem tw17220521871494512680:True:=trivial
theorem tw14855611019648084268:True:=trivial
theorem tw6041848551740693144:True:=trivial
theorem tw11421850413045895538:True:=trivial
theorem tw2083272356960731032:True:=trivial
theorem tw8662821602383415441:True:=trivial
theorem tw6211344887828948577:True:=trivial
theorem tw16053524036837809036:True:=trivial
theorem tw12010366387839343353:True:=trivial
theorem tw11247929503589206971:True:=trivial
theorem tw8982763069585042138:True:=trivial
theorem tw15893420626952303487:True:=trivial
theorem tw360780852860713803:True:=trivial
theorem tw11530460579763225002:True:=trivial
theorem tw17952436585155126078:True:=trivial
theorem tw7218247165222062183:True:=trivial
theorem tw11007849706677857024:True:=trivial
theorem tw8203576381852441473:True:=trivial
theorem tw17856311487254973369:True:=trivial
theorem tw17846461418533779418:True:=trivial
theorem tw14168714340552019288:True:=trivial
theorem tw10036572573234749202:True:=trivial
theorem tw13981286332562756243:True:=trivial
theorem tw11232462630937837665:True:=trivial
theorem tw6209822120865366995:True:=trivial
theorem tw9229696685462542477:True:=trivial
theorem tw15357527493383018648:True:=trivial
theorem tw2861620417920975721:True:=trivial
theorem tw4613699622325901431:True:=trivial
theorem tw3416649389766564348:True:=trivial
theorem tw10005777857333246821:True:=trivial
theorem tw979748793008898568:True:=trivial
theorem tw1031538216444856146:True:=trivial
theorem tw1661531205084824096:True:=trivial
theorem tw17495528933704281880:True:=trivial
theorem tw5468465435771890570:True:=trivial
theorem tw8197427711134761195:True:=trivial
theorem tw17452715245486020267:True:=trivial
theorem tw3579315240546354513:True:=trivial
theorem tw6552324159362313743:True:=trivial
theorem tw15534526159624009068:True:=trivial
theorem tw8399786409727616298:True:=trivial
theorem tw2244609035207389166:True:=trivial
theorem tw567758094257775932:True:=trivial
theorem tw15955273638561353556:True:=trivial
theorem tw2575339774478397563:True:=trivial
theorem tw2872734844310325741:True:=trivial
theorem tw3878482148869457968:True:=trivial
theorem tw2546593435897570238:True:=trivial
theorem tw9037618311342907592:True:=trivial
theorem tw11206017598994803265:True:=trivial
theorem tw3857195882803060319:True:=trivial
theorem tw2680513932319845086:True:=trivial
theorem tw12635819703667300279:True:=trivial
theorem tw18343620201188778356:True:=trivial
theorem tw15857630647791241960:True:=trivial
theorem tw1540657839708046986:True:=trivial
theorem tw4644443895525191634:True:=trivial
theorem tw2097016475746499564:True:=trivial
theorem tw13841929299828925796:True:=trivial
theorem tw1258162823789127696:True:=trivial
theorem tw4782907929172200079:True:=trivial
theorem tw8563741042811077060:True:=trivial
theorem tw7959998642183113724:True:=trivial
theorem tw75829710924041420:True:=trivial
theorem tw2664532505517697116:True:=trivial
theorem tw15641112290669878839:True:=trivial
theorem tw3067903009431635277:True:=trivial
theorem tw16278809913284212798:True:=trivial
theorem tw329470437658457972:True:=trivial
theorem tw11320619013214257250:True:=trivial
theorem tw12357216762826719462:True:=trivial
theorem tw3939442954962184279:True:=trivial
theorem tw4295491290317436084:True:=trivial
theorem tw1602639423215108725:True:=trivial
theorem tw15540784022887888856:True:=trivial
theorem tw6730597305876618719:True:=trivial
theorem tw7447077523052803048:True:=trivial
theorem tw5802841177457176308:True:=trivial
theorem tw2776332814895626619:True:=trivial
theorem tw17006249844562682877:True:=trivial
theorem tw16377212828774843777:True:=trivial
theorem tw5160063462978322957:True:=trivial
theorem tw6752884765785444501:True:=trivial
theorem tw9143335536026540645:True:=trivial
theorem tw14813101661912838732:True:=trivial
theorem tw12810383545798930220:True:=trivial
theorem tw2037822972960729907:True:=trivial
theorem tw15032901446289377333:True:=trivial
theorem tw1189384208379722620:True:=trivial
theorem tw8092577902352656554:True:=trivial
theorem tw2237526279024564446:True:=trivial
theorem tw13298184284264430672:True:=trivial
theorem tw4430296457545353537:True:=trivial
theorem tw2578516392316465986:True:=trivial
theorem tw2538324038435618729:True:=trivial
theorem tw5934811238250517636:True:=trivial
theorem tw17911783343782424984:True:=trivial
theorem tw3054220314691759701:True:=trivial
theorem tw5767770827646503446:True:=trivial
theorem tw11311267397535000938:True:=trivial
theorem tw12321642842859971078:True:=trivial
theorem tw1473270674764302021:True:=trivial
theorem tw560193042000962544:True:=trivial
theorem tw14679311052366660046:True:=trivial
theorem tw2368360381009574869:True:=trivial
theorem tw3645685984916148447:True:=trivial
theorem tw7467078293167036225:True:=trivial
theorem tw146259606528297618:True:=trivial
theorem tw5798759511301218285:True:=trivial
theorem tw4052601000550829736:True:=trivial
theorem tw5971964977190440032:True:=trivial
theorem tw2614685884305844479:True:=trivial
theorem tw16945525565775372851:True:=trivial
theorem tw5257929436925873012:True:=trivial
theorem tw1641219802673073514:True:=trivial
theorem tw5540510789885088970:True:=trivial
theorem tw12759952649032312526:True:=trivial
theorem tw9034361262766166198:True:=trivial
theorem tw13840259835196617150:True:=trivial
theorem tw9329333197685950100:True:=trivial
theorem tw4295005653179140624:True:=trivial
theorem tw7196660907758109035:True:=trivial
theorem tw8789816762957834642:True:=trivial
theorem tw13408816824844784677:True:=trivial
theorem tw6259824357783493341:True:=trivial
theorem tw12673287686719546648:True:=trivial
theorem tw9466555162432454344:True:=trivial
theorem tw8918318585019197932:True:=trivial
theorem tw1502079063493870571:True:=trivial
theorem tw1170157653851981:True:=trivial
theorem tw5944556398119192061:True:=trivial
theorem tw9271937567974311922:True:=trivial
theorem tw10550895364434337817:True:=trivial
theorem tw1383246742881750056:True:=trivial
theorem tw10973335794535456553:True:=trivial
theorem tw407428261261261954:True:=trivial
theorem tw12051589437591669129:True:=trivial
theorem tw5655720823784359864:True:=trivial
theorem tw17200698562769245564:True:=trivial
theorem tw2717776664452909808:True:=trivial
theorem tw3931995787745227850:True:=trivial
theorem tw5258225790877383569:True:=trivial
theorem tw12779047762034808368:True:=trivial
theorem tw58612019839839135:True:=trivial
theorem tw13540591392018559521:True:=trivial
theorem tw4304879406752212710:True:=trivial
theorem tw13015404614498437592:True:=trivial
theorem tw748506586396886156:True:=trivial
theorem tw401487275738836632:True:=trivial
theorem tw10117003067875314427:True:=trivial
theorem tw12656366487126881329:True:=trivial
theorem tw6433626120367985050:True:=trivial
theorem tw17517400506987595227:True:=trivial
theorem tw13090568159817555745:True:=trivial
theorem tw471601979481673395:True:=trivial
theorem tw15430998829906304170:True:=trivial
theorem tw4145452105435192779:True:=trivial
theorem tw1051379528186104381:True:=trivial
theorem tw7466232847719658361:True:=trivial
theorem tw18090054257860430974:True:=trivial
theorem tw6954262798059186117:True:=trivial
theorem tw15678967613939903160:True:=trivial
theorem tw6332520526507216763:True:=trivial
theorem tw7420791021429275166:True:=trivial
theorem tw439020519113271653:True:=trivial
theorem tw17795581816640768504:True:=trivial
theorem tw5948305237301364390:True:=trivial
theorem tw5767009961027946842:True:=trivial
theorem tw16296077278989314974:True:=trivial
theorem tw7832424639360713997:True:=trivial
theorem tw14873042439938195548:True:=trivial
theorem tw2218220454717367545:True:=trivial
theorem tw8556649608479126693:True:=trivial
theorem tw14850596183107138979:True:=trivial
theorem tw4124022725502909136:True:=trivial
end PySem.W.Fast
open PySem PySem.W PyProof.Rows
set_option maxRecDepth 100000 in
set_option maxHeartbeats 0 in
theorem PySem.Challenge.cw_talkhall_k27_whole_said_again_holds : PySem.Challenge.rw_talkhall_k27_whole_said_again.Holds := by
 w_on;o_law;k_head;(case hw=>w_witness2)
 k_fill
 refine pR.walk (l:=PySem.Challenge.rw_talkhall_k27_whole_said_again) rfl rfl (fun w h Y=>PySem.W.kIn_of Y) ?F
 case F=>
  intro w mg fa h KX G Ja
  refine' pR.all_mk KX G Ja ?_ ?_ ?_ ?_ ?_ ?_ ?_ ?_ ?_
  all_goals first|k_is|kernel_rfl|skip
