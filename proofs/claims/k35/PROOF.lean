import PyProof.Rows.All
import Wide.All
import OpenK.AllK
import Wide.FinOn
import Lean
import PyProof.EqAt
import PyProof.EqKinds
import PyProof.TupleCall
import KE.KLam
import PyProof.ExcArgsOwn
import PyProof.AttrMissSeq
import KE.KMinKey
import KE.KBoundM
import KE.KSortTup
import KE.KItemsList
import PyProof.ListRange
import PyProof.TupleIter
import PyProof.TupleOfSeq
import KE.KSortKey
import PyProof.TupleOfStr
import PySem.Challenge.RW_talkhall_k35_whole_halls_that_write
set_option Elab.async false
set_option linter.all false
set_option maxRecDepth 100000
set_option maxHeartbeats 4000000
def aa:=@PySem.wpAny_bind
def ay:=@List.getElem?_eq_getElem
def aB:=@PySem.Heap.get?_push_of_some
def ak:=@List.length_map
def af:=@PySem.wpAny_pure
def aO:=@List.mem_cons_of_mem
def bz:=@List.getD_eq_getElem?_getD
def aP:=@List.mem_cons_self
def ab:=@if_pos
def aC:=@List.map_cons
def aq:=@Nat.le_refl
def aE:=@Bool.and_eq_true
def aQ:=@PySem.Heap.get?_push_size
def aL:=@List.getElem?_map
def az:=@PySem.Heap.lt_size
def aS:=@List.size_toArray
def aY:=@List.length_append
def ae:=@if_neg
def bg:=@List.mem_of_getElem?
def bP:=@Array.getElem?_eq_getElem
def bc:=@Array.length_toList
def aX:=@decide_eq_false
def b_:=@Array.getD_eq_getD_getElem?
def b8:=@List.getElem?_append_left
def bb:=@List.length_cons
def cb:=@List.getElem?_eq_some_iff
def bA:=@List.all_eq_true
def cf:=@Array.getElem?_toList
def bD:=@beq_self_eq_true
def a8:=@List.mem_cons
def bj:=@decide_eq_true
def aZ:=@Nat.le_trans
def bQ:=@Nat.lt_of_lt_of_le
def bS:=@Bool.false_eq_true
def cg:=@List.getElem?_set_ne
def bF:=@List.mem_append
def cn:=@List.mem_singleton
def dH:=@List.getElem?_append_right
def bo:=@Nat.ne_of_lt
def bp:=@List.mem_map
def cA:=@List.mergeSort_perm
def cp:=@decide_eq_true_eq
def cq:=@of_decide_eq_true
def bG:=@List.map_map
def cB:=@PySem.wpAny_newObj_type
def fN:=@PyProof.Rows.slot_tuple_getitem
def cR:=@Bool.false_ne_true
def cC:=@List.mem_filter
def bK:=@Nat.zero_le
def dI:=@List.getElem?_of_mem
def dS:=@List.mem_append_right
def dU:=@List.mem_append_left
def cu:=@PySem.wpAny_holding
def eY:=@List.length_singleton
def cI:=@List.mem_range
def bT:=@PySem.sizeLine_eq
def fk:=@List.getElem?_set_self
def dj:=@List.lookup_cons
def dq:=@List.append_nil
def dJ:=@List.filter_cons
def dM:=@PySem.wpAny_call_entry
def bB:=@if_false
def eZ:=@Nat.le_of_lt_succ
def dW:=@List.nodup_cons
def dX:=@List.length_nil
def dY:=@List.find?_cons
def dZ:=@List.map_append
def du:=@Nat.lt_irrefl
def fO:=@List.map_congr_left
def iu:=@List.pairwise_mergeSort
def fm:=@PySem.wpAny_setState_of
def e8:=@beq_false_of_ne
def jB:=@List.drop_eq_getElem_cons
def gA:=@PySem.Around.under_plainId
def gB:=@PySem.mem_of_lookup
def d_:=@List.all_cons
def jC:=@List.Perm.eq_of_pairwise
def gC:=@PySem.Heap.SameBut.update
def b9:=@congrArg
def ef:=@Nat.ne_of_gt
def gD:=@Int.toNat_natCast
def jD:=@PySem.wpAny_callSpecial?_slot
def gE:=@List.append_assoc
def iw:=@List.filterMap_cons
def lA:=@List.getElem?_zip_eq_some
def gG:=@List.getElem_map
def fP:=@PySem.codeAny_builtin
def fQ:=@List.nodup_nil
def iy:=@List.length_range
def jE:=@List.replicate_succ
def cv:=@Ne.symm
def mF:=@List.idxOf_lt_length_of_mem
def mG:=@PySem.F.slot_dict_keyiterator_next
def mH:=@Array.getElem?_eq_some_iff
def mI:=@List.perm_ext_iff_of_nodup
def lB:=@List.contains_iff_mem
def lC:=@List.length_filter_le
def fo:=@PySem.wpAny_typeOf
def lD:=@PySem.Heap.get?_update_other
def iz:=@PySem.wpAny_forIn_list
def j6:=@List.getElem?_eq_none_iff
def fU:=@List.foldl_cons
def cT:=@PySem.wpAny_mono
def gV:=@List.nodup_append
def eU:=@Nat.sub_self
def iV:=@PySem.Heap.get?_update_self
def fV:=@PySem.wpAny_ite_split
def gW:=@List.getElem_inj
def gX:=@List.length_take
def gY:=@PySem.PassesOwn.leaving
def gZ:=@List.getElem_mem
def fq:=@PySem.plainId_quiet
def iW:=@List.mem_filterMap
def iX:=@Array.forIn_toList
def fW:=@Bool.not_true
def iY:=@List.flatten_cons
def iZ:=@bne_self_eq_false
def i0:=@List.getElem?_set
def i3:=@Nat.lt_succ_of_lt
def mJ:=@PySem.wpAny_typeNameOfWhole_keyiter
def i4:=@PySem.tupleKind_room_in1
def g6:=@PySem.wpAny_passesOwn
def g7:=@PySem.PassesOwn.never
def mK:=@Array.getElem?_eq_none_iff
def fX:=@Nat.le_of_lt
def i5:=@List.ext_getElem
def i6:=@List.drop_length
def i7:=@Nat.lt_succ_self
def i8:=@List.mem_flatMap
def i9:=@List.length_set
def fY:=@PySem.F.called_set
def mL:=@List.getElem?_replicate
def mM:=@PySem.F.plain_list_iadd
def mN:=@List.length_eq_zero_iff
def i_:=@Bool.and_false
def j7:=@Array.toList_push
def mO:=@PySem.wpAny_typeNameOf_keyiter
def j8:=@List.pairwise_map
def j9:=@PySem.wpAny_setField_rec
def mP:=@List.length_replicate
def fZ:=@Nat.mod_lt
def j_:=@List.any_eq_true
def ka:=@PySem.W.kat_cons
def qN:=@List.Nodup.length_le_of_subset
def ja:=@List.any_cons
def mQ:=@PySem.W.hideAll_none
def g8:=@PySem.codeAny_mono
def jb:=@PySem.wpAny_fieldsOf
def kb:=@PySem.F.slot_tuple_hash
def kc:=@List.nil_append
def mR:=@PySem.W.hideAll_get
def mS:=@PySem.builtinLookup_eq_fast
def ke:=@PySem.wpAny_isInstance
def jc:=@Nat.succ_pos
def jd:=@PySem.wpAny_newList
def mT:=@PySem.wpAny_loadName_local
def g9:=@beq_iff_eq
def mU:=@List.getElem?_take
def kf:=@PySem.W.kat_no
def qO:=@PySem.F.slot_dict_getitem
def qP:=@List.pairwise_iff_getElem
def kg:=@PySem.wpAny_specialOf
def mV:=@List.reverse_cons
def mW:=@Nat.lt_succ_of_le
def qQ:=@Option.isSome_iff_exists
def qR:=@PySem.F.args_tuple_add_2
def kh:=@Bool.true_and
def kn:=@Int.lt_irrefl
def g_:=@PySem.wpAny_Name
def mX:=@PySem.Calls.spliced_cons
def mY:=@PySem.wpAny_Call_Name_kw
def qS:=@PySem.F.entry_tuple_add
def hJ:=@PySem.call_meets
def mZ:=@PySem.wpAny_pyIter_tuple
def hW:=@PySem.wpAny_rule
def ko:=@PySem.wpAny_seqItems
def je:=@PyProof.Rows.listUpdate_at
def qT:=@PySem.F.slot_tuple_add
def kq:=@Nat.lt_trans
def qU:=@List.take_of_length_le
def kr:=@Nat.sub_zero
def qV:=@PySem.F.slot_tuple_getattribute
def kx:=@Nat.zero_add
def kz:=@List.any_map
def qW:=@List.filter_eq_nil_iff
def m4:=@PySem.wpAny_truthy_bool
def jf:=@PySem.wpAny_field
def m5:=@PySem.wpAny_pyIter_list
def m6:=@Bool.eq_iff_iff
def qX:=@PySem.F.slot_list_append
def kA:=@PySem.wpAny_attempt
def qY:=@PySem.F.slot_list_getattribute
def m7:=@PySem.wpAny_eqBool_int
def kB:=@Nat.le_succ
def f_:=@if_true
def qZ:=@List.length_reverse
def q_:=@PySem.SetTable.insertAt_perm
def ra:=@List.Perm.nodup_iff
def m8:=@PySem.wpAny_execs_nil
def m9:=@Bool.or_false
def m_:=@Bool.false_or
def nc:=@PySem.typeLookup_type
def rb:=@PySem.W.of_hideAll
def rf:=@List.zip_cons_cons
def rg:=@PySem.wpAny_isOneOf_keyiter
def rh:=@Int.emod_lt_of_pos
def rj:=@List.map_mergeSort
def wO:=@List.findIdx?_eq_some_iff_getElem
def rl:=@PySem.Heap.get?_none_of_le
def rm:=@List.take_sublist
def ng:=@Bool.true_or
def nh:=@List.map_nil
def rn:=@Option.isSome_map
def rq:=@List.foldl_append
def rA:=@PyProof.Rows.F.plain_set_update_loop
def rB:=@PySem.wpAny_loadName_cell
def rD:=@List.length_drop
def rE:=@Nat.le_of_not_lt
def rG:=@Option.getD_some
def rH:=@List.range'_succ
def rJ:=@List.take_length
def rK:=@List.not_mem_nil
def rL:=@PySem.W.kat_kind
def kC:=@PySem.wpAny_load
def rM:=@List.of_mem_zip
def ni:=@PyProof.Rows.get?_update_seq
def rN:=@Int.emod_nonneg
def rO:=@Nat.max_eq_left
def rP:=@Bool.or_eq_true
def rQ:=@PySem.W.kat_one
def nk:=@PyProof.Rows.entry_list_sort
def rR:=@List.filter_nil
def wQ:=@PyProof.Rows.callWith_type1
def wR:=@PySem.F.plain_proto_collect
def rS:=@PySem.Calls.spliced_nil
def kD:=@Prod.ext
def rV:=@PySem.wpAny_sequenceKey
def rX:=@Bool.not_false
def wU:=@List.length_eraseIdx_of_lt
def rY:=@PySem.wpAny_pyIter_slot
def rZ:=@PySem.wpAny_dictEntries
def wV:=@Array.perm_iff_toList_perm
def r6:=@PySem.W.kat_lt
namespace L2
open PySem PySem.Spec PyProof.Rows
abbrev Key:=Sum Int Str
def nq:Key->Value->Bool
 |.inl k,v=>Value.isInt k v
 |.inr x,v=>Value.isStrOf x v
def FX(w:World):Key->Int
 |.inl k=>hashInt k
 |.inr x=>hashStr w x
theorem cL:∀{k:Key} {v:Value},nq k v=true->(∃i t,k=Sum.inl i/\v=Value.int i t)\/(∃x t,k=Sum.inr x/\v=Value.str x t)
 |.inl i,v,h=>by
  obtain⟨t,e⟩:=Value.isInt_shape (k:=i) (v:=v) h;exact .inl ⟨i,t,rfl,e⟩
 |.inr x,v,h=>by
  obtain⟨t,e⟩:=Value.isStrOf_shape (x:=x) (v:=v) h;exact .inr ⟨x,t,rfl,e⟩
theorem BB(i:Int)(t:Tok):nq (.inl i) (.int i t)=true:=by simp[nq,Value.isInt]
theorem BC(x:Str)(t:Tok):nq (.inr x) (.str x t)=true:=by simp[nq,Value.isStrOf]
theorem Jg(a b:Int):decide ((Sum.inl a:Key)=Sum.inl b)=(a==b):=by
 by_cases e:a=b
 ·subst e;simp
 ·have h:¬(Sum.inl a:Key)=Sum.inl b:=fun q=>e (Sum.inl.inj q);rw[aX h];exact(beq_eq_false_iff_ne.mpr e).symm
theorem Jh(a b:Str):decide ((Sum.inr a:Key)=Sum.inr b)=decide (a=b):=by
 by_cases e:a=b
 ·subst e;simp
 ·have h:¬(Sum.inr a:Key)=Sum.inr b:=fun q=>e (Sum.inr.inj q);rw[aX h,aX e]
theorem Ji(a:Int)(b:Str):decide ((Sum.inl a:Key)=Sum.inr b)=false:=aX (fun q=>nomatch q)
theorem Jj(a:Str)(b:Int):decide ((Sum.inr a:Key)=Sum.inl b)=false:=aX (fun q=>nomatch q)
def aR(prog:Program)(w:World):PySem.KeyKind prog w Key where
 is:=nq
 hash:=FX w
 inj:=fun v a b ha hb=>by
  rcases cL ha with⟨i,t,rfl,rfl⟩|⟨x,t,rfl,rfl⟩
  ·rcases cL hb with⟨j,u,rfl,e⟩|⟨y,u,rfl,e⟩
   ·injection e with e1 _;rw[e1]
   ·exact nomatch e
  ·rcases cL hb with⟨j,u,rfl,e⟩|⟨y,u,rfl,e⟩
   ·exact nomatch e
   ·injection e with e1 _;rw[e1]
 byValue:=fun k v h=>by
  rcases cL h with⟨i,t,rfl,rfl⟩|⟨x,t,rfl,rfl⟩<;>rfl
 pyHash:=fun hv h=>by
  rcases cL hv with⟨i,t,rfl,rfl⟩|⟨x,t,rfl,rfl⟩
  ·exact wpAny_pyHash_int h
  ·exact wpAny_pyHash_str h
 eqBool:=fun hu hv h=>by
  rcases cL hu with⟨i,t,rfl,rfl⟩|⟨x,t,rfl,rfl⟩
  ·rcases cL hv with⟨j,u,rfl,rfl⟩|⟨y,u,rfl,rfl⟩
   ·rw[Jg]at h;exact m7 h
   ·rw[Ji]at h;exact SeqAt.EqAt.int_str i t y u _ _ _ _ h
  ·rcases cL hv with⟨j,u,rfl,rfl⟩|⟨y,u,rfl,rfl⟩
   ·rw[Jj]at h;exact SeqAt.EqAt.str_int x t j u _ _ _ _ h
   ·rw[Jh]at h;exact wpAny_eqBool_str h
 «strs»:=fun k x t v h=>by
  rcases cL h with⟨i,u,rfl,e⟩|⟨y,u,rfl,e⟩
  ·exact nomatch e
  ·injection e with e1 _
   subst e1;cases v<;>rfl
theorem wW(prog:Program)(w:World)(i:Int)(t:Tok):(aR prog w).is (.inl i) (.int i t)=true:=BB i t
theorem wX(prog:Program)(w:World)(x:Str)(t:Tok):(aR prog w).is (.inr x) (.str x t)=true:=BC x t
end L2
namespace L2
open PySem PySem.Spec PyProof.Rows
inductive V where
 |dv|bl (b:Bool)|int (i:Int)|str (x:Str)|Jk (b:Array UInt8)|MU (b:UInt64)|ref (a:Addr)|ty (n:String)
 deriving DecidableEq
def RelV:V->Value->Prop
 |.dv,u=>u=Value.none
 |.bl b,u=>u=Value.bool b
 |.int i,u=>∃t,u=Value.int i t
 |.str x,u=>∃t,u=Value.str x t
 |.Jk b,u=>∃t,u=Value.bytes b t
 |.MU b,u=>∃t,u=Value.float b t
 |.ref a,u=>u=Value.ref a
 |.ty n,u=>u=Value.type n
abbrev Vals:List V->List Value->Prop:=Paired RelV
theorem Vals.length {xs:List V}{us:List Value}(r:Vals xs us):xs.length=us.length:=Paired.length r
theorem Vals.get:∀{xs:List V} {us:List Value} {i:Nat} {x:V},Vals xs us->xs[i]?=some x->∃u,us[i]?=some u/\RelV x u
 |_,_,_,_,.nil,e=>by simp at e
 |_,_,0,_,.cons r _,e=>by simp at e;subst e;exact⟨_,rfl,r⟩
 |_,_,i+1,x,.cons _ t,e=>by
  obtain⟨u,h1,h2⟩:=Vals.get (i:=i) (x:=x) t (by simpa using e);exact⟨u,by simpa using h1,h2⟩
theorem Vals.set {x:V}{u:Value}(r:RelV x u):∀{xs:List V} {us:List Value} (i:Nat),Vals xs us->Vals (xs.set i x) (us.set i u)
 |_,_,_,.nil=>.nil
 |_,_,0,.cons _ t=>.cons r t
 |_,_,i+1,.cons q t=>.cons q (Vals.set r i t)
theorem Vals.append:∀{xs ys:List V} {us ws:List Value},Vals xs us->Vals ys ws->Vals (xs++ys) (us++ws)
 |_,_,_,_,.nil,s=>s
 |_,_,_,_,.cons r t,s=>.cons r (Vals.append t s)
theorem Vals.take:∀{xs:List V} {us:List Value} (n:Nat),Vals xs us->Vals (xs.take n) (us.take n)
 |_,_,0,_=>.nil
 |_,_,_+1,.nil=>.nil
 |_,_,n+1,.cons r t=>.cons r (Vals.take n t)
theorem Vals.drop:∀{xs:List V} {us:List Value} (n:Nat),Vals xs us->Vals (xs.drop n) (us.drop n)
 |_,_,0,r=>r
 |_,_,_+1,.nil=>.nil
 |_,_,n+1,.cons _ t=>Vals.drop n t
def pO:Option V->Option Value->Prop
 |some v,some u=>RelV v u
 |none,none=>True
 |_,_=>False
def KV{κ:Type}:List (κ×V)->List (κ×Value)->Prop:=Paired fun(p:κ×V) (q:κ×Value)=>p.1=q.1/\RelV p.2 q.2
def kV:Key->V
 |.inl i=>.int i
 |.inr x=>.str x
inductive HO where
 |lst (xs:List V)
 |tup (xs:List V)
 |dK (ax:List (Key×V))|dT (ax:List (List Key×V))
 |set (S:Int->Bool) (n:Nat)
 |ins (C dx:Addr) (fs:List (Str×V))
 |own (x:Addr)
 |xd (fs:List (Str×V))
 |met (f x:Addr)
 |QX (lo hi:Int)
 |gI (o:Obj) (u:HO)
 |wF (ps:Array Value)
 |ext (φ:Heap->Prop)
abbrev Hp:=Addr->Option HO
def upd(H:Hp)(a:Addr)(o:HO):Hp:=fun b=>if b=a then some o else H b
theorem aH{H:Hp}{a:Addr}{o:HO}:upd H a o a=some o:=by unfold upd;rw[ab rfl]
theorem au{H:Hp}{a b:Addr}{o:HO}(h:b≠a):upd H a o b=H b:=by unfold upd;rw[ae h]
theorem MV{H:Hp}{a b:Addr}{o u:HO}(h:H a=some o)(h':H b=some u)(d:o≠u):a≠b:=by
 intro e;subst e;rw[h]at h';exact d (Option.some.inj h')
theorem br{H:Hp}{a b:Addr}{o:HO}(h:H a=some o)(h':H b=none):a≠b:=by
 intro e;subst e;rw[h]at h';cases h'
section
variable (P:Program)(w:World)
def iJ(h:Heap)(a:Addr)(items:Array Value):Prop:=∃o,h.get? a=some o/\o.cls=.type "tuple"/\∃n,o.data=.seq items n/\o.dict=none
theorem iJ.tup {h:Heap}{a:Addr}{items:Array Value}(x:iJ h a items):IsTup h a items:=let⟨o,h1,h2,n,h3,_⟩:=x;⟨o,h1,h2,n,h3⟩
theorem iJ.new (h:Heap)(items:Array Value):iJ (h.push {cls:=.type "tuple",data:=.seq items}) h.objs.size items:=⟨_,aQ _ rfl,rfl,_,rfl,rfl⟩
def bY(H:Hp)(h:Heap)(a:Addr):HO->Prop
 |.lst xs=>xs.length<=sizeLine/\∃(aV:List Value) (n:Nat),Vals xs aV/\h.get? a=some {cls:=.type "list",data:=.seq aV.toArray n}
 |.tup xs=>xs.length<=sizeLine/\∃aV:List Value,Vals xs aV/\iJ h a aV.toArray
 |.dK ax=>ax.length<=sizeLine/\(a==sysModules)=false/\∃vs,KV ax vs/\h.DictOf (aR P w) a vs
 |.dT ax=>ax.length<=sizeLine/\(a==sysModules)=false/\∃xs:List (List Key×Addr×Value),
   Paired (fun(p:List Key×V) (q:List Key×Addr×Value)=>p.1=q.1/\H q.2.1=some (.tup (p.1.map kV))/\RelV p.2 q.2.2) ax xs/\
   ∃o es ep,h.get? a=some o/\o.ExactDict/\o.data=.dict es ep/\es.toList=xs.map (entryOfKey (tupleKind (aR P w)))/\(xs.map (·.1)).Nodup
 |.set S n=>h.SetOf (intKind P w) a S n
 |.ins C dx fs=>H dx=some (.own a)/\fs.length<=1000/\dx≠a/\h.get? a=some (PySem.W.instObj C dx)/\
   ∃mA,h.Ns1 dx mA/\(∀f,pO (fs.lookup f) (mA f))/\PySem.Within mA (fs.map (·.1))
 |.own _=>∃o,h.get? a=some o
 |.xd fs=>∃mA,h.Ns1 a mA/\∀f,pO (fs.lookup f) (mA f)
 |.QX lo hi=>∃t u v,h.get? a=some {cls:=.type "range",data:=.fields #[.int lo t,.int hi u,.int 1 v]}
 |.gI o u=>h.get? a=some o/\bY H h a u
 |.wF ps=>∃qs:Array Value,h.get? a=some {cls:=.none,data:=.fields qs}/\TriplesOk qs.toList/\∀pos v,codeAmong pos qs.toList=some v->∃c oc vs q t,v=.ref c/\ps=#[.str q 0]/\H c=some (.own a)/\h.get? c=some oc/\oc.data=.fields vs/\vs[1]?=some (.str q t)
 |.met f x=>h.get? a=some (PySem.W.methodObj (.ref f) (.ref x))
 |.ext φ=>φ h/\(∃o,h.get? a=some o)/\∀h1 h2:Heap,φ h1->(∀o,h1.get? a=some o->h2.get? a=some o)->φ h2
def md(H:Hp)(h:Heap):Prop:=∀a o,H a=some o->bY P w H h a o
end
section
variable {P:Program}{w:World}{H H':Hp}{h h':Heap}{a:Addr}{o:HO}
theorem bY.lt (x:bY P w H h a o):a<h.objs.size:=by
 cases o with
 |lst xs=>obtain⟨_,_,_,_,e⟩:=x;exact az e
 |tup xs=>obtain⟨_,_,_,p⟩:=x;exact p.tup.lt
 |dK ax=>obtain⟨_,_,_,_,o,_,_,e,_⟩:=x;exact az e
 |dT ax=>obtain⟨_,_,_,_,o,_,_,e,_⟩:=x;exact az e
 |set S n=>obtain⟨o,_,_,_,e,_⟩:=x;exact az e
 |ins C dx fs=>obtain⟨_,_,_,e,_⟩:=x;exact az e
 |own y=>obtain⟨_,e⟩:=x;exact az e
 |xd fs=>obtain⟨_,⟨_,_,_,e,_⟩,_⟩:=x;exact az e
 |QX lo hi=>obtain⟨_,_,_,e⟩:=x;exact az e
 |gI ob u=>obtain⟨e,_⟩:=x;exact az e
 |wF ps=>obtain⟨qs,e,_⟩:=x;exact az e
 |met f y=>exact az (show h.get? a=some _ from x)
 |ext φ=>obtain⟨_,⟨_,e⟩,_⟩:=x;exact az e
theorem Paired.Jl {α β:Type}{F G:α->β->Prop}:∀{MW:List α} {MX:List β},Paired F MW MX->(∀a b,F a b->G a b)->Paired G MW MX
 |_,_,.nil,_=>.nil
 |_,_,.cons r t,f=>.cons (f _ _ r) (Paired.Jl t f)
theorem bY.oE (x:bY P w H h a o)(k:∀b u,(b=a\/H b=some (.own a))->h.get? b=some u->h'.get? b=some u)
  (ho:∀b,H b=some (.own a)->H' b=some (.own a)) (ht:∀b xs,H b=some (.tup xs)->H' b=some (.tup xs)):bY P w H' h' a o:=by
 induction o with
 |lst xs=>obtain⟨z,aV,n,r,e⟩:=x;exact⟨z,aV,n,r,k _ _ (.inl rfl) e⟩
 |tup xs=>obtain⟨z,aV,r,ob,e,c⟩:=x;exact⟨z,aV,r,ob,k _ _ (.inl rfl) e,c⟩
 |dK ax=>obtain⟨z,y,vs,r,ob,es,ep,e,c⟩:=x;exact⟨z,y,vs,r,ob,es,ep,k _ _ (.inl rfl) e,c⟩
 |dT ax=>
  obtain⟨z,y,xs,r,ob,es,ep,e,c⟩:=x;exact⟨z,y,xs,Paired.Jl r fun p q z=>⟨z.1,ht _ _ z.2.1,z.2.2⟩,ob,es,ep,k _ _ (.inl rfl) e,c⟩
 |set S n=>obtain⟨ob,es,ep,t,e,c⟩:=x;exact⟨ob,es,ep,t,k _ _ (.inl rfl) e,c⟩
 |ins C dx fs=>
  obtain⟨d,z,ne,e,mA,⟨od,es,ep,e2,c⟩,r⟩:=x;exact⟨ho _ d,z,ne,k _ _ (.inl rfl) e,mA,⟨od,es,ep,k _ _ (.inr d) e2,c⟩,r⟩
 |own y=>obtain⟨ob,e⟩:=x;exact⟨ob,k _ _ (.inl rfl) e⟩
 |xd fs=>obtain⟨mA,⟨od,es,ep,e,c⟩,r⟩:=x;exact⟨mA,⟨od,es,ep,k _ _ (.inl rfl) e,c⟩,r⟩
 |QX lo hi=>obtain⟨t,u,v,e⟩:=x;exact⟨t,u,v,k _ _ (.inl rfl) e⟩
 |gI ob u ih=>obtain⟨e,q⟩:=x;exact⟨k _ _ (.inl rfl) e,ih q⟩
 |wF ps=>
  obtain⟨qs,e,tr,r⟩:=x;exact⟨qs,k _ _ (.inl rfl) e,tr,fun pos v z=>by
   obtain⟨c,oc,vs,q,t,e1,e2,e3,e4,e5⟩:=r pos v z;exact⟨c,oc,vs,q,t,e1,e2,ho _ e3,k _ _ (.inr e3) e4,e5⟩⟩
 |met f y=>
  have e:h.get? a=some (PySem.W.methodObj (.ref f) (.ref y)):=x;show h'.get? a=some (PySem.W.methodObj (.ref f) (.ref y));exact k a _ (.inl rfl) e
 |ext φ=>obtain⟨p,⟨o,e⟩,st⟩:=x;exact⟨st _ _ p fun o q=>k _ _ (.inl rfl) q,⟨o,k _ _ (.inl rfl) e⟩,st⟩
theorem md.lt (x:md P w H h)(e:H a=some o):a<h.objs.size:=(x a o e).lt
theorem md.fresh (x:md P w H h)(e:h.objs.size<=a):H a=none:=by
 cases q:H a with
 |none=>rfl
 |some u=>exact absurd (bQ (x.lt q) e) (du _)
theorem md.kept (x:md P w H h)(k:∀b u,h.get? b=some u->h'.get? b=some u):md P w H h':=fun a o e=>
 (x a o e).oE (fun b u _ q=>k b u q) (fun _ q=>q) fun _ _ q=>q
theorem md.laid (x:md P w H h)(k:∀b u,h.get? b=some u->h'.get? b=some u)(hp:h.objs.size<=a)(new:bY P w (upd H a o) h' a o):md P w (upd H a o) h':=fun b u e=>by
 have hn:=x.fresh hp;by_cases hb:b=a
 ·subst hb;rw[aH]at e;cases e;exact new
 ·rw[au hb]at e;exact(x b u e).oE (fun c v _ q=>k c v q) (fun c q=>by rw[au (br q hn)];exact q) fun c xs q=>by rw[au (br q hn)];exact q
end
def Rd(H:Hp)(a:Addr)(u:HO):Prop:=H a=some u\/∃o,H a=some (.gI o u)
theorem Rd.ok {P:Program}{w:World}{H:Hp}{h:Heap}{a:Addr}{u:HO}(r:Rd H a u)(x:md P w H h):bY P w H h a u:=by
 rcases r with r|⟨o,r⟩
 ·exact x a u r
 ·obtain⟨_,q⟩:=x a _ r;exact q
def MY:Option HO->Prop
 |some (.lst _)=>True
 |some (.dK _)=>True
 |some (.dT _)=>True
 |some (.set _ _)=>True
 |some (.ins _ _ _)=>True
 |some (.ext _)=>True
 |_=>False
section
variable {P:Program}{w:World}{H:Hp}{h h':Heap}{x e:Addr}{o':HO}
theorem md.write (ok:md P w H h)(mu:MY (H x))(he:e=x\/H e=some (.own x))(k:∀b u,b≠e->h.get? b=some u->h'.get? b=some u)(Mo:∃u,h'.get? e=some u)
  (new:bY P w (upd H x o') h' x o'):md P w (upd H x o') h':=fun b u q=>by
 have MZ:∀c y,H c=some (.own y)->c≠x:=fun c y r z=>by subst z;rw[r]at mu;exact mu
 have R4:∀c xs,H c=some (.tup xs)->c≠x:=fun c xs r z=>by subst z;rw[r]at mu;exact mu
 by_cases hb:b=x
 ·subst hb;rw[aH]at q;cases q;exact new
 ·rw[au hb]at q;by_cases Jm:b=e
  ·have q':H b=some (.own x):=by
    rcases he with z|z
    ·exact absurd (Jm.trans z) hb
    ·rw[Jm];exact z
   rw[q]at q';cases q';obtain⟨v,hv⟩:=Mo;exact⟨v,by rw[Jm];exact hv⟩
  ·refine(ok b u q).oE (fun c v hc r=>k c v ?_ r) (fun c r=>by rw[au (MZ c b r)];exact r) fun c xs r=>by rw[au (R4 c xs r)];exact r
   rcases hc with rfl|hc
   ·exact Jm
   ·rintro rfl
    rcases he with z|z
    ·exact MZ c b hc z
    ·rw[hc]at z;cases z;exact hb rfl
end
structure Un(fs ex:List Addr)(H H':Hp)(h h':Heap):Prop where
 keep:∀b o,h.get? b=some o->H b=none->b∉fs->b∉ex->h'.get? b=some o
 slot:∀b o,h.get? b=some o->H b=none->b∈fs->b∉ex->∃sl,h'.get? b=some {o with slots:=sl}
 free:∀b o,h.get? b=some o->H b=none->b∉ex->H' b=none
 there:∀b o,h.get? b=some o->b∉ex->∃o',h'.get? b=some o'
 lQ:∀b xs,H b=some (.tup xs)->H' b=some (.tup xs)
 jZ:∀b o u,H b=some (.gI o u)->H' b=some (.gI o u)
 kE:∀b ps,H b=some (.wF ps)->∃more,H' b=some (.wF (ps++more))
section
variable {fs R5 ex Zi:List Addr}{H H1 H2:Hp}{h h1 h2 h':Heap}{a x e:Addr}{o:HO}
theorem Un.any (u:Un fs ex H H1 h h1){b:Addr}{ob:Obj}(q:h.get? b=some ob)(n:H b=none)(hx:b∉ex):∃sl,h1.get? b=some {ob with slots:=sl}:=by
 by_cases hb:b∈fs
 ·exact u.slot b ob q n hb hx
 ·exact⟨ob.slots,u.keep b ob q n hb hx⟩
theorem Un.trans (a:Un fs ex H H1 h h1)(b:Un fs ex H1 H2 h1 h2):Un fs ex H H2 h h2 where
 keep:=fun c ob q n hc hx=>b.keep c ob (a.keep c ob q n hc hx) (a.free c ob q n hx) hc hx
 slot:=fun c ob q n hc hx=>by
  obtain⟨sl,e1⟩:=a.slot c ob q n hc hx;obtain⟨R6,e2⟩:=b.slot c _ e1 (a.free c ob q n hx) hc hx;exact⟨R6,e2⟩
 free:=fun c ob q n hx=>by
  obtain⟨o',e1⟩:=a.there c ob q hx;exact b.free c o' e1 (a.free c ob q n hx) hx
 there:=fun c ob q hx=>by
  obtain⟨o',e1⟩:=a.there c ob q hx;exact b.there c o' e1 hx
 lQ:=fun c xs q=>b.lQ c xs (a.lQ c xs q)
 jZ:=fun c ob xs q=>b.jZ c ob xs (a.jZ c ob xs q)
 kE:=fun c ps q=>by
  obtain⟨m1,e1⟩:=a.kE c ps q;obtain⟨m2,e2⟩:=b.kE c _ e1;exact⟨m1++m2,by rw[e2,Array.append_assoc]⟩
theorem Un.kept (k:∀b u,h.get? b=some u->h'.get? b=some u):Un fs ex H H h h':=
 ⟨fun b ob q _ _ _=>k b ob q,fun b ob q _ _ _=>⟨ob.slots,k b ob q⟩,fun _ _ _ n _=>n,fun b ob q _=>⟨ob,k b ob q⟩,fun _ _ q=>q,fun _ _ _ q=>q,fun _ ps q=>⟨#[],by rw[q];simp⟩⟩
theorem Un.refl:Un fs ex H H h h:=Un.kept fun _ _ q=>q
theorem Un.laid (k:∀b u,h.get? b=some u->h'.get? b=some u)(hp:h.objs.size<=a)(hn:H a=none):Un fs ex H (upd H a o) h h' where
 keep:=fun b u q _ _ _=>k b u q
 slot:=fun b u q _ _ _=>⟨u.slots,k b u q⟩
 free:=fun b u q n _=>by rw[au (bo (bQ (az q) hp))];exact n
 there:=fun b u q _=>⟨u,k b u q⟩
 lQ:=fun b xs q=>by rw[au (br q hn)];exact q
 jZ:=fun b u xs q=>by rw[au (br q hn)];exact q
 kE:=fun b ps q=>⟨#[],by rw[au (br q hn),q];simp⟩
theorem Un.write (mu:MY (H x))(he:e=x\/H e=some (.own x))(k:∀b u,b≠e->h.get? b=some u->h'.get? b=some u)(Mo:∃u,h'.get? e=some u):Un fs ex H (upd H x o) h h':=by
 have hx:∀b,H b=none->b≠x:=fun b n z=>by subst z;rw[n]at mu;exact mu
 have hb:∀b,H b=none->b≠e:=fun b n z=>by
  subst z;rcases he with r|r
  ·exact hx b n r
  ·rw[n]at r;cases r
 have hm:∀b u,H b=some u->¬MY (some u)->b≠x:=fun b u q nm z=>by subst z;rw[q]at mu;exact nm mu
 refine⟨fun b u q n _ _=>k b u (hb b n) q,fun b u q n _ _=>⟨u.slots,k b u (hb b n) q⟩,fun b u q n _=>by rw[au (hx b n)];exact n,fun b u q _=>?_,
  fun b xs q=>by rw[au (hm b _ q fun z=>z)];exact q,fun b u xs q=>by rw[au (hm b _ q fun z=>z)];exact q,fun b ps q=>⟨#[],by rw[au (hm b _ q fun z=>z),q];simp⟩⟩
 by_cases Jm:b=e
 ·subst Jm;exact Mo
 ·exact⟨u,k b u Jm q⟩
end
def QY(h:Heap)(H:Hp):List Addr:=(List.range h.objs.size).filter fun a=>(H a).isSome
def vm(h:Heap)(H:Hp):Heap:=PySem.W.hideAll h (QY h H)
theorem BD(h:Heap)(H:Hp):(vm h H).objs.size=h.objs.size:=PySem.W.hideAll_size _ _
theorem C0{h:Heap}{H:Hp}{b:Addr}{o:Obj}(e:h.get? b=some o)(n:H b=none):(vm h H).get? b=some o:=
 mR _ e fun hm=>by
  have q:(H b).isSome=true:=(cC.mp hm).2;rw[n]at q;simp at q
theorem FY{h:Heap}{H:Hp}{b:Addr}{o:Obj}(e:(vm h H).get? b=some o):h.get? b=some o/\H b=none:=by
 have e':h.get? b=some o:=rb (QY h H) e;refine⟨e',?_⟩;cases q:H b with
 |none=>rfl
 |some x=>
  have hm:b∈QY h H:=cC.mpr ⟨cI.mpr (az e'),by simp[q]⟩;have z:(vm h H).get? b=none:=mQ (QY h H) hm;rw[z]at e;cases e
end L2
namespace L2
open PySem PySem.Spec PyProof.Rows
structure Mod(K:PySem.W.Frag)(mg:Str->Option Value)(base:Heap):Prop where
 QZ:K.In base
 glob:base.Ns mainGlobals mg
 blt:∃mb,base.Ns builtinsNs mb/\∀x:Str,x≠"__name__"->mb x=bootBuiltins x
 nolimit:base.NoLimit
 bm:∃bm ob,mg "__builtins__"=some (.ref bm)/\bm≠builtinsNs/\bm≠mainGlobals/\base.get? bm=some ob/\ob.cls=.type "module"/\ob.dict=some builtinsNs/\ob.data=.plain
structure Cx where
 prog:Program
 w:World
 K:PySem.W.Frag
 mg:Str->Option Value
 base:Heap
 A:Around
 N:List Str
 fj:Shared
 wY:Hp
 env:Env
 outer:List Env
 stack:List Env
 ex:List Addr
 fn:Str->Bool
 calm:Bool
 pn:List (Addr×Obj)
 xe:Value->Shared->Prop
def nr(l:List Env):List Addr:=l.filterMap (·.frame)
abbrev Cx.fs (X:Cx):List Addr:=nr X.outer
def Jn(sc:Scope)(x:Str):Prop:=sc.names.lookup x=some .local\/sc.names.lookup x=some .cell\/sc.names.lookup x=some .free
def Loc(sc:Scope)(x:Str):Prop:=sc.names.lookup x=some .local\/sc.names.lookup x=some .cell
def Look(env:Env)(h:Heap)(m:Str->Option Value)(x:Str)(u:Value):Prop:=
 (env.kindOf x=some .local/\m x=some u)\/((env.kindOf x=some .cell\/env.kindOf x=some .free)/\∃c,env.cells.lookup x=some c/\h.IsCell c (some u))
structure Cx.Ok (X:Cx):Prop where
 mod:Mod X.K X.mg X.base
 kind:X.env.scope.kind=.function
 glob:X.env.globals=mainGlobals
 blt:X.env.builtins=builtinsNs
 above:X.fj.heap.objs.size<=X.env.locals
 inj:∀x y c,X.env.cells.lookup x=some c->X.env.cells.lookup y=some c->x=y
 has:∀x,(X.env.kindOf x=some .cell\/X.env.kindOf x=some .free)->∃c,X.env.cells.lookup x=some c
 M0:∀x c,X.fn x=true->X.env.cells.lookup x=some c->X.fj.heap.objs.size<=c
 hd:X.calm=true->X.A.handled=none
 frames:X.A.frames=some X.stack
 Mp:X.stack=X.outer\/(X.stack=X.env::X.outer/\X.env.frame=some X.env.locals)
 R7:∀b∈X.ex,b≠X.env.locals/\∀x c,X.env.cells.lookup x=some c->c≠b
 bs:∀b o,X.base.get? b=some o->X.fj.heap.get? b=some o/\X.wY b=none
 HX:X.base.objs.size<=X.fj.heap.objs.size
 C1:∀b o,X.base.get? b=some o->b∉X.ex
 C2:∀b∈X.ex,b∉X.fs
 r8:X.fj.heap.FunFrames X.base X.outer
 Mq:∀b∈X.fs,X.wY b=none
structure Inv(X:Cx)(pins:List (Addr×Obj))(σ:List (Option V))(H:Hp)(s:Shared):Prop where
 ok:X.Ok
 os:s.os=X.fj.os
 bare:AllBare s.gens
 base:Un X.fs X.ex X.wY H X.fj.heap s.heap
 loc:∃m,s.heap.Ns X.env.locals m/\∀(i:Nat) (x:Str) (v:V),X.N[i]?=some x->σ[i]?=some (some v)->Jn X.env.scope x->∃u,RelV v u/\Look X.env s.heap m x u
 cell:∀x c,X.env.cells.lookup x=some c->∃v,s.heap.IsCell c v
 free:H X.env.locals=none
 gy:∀x c,X.env.cells.lookup x=some c->H c=none
 pin:∀p∈X.pn++pins,s.heap.get? p.1=some p.2/\H p.1=none/\p.1≠X.env.locals/\p.1∉X.fs/\∀v,p.2.data≠ .cell v
 bV:md X.prog X.w H s.heap
 len:σ.length=X.N.length
section
variable {X:Cx}{pins:List (Addr×Obj)}{σ:List (Option V)}{H H':Hp}{s:Shared}{h':Heap}
theorem Cx.Ok.R8 (ok:X.Ok){b:Addr}{o:Obj}(e:X.base.get? b=some o):b∉X.fs:=fun hb=>by
 have:=(ok.r8.mem hb).1;rw[e]at this;cases this
theorem Inv.bs (I:Inv X pins σ H s):∀b o,X.base.get? b=some o->s.heap.get? b=some o/\H b=none:=fun b o e=>
 ⟨I.base.keep b o (I.ok.bs b o e).1 (I.ok.bs b o e).2 (I.ok.R8 e) (I.ok.C1 b o e),I.base.free b o (I.ok.bs b o e).1 (I.ok.bs b o e).2 (I.ok.C1 b o e)⟩
theorem Inv.bk (I:Inv X pins σ H s):∀b o,X.base.get? b=some o->s.heap.get? b=some o:=fun b o e=>(I.bs b o e).1
theorem Inv.mod (I:Inv X pins σ H s):Mod X.K X.mg X.base:=I.ok.mod
theorem Inv.Mr (I:Inv X pins σ H s):X.K.In s.heap:=I.ok.mod.QZ.keeps I.bk
theorem Inv.nolimit (I:Inv X pins σ H s):s.heap.NoLimit:=I.ok.mod.nolimit.keeps I.bk
theorem Inv.fr (I:Inv X pins σ H s):∃m,Fr X.base X.env.locals s.heap m:=
 let⟨m,hn,_⟩:=I.loc
 ⟨m,hn,I.bk,aZ I.ok.HX I.ok.above⟩
theorem Inv.lt (I:Inv X pins σ H s):X.env.locals<s.heap.objs.size:=let⟨_,hn,_⟩:=I.loc;hn.lt
theorem Inv.sz (I:Inv X pins σ H s):X.fj.heap.objs.size<=s.heap.objs.size:=aZ I.ok.above (fX I.lt)
theorem Inv.R9 (I:Inv X pins σ H s){a:Addr}(h:s.heap.objs.size<=a):a∉X.fs:=fun hb=>by
 obtain⟨_,o,ho,_⟩:=I.ok.r8.mem hb;exact absurd (bQ (az ho) (aZ I.sz h)) (du _)
theorem Inv.C3 (I:Inv X pins σ H s):∀x c,X.env.cells.lookup x=some c->c≠X.env.locals:=fun x c e z=>by
 obtain⟨v,o,ho,hd⟩:=I.cell x c e;obtain⟨m,⟨o',es,ep,wZ,C4,_⟩,_⟩:=I.loc;rw[z,wZ]at ho;cases ho;rw[C4]at hd;cases hd
theorem Inv.r8 (I:Inv X pins σ H s):s.heap.FunFrames X.base X.outer:=by
 have all:∀(l:List Env),(∀b∈nr l,b∈X.fs)->X.fj.heap.FunFrames X.base l->s.heap.FunFrames X.base l:=by
  intro l
  induction l with
  |nil=>intro _ _;trivial
  |cons env r ih=>
   intro hs hl;obtain⟨hk,⟨L,o,hf,hn,ho,hd⟩,hr⟩:=hl;have hL:L∈X.fs:=hs L (by unfold nr;rw[iw,hf];exact aP);obtain⟨sl,e⟩:=I.base.slot L o ho (I.ok.Mq L hL) hL fun z=>I.ok.C2 L z hL;exact⟨hk,⟨L,_,hf,hn,e,hd⟩,ih (fun b hb=>hs b (by unfold nr;rw[iw,hf];exact aO _ hb)) hr⟩
 exact all X.outer (fun _ hb=>hb) I.ok.r8
theorem Inv.stack (I:Inv X pins σ H s):s.heap.FunFrames X.base X.stack:=by
 rcases I.ok.Mp with e|⟨e,hf⟩
 ·rw[e];exact I.r8
 ·rw[e];obtain⟨m,hn,_⟩:=I.loc;refine .cons (by rw[I.ok.kind];decide) hf hn ?_ I.r8
  exact rl (aZ I.ok.HX I.ok.above)
theorem Inv.yM (I:Inv X pins σ H s):∀b∈nr X.stack,b∈X.env.locals::X.fs:=fun b hb=>by
 rcases I.ok.Mp with e|⟨e,hf⟩
 ·rw[e]at hb;exact aO _ hb
 ·rw[e]at hb;unfold nr at hb;rw[iw,hf]at hb;exact hb
theorem Inv.vn (I:Inv X pins σ H s):∀b∈nr X.stack,H b=none:=fun b hb=>by
 rcases a8.mp (I.yM b hb)with e|hb
 ·rw[e];exact I.free
 ·obtain⟨_,o,ho,_⟩:=I.ok.r8.mem hb;exact I.base.free b o ho (I.ok.Mq b hb) fun z=>I.ok.C2 b z hb
theorem Inv.step {g':Array GenState}{t':Nat}{d':Drawn}{ch:List Addr}(I:Inv X pins σ H s)
  (CM:∀b∈ch,(b∈X.ex\/X.fj.heap.objs.size<=b)/\b≠X.env.locals/\(∀x c,X.env.cells.lookup x=some c->c≠b)/\∀p∈X.pn++pins,p.1≠b)
  (keep:∀b o,b≠X.env.locals->b∉X.fs->b∉ch->s.heap.get? b=some o->H b=none->h'.get? b=some o)
  (slot:∀b o,b≠X.env.locals->b∈X.fs->b∉ch->s.heap.get? b=some o->H b=none->∃sl,h'.get? b=some {o with slots:=sl}) (free:∀b o,b∉ch->s.heap.get? b=some o->H b=none->H' b=none)
  (there:∀b o,b∉ch->s.heap.get? b=some o->∃o',h'.get? b=some o')
  (lQ:∀b xs,H b=some (.tup xs)->H' b=some (.tup xs)) (jZ:∀b o u,H b=some (.gI o u)->H' b=some (.gI o u)) (kE:∀b ps,H b=some (.wF ps)->∃more,H' b=some (.wF (ps++more)))
  (ns:∀m,s.heap.Ns X.env.locals m->h'.Ns X.env.locals m) (bV:md X.prog X.w H' h') (hg:AllBare g'):
  Inv X pins σ H' {s with heap:=h',gens:=g',drawn:=d',toks:=t'}:=by
 have Vs:∀b o,X.fj.heap.get? b=some o->b≠X.env.locals:=fun b o e=>bo (bQ (az e) I.ok.above);have j5:∀b o,X.fj.heap.get? b=some o->b∉X.ex->b∉ch:=fun b o e hx hb=>by
  rcases(CM b hb).1 with z|z
  ·exact hx z
  ·exact absurd (bQ (az e) z) (du _)
 have cellK:∀x c,X.env.cells.lookup x=some c->∀v,s.heap.IsCell c v->h'.IsCell c v:=fun x c e v ⟨o,ho,hd⟩=>by
  have M1:c∉ch:=fun z=>(CM c z).2.2.1 x c e rfl;by_cases hc:c∈X.fs
  ·obtain⟨sl,q⟩:=slot c o (I.C3 x c e) hc M1 ho (I.gy x c e);exact⟨_,q,hd⟩
  ·exact⟨o,keep c o (I.C3 x c e) hc M1 ho (I.gy x c e),hd⟩
 refine⟨I.ok,I.os,hg,⟨fun b o e n hb hx=>?_,fun b o e n hb hx=>?_,fun b o e n hx=>?_,fun b o e hx=>?_,fun b xs e=>lQ b xs (I.base.lQ b xs e),fun b o xs e=>jZ b o xs (I.base.jZ b o xs e),fun b ps e=>?_⟩,?_,fun x c e=>?_,?_,fun x c e=>?_,fun p hp=>?_,bV,I.len⟩
 ·exact keep b o (Vs b o e) hb (j5 b o e hx) (I.base.keep b o e n hb hx) (I.base.free b o e n hx)
 ·obtain⟨sl,e1⟩:=I.base.slot b o e n hb hx;obtain⟨R6,e2⟩:=slot b _ (Vs b o e) hb (j5 b o e hx) e1 (I.base.free b o e n hx);exact⟨R6,e2⟩
 ·obtain⟨o',e1⟩:=I.base.there b o e hx;exact free b o' (j5 b o e hx) e1 (I.base.free b o e n hx)
 ·obtain⟨o',e1⟩:=I.base.there b o e hx;exact there b o' (j5 b o e hx) e1
 ·obtain⟨m1,e1⟩:=I.base.kE b ps e;obtain⟨m2,e2⟩:=kE b _ e1;exact⟨m1++m2,by rw[e2,Array.append_assoc]⟩
 ·obtain⟨m,hn,hl⟩:=I.loc;refine⟨m,ns m hn,fun i x v e1 e2 e3=>?_⟩;obtain⟨u,r,l⟩:=hl i x v e1 e2 e3;refine⟨u,r,?_⟩;rcases l with l|⟨k,c,e,z⟩
  ·exact .inl l
  ·exact .inr ⟨k,c,e,cellK x c e _ z⟩
 ·obtain⟨v,z⟩:=I.cell x c e;exact⟨v,cellK x c e v z⟩
 ·obtain⟨m,⟨o,_,_,ho,_⟩,_⟩:=I.loc;exact free _ o (fun z=>(CM _ z).2.1 rfl) ho I.free
 ·obtain⟨v,o,ho,hd⟩:=I.cell x c e;exact free c o (fun z=>(CM c z).2.2.1 x c e rfl) ho (I.gy x c e)
 ·obtain⟨e,n,ne,nf,d⟩:=I.pin p hp;have M1:p.1∉ch:=fun z=>(CM p.1 z).2.2.2 p hp rfl;exact⟨keep p.1 p.2 ne nf M1 e n,free p.1 p.2 M1 e n,ne,nf,d⟩
theorem Inv.un {t':Nat}(I:Inv X pins σ H s)(u:Un X.fs [] H H' s.heap h')(bV:md X.prog X.w H' h'):Inv X pins σ H' {s with heap:=h',toks:=t'}:=by
 obtain⟨m,⟨o,es,ep,ho,r⟩,_⟩:=id I.loc;obtain⟨sl,hL⟩:=u.any ho I.free (by simp);exact I.step (g':=s.gens) (d':=s.drawn) (ch:=[]) (fun _ z=>nomatch z) (fun b o _ hb _ e n=>u.keep b o e n hb (by simp)) (fun b o _ hb _ e n=>u.slot b o e n hb (by simp)) (fun b o _ e n=>u.free b o e n (by simp)) (fun b o _ e=>u.there b o e (by simp)) u.lQ u.jZ u.kE (fun m' hm=>by
  obtain⟨o',Jo,vo,wZ,r'⟩:=hm;rw[ho]at wZ;cases wZ;exact⟨_,Jo,vo,hL,r'⟩) bV I.bare
theorem Inv.call {g':Array GenState}{t':Nat}{d':Drawn}{ch:List Addr}(I:Inv X pins σ H s)(u:Un (nr X.stack) ch H H' s.heap h')(bV:md X.prog X.w H' h')(hg:AllBare g')
  (CM:∀b∈ch,(b∈X.ex\/X.fj.heap.objs.size<=b)/\b≠X.env.locals/\(∀x c,X.env.cells.lookup x=some c->c≠b)/\∀p∈X.pn++pins,p.1≠b):
  Inv X pins σ H' {s with heap:=h',gens:=g',drawn:=d',toks:=t'}:=by
 obtain⟨m,⟨o,es,ep,ho,r⟩,_⟩:=id I.loc;obtain⟨sl,hL⟩:=u.any ho I.free fun z=>(CM _ z).2.1 rfl;exact I.step (ch:=ch) CM (fun b o hL hb hc e n=>u.keep b o e n (fun z=>(a8.mp (I.yM b z)).elim hL hb) hc) (fun b o _ _ hc e n=>u.any e n hc) (fun b o hc e n=>u.free b o e n hc) (fun b o hc e=>u.there b o e hc) u.lQ u.jZ u.kE (fun m' hm=>by
  obtain⟨o',Jo,vo,wZ,r'⟩:=hm;rw[ho]at wZ;cases wZ;exact⟨_,Jo,vo,hL,r'⟩) bV hg
theorem Inv.turned {t':Nat}{it:Addr}(I:Inv X pins σ H s)(k:∀b o,b≠it->s.heap.get? b=some o->h'.get? b=some o)(hn:H it=none)(hL:it≠X.env.locals)
  (h1:it∈X.ex\/X.fj.heap.objs.size<=it) (h2:∀x c,X.env.cells.lookup x=some c->c≠it) (h3:∀p∈X.pn++pins,p.1≠it):Inv X pins σ H {s with heap:=h',toks:=t'}:=by
 have Vt:∀b u,H b=some u->b≠it:=fun b u e z=>by rw[z,hn]at e;cases e
 refine I.step (g':=s.gens) (d':=s.drawn) (ch:=[it]) (fun b hb=>?_) (fun b o _ _ hc e _=>k b o (fun z=>hc (by simp[z])) e) (fun b o _ _ hc e _=>⟨o.slots,k b o (fun z=>hc (by simp[z])) e⟩) (fun _ _ _ _ n=>n)
  (fun b o hc e=>⟨o,k b o (fun z=>hc (by simp[z])) e⟩) (fun _ _ e=>e) (fun _ _ _ e=>e) (fun b ps e=>⟨#[],by rw[e];simp⟩) (fun m hm=>?_) (fun b u e=>?_) I.bare
 ·have e:b=it:=by simpa using hb
  subst e;exact⟨h1,hL,h2,h3⟩
 ·obtain⟨o,es,ep,ho,r⟩:=hm;exact⟨o,es,ep,k _ o (cv hL) ho,r⟩
 ·refine(I.bV b u e).oE (fun c v hc q=>k c v ?_ q) (fun _ q=>q) fun _ _ q=>q;rcases hc with z|z
  ·rw[z];exact Vt b u e
  ·exact Vt c _ z
theorem Inv.tok (I:Inv X pins σ H s)(t:Nat):Inv X pins σ H {s with toks:=t}:=I.un (h':=s.heap) (t':=t) Un.refl I.bV
theorem Inv.kept {t':Nat}(I:Inv X pins σ H s)(k:∀b u,s.heap.get? b=some u->h'.get? b=some u):Inv X pins σ H {s with heap:=h',toks:=t'}:=I.un (Un.kept k) (I.bV.kept k)
theorem Inv.laid {a:Addr}{o:HO}{t':Nat}(I:Inv X pins σ H s)(k:∀b u,s.heap.get? b=some u->h'.get? b=some u)(hp:s.heap.objs.size<=a)(new:bY X.prog X.w (upd H a o) h' a o):
  Inv X pins σ (upd H a o) {s with heap:=h',toks:=t'}:=I.un (Un.laid k hp (I.bV.fresh hp)) (I.bV.laid k hp new)
theorem Inv.write {x e:Addr}{o:HO}{t':Nat}(I:Inv X pins σ H s)(mu:MY (H x))(he:e=x\/H e=some (.own x))(k:∀b u,b≠e->s.heap.get? b=some u->h'.get? b=some u)(Mo:∃u,h'.get? e=some u)
  (new:bY X.prog X.w (upd H x o) h' x o):Inv X pins σ (upd H x o) {s with heap:=h',toks:=t'}:=I.un (Un.write mu he k Mo) (I.bV.write mu he k Mo new)
theorem Inv.zX {HY:List (Addr×Obj)}(I:Inv X pins σ H s)(h:∀p∈HY,s.heap.get? p.1=some p.2/\H p.1=none/\p.1≠X.env.locals/\p.1∉X.fs/\∀v,p.2.data≠ .cell v):Inv X HY σ H s:=
 ⟨I.ok,I.os,I.bare,I.base,I.loc,I.cell,I.free,I.gy,fun p hp=>(bF.mp hp).elim (fun z=>I.pin p (dU _ z)) (h p),I.bV,I.len⟩
theorem w4{N:List Str}(hN:N.Nodup){i j:Nat}{x:Str}(a:N[i]?=some x)(b:N[j]?=some x):i=j:=by
 obtain⟨h1,e1⟩:=cb.mp a;obtain⟨h2,e2⟩:=cb.mp b;exact(gW hN).mp (e1.trans e2.symm)
theorem uu{M:Model}{A:Around}{E:Value->Shared->Prop}{i:Nat}{x:Str}{v:V}{u:Value}{Q:Unit->Shared->Prop}(I:Inv X pins σ H s)(hN:X.N.Nodup)(hi:X.N[i]?=some x)(hx:Loc X.env.scope x)(r:RelV v u)
  (h:∀s',Inv X pins (σ.set i (some v)) H s'->(∃a,Heap.SameBut a s.heap s'.heap/\(a=X.env.locals\/X.env.cells.lookup x=some a))->Q () s') (hf:X.fn x=true\/X.env.scope.names.lookup x=some .local:=by first|exact .inl rfl|exact .inr rfl|assumption):wpAny M A (storeName X.env x u) Q E s:=by
 obtain⟨m,hn,hl⟩:=id I.loc;have F1:(X.env.scope.kind== .class||(X.env.scope.kind== .module&&X.env.locals !=X.env.globals))=false:=by rw[I.ok.kind];rfl
 have M3:i<σ.length:=by rw[I.len];exact(cb.mp hi).1
 have C3:=I.C3;have tracked:∀{a:Addr} {h':Heap},(∃o,s.heap.get? a=some o/\H a=none)->Heap.SameBut a s.heap h'->md X.prog X.w H h':=fun{a h'} ha hs b ob e=>by
  obtain⟨_,_,zY⟩:=ha;refine(I.bV b ob e).oE (fun c w' hc q=>(hs.2 c ?_).trans q) (fun _ q=>q) fun _ _ q=>q
  rintro rfl
  rcases hc with rfl|hc
  ·rw[zY]at e;cases e
  ·rw[zY]at hc;cases hc
 rcases hx with hk|hk
 ·refine wpAny_storeName_local hk hn (fun h' HZ hs=>?_) F1;obtain⟨oL,_,_,zZ,_⟩:=id hn;refine h _ ⟨I.ok,I.os,I.bare,⟨fun b o e n hb hx=>?_,fun b o e n hb hx=>?_,I.base.free,fun b o e hx=>?_,I.base.lQ,I.base.jZ,I.base.kE⟩,⟨_,HZ,fun j y v' e1 e2 e3=>?_⟩,fun y c e=>?_,I.free,I.gy,fun p hp=>?_,tracked ⟨oL,zZ,I.free⟩ hs,by simpa using I.len⟩ ⟨_,hs,.inl rfl⟩
  ·exact(hs.2 b (bo (bQ (az e) I.ok.above))).trans (I.base.keep b o e n hb hx)
  ·obtain⟨sl,e1⟩:=I.base.slot b o e n hb hx;exact⟨sl,(hs.2 b (bo (bQ (az e) I.ok.above))).trans e1⟩
  ·obtain⟨o',e1⟩:=I.base.there b o e hx;exact⟨o',(hs.2 b (bo (bQ (az e) I.ok.above))).trans e1⟩
  ·by_cases hj:j=i
   ·subst hj;rw[hi]at e1;cases e1;rw[fk M3]at e2;cases e2;exact⟨u,r,.inl ⟨hk,by simp⟩⟩
   ·rw[cg (cv hj)]at e2;obtain⟨u',r',q⟩:=hl j y v' e1 e2 e3;refine⟨u',r',?_⟩;rcases q with⟨k,e⟩|⟨k,c,e,z⟩
    ·refine .inl ⟨k,?_⟩;have:y≠x:=fun e=>hj (w4 hN e1 (e▸hi));simp[this,e]
    ·exact .inr ⟨k,c,e,z.sameBut hs (C3 y c e)⟩
  ·obtain⟨w',z⟩:=I.cell y c e;exact⟨w',z.sameBut hs (C3 y c e)⟩
  ·obtain⟨e,n,ne,nf,d⟩:=I.pin p hp;exact⟨(hs.2 p.1 ne).trans e,n,ne,nf,d⟩
 ·have Ms:X.fn x=true:=by
   rcases hf with z|z
   ·exact z
   ·rw[z]at hk;cases hk
  obtain⟨c,hc⟩:=I.ok.has x (.inl hk);obtain⟨w',z⟩:=I.cell x c hc;refine wpAny_storeName_cell I.ok.kind hk hc z (fun h' M4 hs=>?_);obtain⟨oc,Mt,R_⟩:=id z;refine h {s with heap:=h'} ⟨I.ok,I.os,I.bare,⟨fun b o e n hb hx=>?_,fun b o e n hb hx=>?_,I.base.free,fun b o e hx=>?_,I.base.lQ,I.base.jZ,I.base.kE⟩,⟨m,hn.sameBut hs (cv (C3 x c hc)),fun j y v' e1 e2 e3=>?_⟩,fun y c' e=>?_,I.free,I.gy,fun p hp=>?_,tracked ⟨oc,Mt,I.gy x c hc⟩ hs,by simpa using I.len⟩ ⟨c,hs,.inr hc⟩
  ·exact(hs.2 b (bo (bQ (az e) (I.ok.M0 x c Ms hc)))).trans (I.base.keep b o e n hb hx)
  ·obtain⟨sl,e1⟩:=I.base.slot b o e n hb hx;exact⟨sl,(hs.2 b (bo (bQ (az e) (I.ok.M0 x c Ms hc)))).trans e1⟩
  ·obtain⟨o',e1⟩:=I.base.there b o e hx;exact⟨o',(hs.2 b (bo (bQ (az e) (I.ok.M0 x c Ms hc)))).trans e1⟩
  ·by_cases hj:j=i
   ·subst hj;rw[hi]at e1;cases e1;rw[fk M3]at e2;cases e2;exact⟨u,r,.inr ⟨.inl hk,c,hc,M4⟩⟩
   ·rw[cg (cv hj)]at e2;obtain⟨u',r',q⟩:=hl j y v' e1 e2 e3;refine⟨u',r',?_⟩;rcases q with q|⟨k,c',e,z'⟩
    ·exact .inl q
    ·refine .inr ⟨k,c',e,z'.sameBut hs ?_⟩
     rintro rfl
     exact hj (w4 hN e1 (I.ok.inj _ _ _ e hc▸hi))
  ·by_cases Vu:c'=c
   ·subst Vu;exact⟨_,M4⟩
   ·obtain⟨w2,z2⟩:=I.cell y c' e;exact⟨w2,z2.sameBut hs Vu⟩
  ·obtain⟨e,n,ne,nf,d⟩:=I.pin p hp;refine⟨(hs.2 p.1 ?_).trans e,n,ne,nf,d⟩;intro q;rw[q,Mt]at e;have q':oc=p.2:=Option.some.inj e;exact d w' (by rw[<-q'];exact R_)
theorem r9{M:Model}{A:Around}{E:Value->Shared->Prop}{i:Nat}{x:Str}{v:V}{u:Value}{Q:Unit->Shared->Prop}(I:Inv X pins σ H s)(hN:X.N.Nodup)(hi:X.N[i]?=some x)(hx:Loc X.env.scope x)(r:RelV v u)
  (h:∀s',Inv X pins (σ.set i (some v)) H s'->Q () s') (hf:X.fn x=true\/X.env.scope.names.lookup x=some .local:=by first|exact .inl rfl|exact .inr rfl|assumption):wpAny M A (storeName X.env x u) Q E s:=
 uu I hN hi hx r (fun s' I' _=>h s' I') hf
theorem Inv.M5 {s':Shared}{ch:List Addr}(I:Inv X pins σ H s)(ho:s'.os=s.os)(u:Un (nr X.stack) ch H H' s.heap s'.heap)(bV:md X.prog X.w H' s'.heap)(hg:AllBare s'.gens)
  (CM:∀b∈ch,(b∈X.ex\/X.fj.heap.objs.size<=b)/\b≠X.env.locals/\(∀x c,X.env.cells.lookup x=some c->c≠b)/\∀p∈X.pn++pins,p.1≠b):Inv X pins σ H' s':=by
 obtain⟨h',g',d',t',o'⟩:=s';have e:o'=s.os:=ho;subst e;exact I.call (g':=g') (t':=t') (d':=d') u bV hg CM
end
abbrev XK:=Value->Option Addr->Hp->Prop
abbrev St:=List (Option V)
abbrev VK:=V->Hp->Prop
abbrev TE:=St->Hp->VK->Prop
abbrev TT:=St->Hp->(Bool->Hp->Prop)->Prop
abbrev TA:=St->Hp->(List V->Hp->Prop)->Prop
structure Ends where
 nx:St->Hp->Prop
 rt:VK
 bk:St->Hp->Prop:=fun _ _=>False
 ct:St->Hp->Prop:=fun _ _=>False
abbrev TS:=Ends->St->Hp->Prop
def EP(X:Cx)(pins:List (Addr×Obj))(σ:St)(Q:VK)(u:Value)(s':Shared):Prop:=∃v H',Inv X pins σ H' s'/\RelV v u/\Q v H'
def TP(X:Cx)(pins:List (Addr×Obj))(σ:St)(Q:Bool->Hp->Prop)(b:Bool)(s':Shared):Prop:=∃H',Inv X pins σ H' s'/\Q b H'
def AP(X:Cx)(pins:List (Addr×Obj))(σ:St)(Q:List V->Hp->Prop)(us:List Value)(s':Shared):Prop:=∃vs H',Inv X pins σ H' s'/\Vals vs us/\Q vs H'
def SP(X:Cx)(pins:List (Addr×Obj))(D:Ends)(f:Flow)(s':Shared):Prop:=
 match f with
 |.next=>∃bM H',Inv X pins bM H' s'/\D.nx bM H'
 |.brk=>∃bM H',Inv X pins bM H' s'/\D.bk bM H'
 |.cont=>∃bM H',Inv X pins bM H' s'/\D.ct bM H'
 |.ret u=>∃v bM H',Inv X pins bM H' s'/\RelV v u/\D.rt v H'
def PE(X:Cx)(e:Expr)(t:TE):Prop:=
 ∀(pins:List (Addr×Obj)) (s:Shared) (σ:St) (H:Hp) (Q:VK),Inv X pins σ H s->t σ H Q->wpAny (model X.prog X.w) X.A (eval e X.env) (EP X pins σ Q) X.xe s
def PT(X:Cx)(e:Expr)(t:TT):Prop:=
 ∀(pins:List (Addr×Obj)) (s:Shared) (σ:St) (H:Hp) (Q:Bool->Hp->Prop),Inv X pins σ H s->t σ H Q->wpAny (model X.prog X.w) X.A (isTrue e X.env (eval e X.env)) (TP X pins σ Q) X.xe s
def PW(X:Cx)(e:Expr)(t:TT):Prop:=
 ∀(whole:Sem Value) (pins:List (Addr×Obj)) (s:Shared) (σ:St) (H:Hp) (Q:Bool->Hp->Prop),Inv X pins σ H s->t σ H Q->wpAny (model X.prog X.w) X.A (isTrue e X.env whole) (TP X pins σ Q) X.xe s
theorem PW.pt {X:Cx}{e:Expr}{t:TT}(h:PW X e t):PT X e t:=h _
def PA(X:Cx)(es:List Expr)(t:TA):Prop:=
 ∀(pos:Pos) (pins:List (Addr×Obj)) (s:Shared) (σ:St) (H:Hp) (Q:List V->Hp->Prop),Inv X pins σ H s->t σ H Q->wpAny (model X.prog X.w) X.A (spliced (backTo pos (starEach es X.env))) (AP X pins σ Q) X.xe s
def PS(X:Cx)(st:Stmt)(t:TS):Prop:=
 ∀(pins:List (Addr×Obj)) (s:Shared) (σ:St) (H:Hp) (D:Ends),Inv X pins σ H s->t D σ H->wpAny (model X.prog X.w) X.A (exec st X.env) (SP X pins D) X.xe s
def kF(X:Cx)(st:List Stmt)(t:TS):Prop:=
 ∀(pins:List (Addr×Obj)) (s:Shared) (σ:St) (H:Hp) (D:Ends),Inv X pins σ H s->t D σ H->wpAny (model X.prog X.w) X.A (execs st X.env) (SP X pins D) X.xe s
theorem dN{α:Type}{t:Sem α}{Q Q':α->Shared->Prop}{M:Model}{A:Around}{E:Value->Shared->Prop}{s:Shared}(h:wpAny M A t Q E s)(hQ:∀a s,Q a s->Q' a s):wpAny M A t Q' E s:=cT h hQ fun _ _ x=>x
end L2
namespace L2
open PySem PySem.Spec PyProof.Rows
section
variable {X:Cx}
def R'(i:Nat):TE:=fun σ H Q=>∃v,σ[i]?=some (some v)/\Q v H
def tC(v:V):TE:=fun _ H Q=>Q v H
theorem C5{i:Nat}{x:Str}{pos:Pos}(hN:X.N[i]?=some x)(hv:Jn X.env.scope x)(hd:(x==("__debug__":Str))=false:=by decide) (pQ:(x==("__classdict__":Str))=false:=by decide):PE X (.Name x pos) (R' i):=by
 intro pins s σ H Q I h;obtain⟨v,e,h⟩:=h;obtain⟨m,hn,hl⟩:=I.loc;obtain⟨u,r,l⟩:=hl i x v hN e hv;have fin:EP X pins σ Q u s:=⟨v,H,I,r,h⟩;rcases l with⟨hk,hm⟩|⟨hk,c,hc,pk⟩
 ·exact g_ (mT I.ok.kind hk hn hm fin) hd
 ·rcases hk with hk|hk
  ·exact g_ (rB I.ok.kind hk hc pk fin) hd
  ·exact g_ (wpAny_loadName_free I.ok.kind hk hc pk fin pQ) hd
theorem Jp{i j pos}:PE X (.Constant (.int i) j pos) (tC (.int i)):=fun _ _ _ H _ I h=>wpAny_Constant_int ⟨.int i,H,I.tok _,⟨_,rfl⟩,h⟩
theorem M6{b j pos}:PE X (.Constant (.bool b) j pos) (tC (.bl b)):=fun _ _ _ H _ I h=>Constant_bool ⟨.bl b,H,I,rfl,h⟩
def Gl(X:Cx)(x:Str):Prop:=X.env.kindOf x=some .globalImplicit
theorem F2{E:Value->Shared->Prop}{pins:List (Addr×Obj)}{s:Shared}{σ:St}{H:Hp}{x:Str}{u:Value}{pos:Pos}{Q:Value->Shared->Prop}(I:Inv X pins σ H s)(hg:Gl X x)(hm:X.mg x=some u)(h:Q u s)
  (hd:(x==("__debug__":Str))=false:=by decide):wpAny (model X.prog X.w) X.A (eval (.Name x pos) X.env) Q E s:=
 Calls.Name_function_global I.ok.kind hg (Calls.loadGlobal_global (by rw[I.ok.glob];exact I.mod.glob.keeps I.bk) hm h) hd
theorem vp{E:Value->Shared->Prop}{pins:List (Addr×Obj)}{s:Shared}{σ:St}{H:Hp}{x:Str}{u:Value}{pos:Pos}{Q:Value->Shared->Prop}(I:Inv X pins σ H s)(hg:Gl X x)(hm:X.mg x=none)(hv:bootBuiltins x=some u)(h:Q u s)
  (hn:x≠"__name__":=by decide) (hd:(x==("__debug__":Str))=false:=by decide):wpAny (model X.prog X.w) X.A (eval (.Name x pos) X.env) Q E s:=by
 obtain⟨mb,h1,h2⟩:=I.mod.blt;exact Calls.Name_function_global I.ok.kind hg (Calls.loadGlobal_builtin (by rw[I.ok.glob];exact I.mod.glob.keeps I.bk) hm (by rw[I.ok.blt];exact h1.keeps I.bk) ((h2 x hn).trans hv) h) hd
variable {a b:Expr}{ta tb:TE}{pos:Pos}
def tB(t:TE):TT:=fun σ H Q=>t σ H fun x H1=>∃c,x=.bl c/\Q c H1
variable {tA Vv:TT}{rest:List Expr}
def WO(t u:TT):TT:=fun σ H Q=>t σ H fun c H1=>if c=true then Q true H1 else u σ H1 Q
theorem pw_or1(ha:PT X a tA):PW X (.BoolOp .Or [a] pos) tA:=by
 intro wh pins s σ H Q I h;refine isTrue_or (dN (ha pins s σ H Q I h) fun c s1 e=>?_);cases c with
 |false=>exact isTrue_or_nil e
 |true=>exact e
theorem pw_or(ha:PT X a tA)(hb:PW X (.BoolOp .Or (b::rest) pos) Vv):PW X (.BoolOp .Or (a::b::rest) pos) (WO tA Vv):=by
 intro wh pins s σ H Q I h;refine isTrue_or (dN (ha pins s σ H _ I h) fun c s1 ⟨H1,I1,q1⟩=>?_);cases c with
 |true=>exact⟨H1,I1,q1⟩
 |false=>exact hb wh pins s1 σ H1 Q I1 q1
end
end L2
namespace L2
open PySem PySem.Spec PyProof.Rows
def iA(K:PySem.W.Frag)(H:Hp)(a:Addr)(xs:List V):Prop:=
 Rd H a (.lst xs)\/
  ∃(o:Obj) (aV:Array Value) (n:Nat),K.lookup a=some o/\o.cls=.type "list"/\o.dict=none/\o.data=.seq aV n/\aV.size<=sizeLine/\Vals xs aV.toList
def kG(K:PySem.W.Frag)(H:Hp)(a:Addr)(xs:List V):Prop:=
 Rd H a (.tup xs)\/
  ∃(o:Obj) (aV:Array Value) (n:Nat),K.lookup a=some o/\o.cls=.type "tuple"/\o.data=.seq aV n/\aV.size<=sizeLine/\Vals xs aV.toList
def Sa:Value->Option V
 |.none=>some .dv
 |.bool b=>some (.bl b)
 |.int i _=>some (.int i)
 |.str x _=>some (.str x)
 |.bytes b _=>some (.Jk b)
 |.float b _=>some (.MU b)
 |.ref a=>some (.ref a)
 |.type n=>some (.ty n)
 |_=>none
theorem RelV.abs {x:V}{u:Value}(r:RelV x u):Sa u=some x:=by
 cases x with
 |dv=>cases r;rfl
 |bl _=>cases r;rfl
 |int _=>obtain⟨t,rfl⟩:=r;rfl
 |str _=>obtain⟨t,rfl⟩:=r;rfl
 |Jk _=>obtain⟨t,rfl⟩:=r;rfl
 |MU _=>obtain⟨t,rfl⟩:=r;rfl
 |ref _=>cases r;rfl
 |ty _=>cases r;rfl
theorem RelV.inj {x y:V}{u:Value}(r:RelV x u)(q:RelV y u):x=y:=Option.some.inj (r.abs.symm.trans q.abs)
theorem Vals.inj:∀{xs ys:List V} {us:List Value},Vals xs us->Vals ys us->xs=ys
 |_,_,_,.nil,.nil=>rfl
 |_,_,_,.cons r t,.cons r' t'=>by rw[r.inj r',Vals.inj t t']
section
variable {X:Cx}{pins:List (Addr×Obj)}{σ:St}{H:Hp}{s:Shared}{a:Addr}{xs ys:List V}
theorem iA.of {K:PySem.W.Frag}(h:H a=some (.lst xs)):iA K H a xs:=.inl (.inl h)
theorem Inv.list (I:Inv X pins σ H s)(h:iA X.K H a xs):∃aV:List Value,Vals xs aV/\PlainL s.heap a aV.toArray/\xs.length<=sizeLine:=by
 rcases h with h|⟨o,aV,n,hk,hc,hd,hs,hz,r⟩
 ·obtain⟨z,aV,n,r,e⟩:=h.ok I.bV;exact⟨aV,r,⟨_,n,e,rfl,rfl,rfl⟩,z⟩
 ·refine⟨aV.toList,r,⟨o,n,I.Mr a o hk,hc,hd,by simpa using hs⟩,?_⟩;have e:=r.length;simp only[bc]at e;omega
theorem Inv.tuple (I:Inv X pins σ H s)(h:kG X.K H a xs):∃aV:List Value,Vals xs aV/\IsTup s.heap a aV.toArray/\xs.length<=sizeLine:=by
 rcases h with h|⟨o,aV,n,hk,hc,hs,hz,r⟩
 ·obtain⟨z,aV,r,p⟩:=h.ok I.bV;exact⟨aV,r,p.tup,z⟩
 ·refine⟨aV.toList,r,⟨o,I.Mr a o hk,hc,n,by simpa using hs⟩,?_⟩;have e:=r.length;simp only[bc]at e;omega
theorem Inv.C6 (I:Inv X pins σ H s)(h:iA X.K H a xs)(h':iA X.K H a ys):xs=ys:=by
 obtain⟨aV,r,⟨o,n,e,_,_,d⟩,_⟩:=I.list h;obtain⟨nu,r',⟨o',n',e',_,_,d'⟩,_⟩:=I.list h';rw[e]at e';cases e';rw[d]at d';injection d' with d1 _
 have:aV=nu:=by simpa using b9 Array.toList d1
 subst this;exact r.inj r'
theorem Inv.uv (I:Inv X pins σ H s)(h:kG X.K H a xs)(h':kG X.K H a ys):xs=ys:=by
 obtain⟨aV,r,⟨o,e,_,n,d⟩,_⟩:=I.tuple h;obtain⟨nu,r',⟨o',e',_,n',d'⟩,_⟩:=I.tuple h';rw[e]at e';cases e';rw[d]at d';injection d' with d1 _
 have:aV=nu:=by simpa using b9 Array.toList d1
 subst this;exact r.inj r'
end
abbrev Cx.uc (X:Cx)(E:Value->Shared->Prop):Cx:={X with xe:=E}
abbrev Cx.CN (X:Cx):Cx:=X.uc fun _ _=>False
theorem Cx.Ok.uc {X:Cx}(ok:X.Ok)(E:Value->Shared->Prop):(X.uc E).Ok:=
 ⟨ok.mod,ok.kind,ok.glob,ok.blt,ok.above,ok.inj,ok.has,ok.M0,ok.hd,ok.frames,ok.Mp,ok.R7,ok.bs,ok.HX,ok.C1,ok.C2,ok.r8,ok.Mq⟩
theorem Cx.Ok.kH {X:Cx}{E:Value->Shared->Prop}(ok:(X.uc E).Ok):X.Ok:=
 ⟨ok.mod,ok.kind,ok.glob,ok.blt,ok.above,ok.inj,ok.has,ok.M0,ok.hd,ok.frames,ok.Mp,ok.R7,ok.bs,ok.HX,ok.C1,ok.C2,ok.r8,ok.Mq⟩
section
variable {X:Cx}{pins:List (Addr×Obj)}{σ:St}{H:Hp}{s:Shared}{E:Value->Shared->Prop}
theorem Inv.uc (I:Inv X pins σ H s)(E:Value->Shared->Prop):Inv (X.uc E) pins σ H s:=⟨I.ok.uc E,I.os,I.bare,I.base,I.loc,I.cell,I.free,I.gy,I.pin,I.bV,I.len⟩
theorem Inv.kH (I:Inv (X.uc E) pins σ H s):Inv X pins σ H s:=⟨I.ok.kH,I.os,I.bare,I.base,I.loc,I.cell,I.free,I.gy,I.pin,I.bV,I.len⟩
theorem SP.kH {D:Ends}{f:Flow}{s':Shared}(h:SP (X.uc E) pins D f s'):SP X pins D f s':=by
 cases f with
 |next=>obtain⟨bM,H',I,q⟩:=h;exact⟨bM,H',I.kH,q⟩
 |brk=>obtain⟨bM,H',I,q⟩:=h;exact⟨bM,H',I.kH,q⟩
 |cont=>obtain⟨bM,H',I,q⟩:=h;exact⟨bM,H',I.kH,q⟩
 |ret u=>obtain⟨v,bM,H',I,r,q⟩:=h;exact⟨v,bM,H',I.kH,r,q⟩
theorem kF.CN {st:List Stmt}{t:TS}(h:kF X.CN st t):kF X st t:=fun pins s σ H D I hw=>
 cT (h pins s σ H D (I.uc _) hw) (fun _ _ q=>q.kH) fun _ _ z=>False.elim z
end
section
variable {X:Cx}{st:Stmt}{rest:List Stmt}{t u:TS}{e:Expr}{te:TE}{pos:Pos}
def M7:TS:=fun D σ H=>D.nx σ H
def Sb(t u:TS):TS:=fun D σ H=>t {D with nx:=u D} σ H
theorem z3:kF X [] M7:=fun _ _ σ H _ I h=>m8 ⟨σ,H,I,h⟩
theorem w6(h1:PS X st t)(h2:kF X rest u):kF X (st::rest) (Sb t u):=by
 intro pins s σ H D I h;refine wpAny_execs_cons (dN (h1 pins s σ H {D with nx:=u D} I h) fun f s1 q=>?_);cases f with
 |next=>
  obtain⟨bM,H',I',q⟩:=q;exact h2 pins s1 bM H' D I' q
 |ret v=>exact q
 |brk=>exact q
 |cont=>exact q
theorem z4(h1:PS X st t):kF X [st] t:=by
 intro pins s σ H D I h;refine wpAny_execs_cons (dN (h1 pins s σ H D I h) fun f s1 q=>?_);cases f with
 |next=>exact m8 q
 |ret v=>exact q
 |brk=>exact q
 |cont=>exact q
theorem Inv.quiet {pins:List (Addr×Obj)}{σ:St}{H:Hp}{s:Shared}(I:Inv X pins σ H s):interactive X.env=false:=by simp[interactive,I.ok.kind]
def M8(te:TE):TS:=fun D σ H=>te σ H fun _ H1=>D.nx σ H1
theorem F3(he:PE X e te)(hs:swapsWith e none pos.line X.env=pure false:=by rfl):PS X (.Expr e pos) (M8 te):=by
 intro pins s σ H D I h;exact wpAny_Expr_any (dN (he pins s σ H _ I h) fun v s1 ⟨x,H1,I1,r1,q1⟩=>⟨σ,H1,I1,q1⟩) I.quiet hs
def Sd(te:TE):TS:=fun D σ H=>te σ H D.rt
theorem C7(he:PE X e te):PS X (.Return (some e) pos) (Sd te):=by
 intro pins s σ H D I h;exact wpAny_Return_some (dN (he pins s σ H _ I h) fun v s1 ⟨x,H1,I1,r1,q1⟩=>⟨x,σ,H1,I1,r1,q1⟩)
def Se(c:TT)(t u:TS):TS:=fun D σ H=>c σ H fun b H1=>if b=true then t D σ H1 else u D σ H1
theorem H_{c:Expr}{a b:List Stmt}{tc:TT}(hc:PT X c tc)(ha:kF X a t)(hb:kF X b u):PS X (.If c a b pos) (Se tc t u):=by
 intro pins s σ H D I h;refine wpAny_If (dN (hc pins s σ H _ I h) fun d s1 ⟨H1,I1,q1⟩=>?_);cases d with
 |true=>exact ha pins s1 σ H1 D I1 q1
 |false=>exact hb pins s1 σ H1 D I1 q1
end
abbrev TG:=V->St->Hp->(St->Hp->Prop)->Prop
abbrev Jq:=List V->St->Hp->(St->Hp->Prop)->Prop
def PG(X:Cx)(target:Expr)(t:TG):Prop:=
 ∀(pins:List (Addr×Obj)) (s:Shared) (σ:St) (H:Hp) (v:V) (u:Value) (Q:St->Hp->Prop),Inv X pins σ H s->RelV v u->t v σ H Q->
  wpAny (model X.prog X.w) X.A (assign target X.env u) (fun _ s'=>∃bM H',Inv X pins bM H' s'/\Q bM H') X.xe s
def F4(X:Cx)(ts:List Expr)(t:Jq):Prop:=
 ∀(pins:List (Addr×Obj)) (s:Shared) (σ:St) (H:Hp) (vs:List V) (us:List Value) (Q:St->Hp->Prop),Inv X pins σ H s->Vals vs us->t vs σ H Q->
  wpAny (model X.prog X.w) X.A (assignInOrder ((assignEach ts X.env).map (·.2)) us) (fun _ s'=>∃bM H',Inv X pins bM H' s'/\Q bM H') X.xe s
abbrev Jr:=V->V->V->Hp->(Hp->Prop)->Prop
def M9(X:Cx)(t:Jr):Prop:=
 ∀(pins:List (Addr×Obj)) (s:Shared) (σ:St) (H:Hp) (o i v:V) (ov iv u:Value) (Q:Hp->Prop),Inv X pins σ H s->RelV o ov->RelV i iv->RelV v u->t o i v H Q->
  wpAny (model X.prog X.w) X.A (setItem ov iv u) (fun _ s'=>∃H',Inv X pins σ H' s'/\Q H') X.xe s
abbrev Sf:=V->V->Hp->VK->Prop
def WQ(X:Cx)(op:Operator)(t:Sf):Prop:=
 ∀(pins:List (Addr×Obj)) (s:Shared) (σ:St) (H:Hp) (x y:V) (v u:Value) (Q:VK),Inv X pins σ H s->RelV x v->RelV y u->t x y H Q->
  wpAny (model X.prog X.w) X.A (inplaceOp op v u) (EP X pins σ Q) X.xe s
section
variable {X:Cx}{pos:Pos}
def C8(i:Nat):TG:=fun v σ H Q=>Q (σ.set i (some v)) H
theorem vq{i:Nat}{x:Str}(hN:X.N.Nodup)(hi:X.N[i]?=some x)(hx:Loc X.env.scope x)(hf:X.fn x=true\/X.env.scope.names.lookup x=some .local:=by first|exact .inl rfl|exact .inr rfl|assumption):PG X (.Name x pos) (C8 i):=by
 intro pins s σ H v u Q I r h;exact wpAny_assign_Name (r9 I hN hi hx r (fun s' I'=>⟨_,H,I',h⟩) hf)
def Sg:Jq:=fun vs σ H Q=>vs=[]/\Q σ H
def M_(t:TG)(u:Jq):Jq:=fun vs σ H Q=>∃v r,vs=v::r/\t v σ H fun bM H'=>u r bM H' Q
theorem F5:F4 X [] Sg:=by
 intro pins s σ H vs us Q I r h;obtain⟨e,h⟩:=h;subst e;cases r;exact assignInOrder_nil ⟨σ,H,I,h⟩
theorem C9{e:Expr}{es:List Expr}{t:TG}{u:Jq}(h1:PG X e t)(h2:F4 X es u)
  (hs:(assignEach (e::es) X.env).map (·.2)=assign e X.env::(assignEach es X.env).map (·.2):=by rfl):F4 X (e::es) (M_ t u):=by
 intro pins s σ H vs us Q I r h;obtain⟨v,vr,e1,h⟩:=h;subst e1;cases r with
 |cons r rr=>
  rw[hs];refine assignInOrder_cons (dN (h1 pins s σ H _ _ _ I r h) fun _ s1 ⟨Ia,H1,I1,q1⟩=>?_);exact h2 pins s1 Ia H1 _ _ Q I1 rr q1
def Si(K:PySem.W.Frag)(n:Nat)(t:Jq):TG:=fun v σ H Q=>∃a xs,v=.ref a/\kG K H a xs/\xs.length=n/\t xs σ H Q
theorem Js{es:List Expr}{k:Nat}{t:Jq}{n:Nat}(hc:X.calm=true)(h:F4 X es t)
  (hn:(assignEach es X.env).length=n:=by rfl) (eJ:(assignEach es X.env).findIdx? (·.1)=none:=by rfl):PG X (.Tuple es k pos) (Si X.K n t):=by
 intro pins s σ H v u Q I r hw;obtain⟨a,xs,e1,hq,hl,hw⟩:=hw;subst e1;cases r;obtain⟨aV,rv,ht,hz⟩:=I.tuple hq;refine assign_Tuple_tuple (I.ok.hd hc) ht (by simp[hn,<-hl,rv.length]) eJ fun h' hx=>?_
 have I1:Inv X pins σ H {s with heap:=h'}:=I.kept (t':=s.toks) fun b o e=>hx b o (bo (az e)) e;exact h pins _ σ H xs _ Q I1 (by simpa using rv) hw
def Sj(to ti:TE)(t:Jr):TG:=fun v σ H Q=>to σ H fun o H1=>ti σ H1 fun i H2=>t o i v H2 fun H3=>Q σ H3
theorem Jt{o i:Expr}{to ti:TE}{t:Jr}(ho:PE X o to)(hi:PE X i ti)(hs:M9 X t)
  (ha:∀v,assign (.Subscript o i pos) X.env v=(do
   let ov<-holding [v] (eval o X.env)
   let iv<-holding [v,ov] (eval i X.env)
   standAt pos
   holding [v,ov,iv] (setItem ov iv v)
   release [v,ov,iv] []):=by intro _;rfl):PG X (.Subscript o i pos) (Sj to ti t):=by
 intro pins s σ H v u Q I r h;rw[ha];refine aa (cu (dN (ho pins s σ H _ I h) fun ov s1 ⟨x,H1,I1,r1,q1⟩=>?_));refine aa (cu (dN (hi pins s1 σ H1 _ I1 q1) fun iv s2 ⟨y,H2,I2,r2,q2⟩=>?_));refine aa (wpAny_standAt (aa (cu (dN (hs pins s2 σ H2 x y v ov iv u _ I2 r1 r2 r q2) fun _ s3 ⟨H3,I3,q3⟩=>?_))));exact wpAny_release ⟨σ,H3,I3,q3⟩
def M'(te:TE)(g:TG):TS:=fun D σ H=>te σ H fun x H1=>g x σ H1 D.nx
theorem Ju{tg e:Expr}{te:TE}{g:TG}(he:PE X e te)(hg:PG X tg g)(hs:swapsWithSole [tg] e pos.line X.env=pure false:=by rfl) (hw:swappedStores [tg] e X.env=pure none:=by rfl)
  (h1:(assignEach [tg] X.env).map (·.2)=[assign tg X.env]:=by rfl):PS X (.Assign [tg] e pos) (M' te g):=by
 intro pins s σ H D I h;refine wpAny_Assign_stores (dN (he pins s σ H _ I h) fun v s1 ⟨x,H1,I1,r1,q1⟩=>?_) hs hw;rw[h1];exact dN (hg pins s1 σ H1 x v _ I1 r1 q1) fun _ s2 q=>q
theorem C_{i:Nat}{x:Str}{e:Expr}{te:TE}{pos':Pos}(hN:X.N.Nodup)(hi:X.N[i]?=some x)(hx:Loc X.env.scope x)(he:PE X e te)(hs:swapsWith e (some (.Name x pos')) pos.line X.env=pure false:=by rfl) (hf:X.fn x=true\/X.env.scope.names.lookup x=some .local:=by first|exact .inl rfl|exact .inr rfl|assumption):
  PS X (.Assign [.Name x pos'] e pos) (M' te (C8 i)):=by
 intro pins s σ H D I h;refine wpAny_Assign_Name (dN (he pins s σ H _ I h) fun v s1 ⟨y,H1,I1,r1,q1⟩=>?_) hs;exact r9 I1 hN hi hx r1 (fun s2 I2=>⟨_,H1,I2,q1⟩) hf
def Sk(i:Nat)(te:TE)(ti:Sf):TS:=fun D σ H=>∃x,σ[i]?=some (some x)/\te σ H fun y H1=>ti x y H1 fun z H2=>D.nx (σ.set i (some z)) H2
theorem Jv{i:Nat}{x:Str}{e:Expr}{te:TE}{op:Operator}{ti:Sf}{pos':Pos}(hN:X.N.Nodup)(hi:X.N[i]?=some x)(hx:Loc X.env.scope x)(he:PE X e te)(ho:WQ X op ti)(hf:X.fn x=true\/X.env.scope.names.lookup x=some .local:=by first|exact .inl rfl|exact .inr rfl|assumption):
  PS X (.AugAssign (.Name x pos') op e pos) (Sk i te ti):=by
 intro pins s σ H D I h;obtain⟨v,e1,h⟩:=h;obtain⟨m,hn,hl⟩:=I.loc;have eR:Jn X.env.scope x:=by rcases hx with k|k;exact .inl k;exact .inr (.inl k)
 obtain⟨u,r,l⟩:=hl i x v hi e1 eR;refine wpAny_AugAssign_Name ?_
 have go:wpAny (model X.prog X.w) X.A (eval e X.env) (fun w oF=>wpAny (model X.prog X.w) X.A (inplaceOp op u w) (fun r yN=>wpAny (model X.prog X.w) X.A (storeName X.env x r) (fun _=>SP X pins D .next) X.xe yN) X.xe oF) X.xe s:=by
  refine dN (he pins s σ H _ I h) fun w s1 ⟨y,H1,I1,r1,q1⟩=>?_
  refine dN (ho pins s1 σ H1 v y u w _ I1 r r1 q1) fun z s2 ⟨zv,H2,I2,r2,q2⟩=>?_
  exact r9 I2 hN hi hx r2 (fun s3 I3=>⟨_,H2,I3,q2⟩) hf
 rcases l with⟨hk,hm⟩|⟨hk,c,hc,pk⟩
 ·exact mT I.ok.kind hk hn hm go
 ·rcases hk with hk|hk
  ·exact rB I.ok.kind hk hc pk go
  ·rcases hx with k|k
   ·have:X.env.scope.names.lookup x=some .free:=hk;rw[k]at this;cases this
   ·have:X.env.scope.names.lookup x=some .free:=hk;rw[k]at this;cases this
end
section
variable {X:Cx}{pos:Pos}
def Jw(c:TT)(tb:TS):TS:=fun D σ H=>∃W:Nat->St->Hp->Prop,(∃m,W m σ H)/\∀m σ H,W m σ H->
 c σ H fun b H1=>if b=true then∃N:St->Hp->Prop,(∀bM H',N bM H'->∃m',m'<m/\W m' bM H')/\tb {D with nx:=N,ct:=N,bk:=D.nx} σ H1 else D.nx σ H1
theorem C'{c:Expr}{body:List Stmt}{tc:TT}{tb:TS}(hp:PassesOwn (model X.prog X.w) X.A X.env X.xe)(hc:PT X c tc)(hb:kF X body tb):PS X (.While c body [] pos) (Jw tc tb):=by
 intro pins s σ H D I h;obtain⟨W,⟨m0,w0⟩,turn⟩:=h;refine wpAny_While (codeAny_whileLoop (fun n s'=>∃bM H',Inv X pins bM H' s'/\W n bM H') ?_ m0 ⟨σ,H,I,w0⟩)
 rintro n s1 ⟨Ia,H1,I1,w1⟩
 refine g6 hp (dN (hc pins s1 Ia H1 _ I1 (turn n Ia H1 w1)) fun b s2 ⟨H2,I2,q2⟩=>?_);cases b with
 |true=>
  obtain⟨N,hN,q2⟩:=q2;rw[ab rfl];refine g6 hp (dN (hb pins s2 Ia H2 _ I2 q2) fun f s3 q3=>?_);cases f with
  |next=>
   obtain⟨wG,H3,I3,n3⟩:=q3;obtain⟨m',hm,w3⟩:=hN wG H3 n3;exact⟨m',hm,wG,H3,I3,w3⟩
  |cont=>
   obtain⟨wG,H3,I3,n3⟩:=q3;obtain⟨m',hm,w3⟩:=hN wG H3 n3;exact⟨m',hm,wG,H3,I3,w3⟩
  |brk=>exact q3
  |ret v=>exact q3
 |false=>
  rw[ae cR];exact m8 ⟨Ia,H2,I2,q2⟩
end
structure It where
 go:Nat->Hp->Prop
 yO:Nat->Hp->V->Hp->Prop
 stop:Nat->Hp->Prop
def lR(X:Cx)(pins:List (Addr×Obj))(H:Hp)(b:Addr):Prop:=
 H b=none/\b≠X.env.locals/\b∉X.fs/\(b∈X.ex\/X.fj.heap.objs.size<=b)/\(∀x c,X.env.cells.lookup x=some c->c≠b)/\∀p∈X.pn++pins,p.1≠b
theorem Inv.vt {X:Cx}{pins:List (Addr×Obj)}{σ:St}{H H':Hp}{s:Shared}{b:Addr}(I:Inv X pins σ H s)(hb:s.heap.objs.size<=b)(hn:H' b=none):lR X pins H' b:=by
 refine⟨hn,ef (bQ I.lt hb),I.R9 hb,.inr (aZ I.sz hb),fun x c e z=>?_,fun p hp z=>?_⟩
 ·obtain⟨v,q⟩:=I.cell x c e;exact absurd (bQ q.lt (by rw[z];exact hb)) (du _)
 ·exact absurd (bQ (az (I.pin p hp).1) (by rw[z];exact hb)) (du _)
structure Turn(P:Program)(w:World)(K:PySem.W.Frag)(tg:Expr)(J:It)(fp:List Addr)(it:Addr)(tn:Nat->Heap->Prop):Prop where
 mem:it∈fp
 obj:∀i h,tn i h->∀b∈fp,∃o,h.get? b=some o/\∀v,o.data≠ .cell v
 keep:∀i h h',tn i h->(∀b∈fp,∀o,h.get? b=some o->h'.get? b=some o)->tn i h'
 item:∀(X:Cx),X.prog=P->X.w=w->X.K=K->X.calm=true->∀(i:Nat) (pins:List (Addr×Obj)) (s:Shared) (σ:St) (H:Hp) (E:Value->Shared->Prop),Inv X pins σ H s->(∀b∈fp,lR X pins H b)->tn i s.heap->J.go i H->
  wpAny (model P w) X.A (pyNext (.ref it)) (fun r s1=>∃u,r=some u/\
   wpAny (model P w) X.A (letOwnedTupleGo tg (.ref it) u) (fun _ s2=>∃x H',Inv X pins σ H' s2/\RelV x u/\J.yO i H x H'/\tn (i+1) s2.heap/\∀b∈fp,H' b=none) E s1) E s
 done:∀(X:Cx),X.prog=P->X.w=w->X.K=K->X.calm=true->∀(i:Nat) (pins:List (Addr×Obj)) (s:Shared) (σ:St) (H:Hp) (E:Value->Shared->Prop),Inv X pins σ H s->(∀b∈fp,lR X pins H b)->tn i s.heap->J.stop i H->
  wpAny (model P w) X.A (pyNext (.ref it)) (fun r s1=>r=none/\Inv X pins σ H s1) E s
 self:∀(A:Around) (i:Nat) (s:Shared) (Q:Value->Shared->Prop) (E:Value->Shared->Prop),tn i s.heap->Q (.ref it) s->wpAny (model P w) A (pyIter (.ref it)) Q E s
abbrev TI:=St->Hp->(It->Hp->Prop)->Prop
def Q0(X:Cx)(pins:List (Addr×Obj))(σ:St)(tg:Expr)(R:It->Hp->Prop)(Q1:Value)(s2:Shared):Prop:=
 ∃(it:Addr) (fp:List Addr) (tn:Nat->Heap->Prop) (J:It) (H':Hp),Q1=.ref it/\Inv X pins σ H' s2/\Turn X.prog X.w X.K tg J fp it tn/\tn 0 s2.heap/\(∀b∈fp,lR X pins H' b)/\R J H'
def PI(X:Cx)(tg iter:Expr)(wi:TI):Prop:=
 ∀(pins:List (Addr×Obj)) (s:Shared) (σ:St) (H:Hp) (R:It->Hp->Prop),Inv X pins σ H s->wi σ H R->
  wpAny (model X.prog X.w) X.A (eval iter X.env) (fun v s1=>wpAny (model X.prog X.w) X.A (pyIter v) (Q0 X pins σ tg R) X.xe s1) X.xe s
theorem w8{M:Model}{A:Around}{E:Value->Shared->Prop}{s:Shared}{tg:Expr}{it:Addr}{u:Value}{o:Obj}{n:String}{vs:Array Value}{Q:Unit->Shared->Prop}(ho:s.heap.get? it=some o)(hc:o.cls=.type n)(hd:o.data=.fields vs)
  (hn:["enumerate","zip","dict_itemiterator","dict_reverseitemiterator","odict_iterator","itertools.zip_longest","itertools.pairwise"].contains n=false) (hQ:Q () s):wpAny M A (letOwnedTupleGo tg (.ref it) u) Q E s:=by
 unfold letOwnedTupleGo;cases tg<;>first
  |exact af hQ
  |(cases u<;>first
    |exact af hQ
    |(refine aa (kC ho ?_)
      rw[hc,hd];show wpAny M A (if(["enumerate","zip","dict_itemiterator","dict_reverseitemiterator","odict_iterator","itertools.zip_longest","itertools.pairwise"].contains n&&vs[0]?==some (rawInt _))=true then _ else _) Q E s;rw[ae (by intro h;rw[hn,Bool.false_and]at h;cases h)];exact af hQ))
def Q2(K:PySem.W.Frag)(a:Addr):It:=
 ⟨fun i H=>∃xs x,iA K H a xs/\xs[i]?=some x,fun i H x H'=>H'=H/\∀xs,iA K H a xs->xs[i]?=some x,fun i H=>∃xs,iA K H a xs/\xs.length<=i⟩
def Sl(K:PySem.W.Frag)(a:Addr):It:=
 ⟨fun i H=>∃xs x,kG K H a xs/\xs[i]?=some x,fun i H x H'=>H'=H/\∀xs,kG K H a xs->xs[i]?=some x,fun i H=>∃xs,kG K H a xs/\xs.length<=i⟩
def Q3(lo:Int)(n:Nat):It:=⟨fun i _=>i<n,fun i H x H'=>H'=H/\x=.int (lo+i),fun i _=>n<=i⟩
theorem uw{P:Program}{w:World}{K:PySem.W.Frag}{tg:Expr}(a it:Addr):Turn P w K tg (Q2 K a) [it] it (fun i h=>h.IsListIter it a i) where
 mem:=by simp
 obj:=fun i h st b hb=>by
  have e:b=it:=by simpa using hb
  subst e;obtain⟨o,e,c,d⟩:=st;exact⟨o,e,fun v z=>by rw[d]at z;cases z⟩
 keep:=fun i h h' st k=>st.at fun o e=>k it (by simp) o e
 item:=by
  intro X hP hw hK hc i pins s σ H E I hf st hg;subst hP hw hK;obtain⟨xs,x,hq,hx⟩:=hg;obtain⟨aV,rv,p,hz⟩:=I.list hq;obtain⟨u,hu,ru⟩:=rv.get hx;obtain⟨f0,f1,f2,f3,f4,f5⟩:=hf it (by simp);refine wpAny_pyNext_list_item st p.isList (x:=u) (by simpa using hu) fun h' ud sb=>?_
  have I1:Inv X pins σ H {s with heap:=h'}:=I.turned (t':=s.toks) (fun b o hb e=>(sb.2 b hb).trans e) f0 f1 f3 f4 f5;obtain⟨o,e,c,d⟩:=id ud;exact⟨u,rfl,w8 (s:={s with heap:=h'}) e c d (by decide) ⟨x,H,I1,ru,⟨rfl,fun ys hy=>by rw[I.C6 hy hq];exact hx⟩,ud,fun b hb=>(hf b hb).1⟩⟩
 done:=by
  intro X hP hw hK hc i pins s σ H E I hf st hg;subst hP hw hK;obtain⟨xs,hq,hx⟩:=hg;obtain⟨aV,rv,p,hz⟩:=I.list hq;obtain⟨f0,f1,f2,f3,f4,f5⟩:=hf it (by simp);have hl:=rv.length;exact wpAny_pyNext_list_end (I.ok.hd hc) st p.isList (by simp;omega) fun h' eb=>⟨rfl,I.turned (t':=s.toks) (fun b o hb e=>eb b o hb e) f0 f1 f3 f4 f5⟩
 self:=fun _ _ _ _ _ st h=>wpAny_pyIter_listiter st h
theorem r_{P:Program}{w:World}{K:PySem.W.Frag}{tg:Expr}(a it:Addr):Turn P w K tg (Sl K a) [it] it (fun i h=>h.IsTupleIter it a i) where
 mem:=by simp
 obj:=fun i h st b hb=>by
  have e:b=it:=by simpa using hb
  subst e;obtain⟨o,e,c,d⟩:=st;exact⟨o,e,fun v z=>by rw[d]at z;cases z⟩
 keep:=fun i h h' st k=>st.at fun o e=>k it (by simp) o e
 item:=by
  intro X hP hw hK hc i pins s σ H E I hf st hg;subst hP hw hK;obtain⟨xs,x,hq,hx⟩:=hg;obtain⟨aV,rv,p,hz⟩:=I.tuple hq;obtain⟨u,hu,ru⟩:=rv.get hx;obtain⟨f0,f1,f2,f3,f4,f5⟩:=hf it (by simp);refine wpAny_pyNext_tuple_item st (show s.heap.IsTuple a aV.toArray from p) (x:=u) (by simpa using hu) fun h' ud sb=>?_
  have I1:Inv X pins σ H {s with heap:=h'}:=I.turned (t':=s.toks) (fun b o hb e=>(sb.2 b hb).trans e) f0 f1 f3 f4 f5;obtain⟨o,e,c,d⟩:=id ud;exact⟨u,rfl,w8 (s:={s with heap:=h'}) e c d (by decide) ⟨x,H,I1,ru,⟨rfl,fun ys hy=>by rw[I.uv hy hq];exact hx⟩,ud,fun b hb=>(hf b hb).1⟩⟩
 done:=by
  intro X hP hw hK hc i pins s σ H E I hf st hg;subst hP hw hK;obtain⟨xs,hq,hx⟩:=hg;obtain⟨aV,rv,p,hz⟩:=I.tuple hq;obtain⟨f0,f1,f2,f3,f4,f5⟩:=hf it (by simp);have hl:=rv.length;exact wpAny_pyNext_tuple_end (I.ok.hd hc) st (show s.heap.IsTuple a aV.toArray from p) (by simp;omega) fun h' eb=>⟨rfl,I.turned (t':=s.toks) (fun b o hb e=>eb b o hb e) f0 f1 f3 f4 f5⟩
 self:=fun _ _ _ _ _ st h=>wpAny_pyIter_tupleiter st h
theorem yP{P:Program}{w:World}{K:PySem.W.Frag}{tg:Expr}(it:Addr)(lo:Int)(n:Nat):Turn P w K tg (Q3 lo n) [it] it (fun i h=>IsRangeIter h it (lo+(i:Nat)*1) ((n:Int) - (i:Nat)) 1) where
 mem:=by simp
 obj:=fun i h st b hb=>by
  have e:b=it:=by simpa using hb
  subst e;exact⟨_,st,fun v z=>by
   have z':Data.fields _=Data.cell v:=z;cases z'⟩
 keep:=fun i h h' st k=>k it (by simp) _ st
 item:=by
  intro X hP hw hK hc i pins s σ H E I hf st hg;subst hP hw hK;obtain⟨f0,f1,f2,f3,f4,f5⟩:=hf it (by simp);have W:=Walks.range (prog:=X.prog) (w:=X.w) (I.ok.hd hc) it lo 1 n;refine W.item i s _ _ hg st fun v h' tk hv ud kk=>?_
  obtain⟨t,rfl⟩:=hv;have I1:Inv X pins σ H {s with heap:=h',toks:=tk}:=I.turned (fun b o hb e=>kk b o (by simpa using hb) e) f0 f1 f3 f4 f5;refine⟨_,rfl,w8 (s:={s with heap:=h',toks:=tk}) (n:="range_iterator") ud rfl rfl (by decide) ⟨.int (lo+i),H,I1,⟨t,?_⟩,⟨rfl,rfl⟩,ud,fun b hb=>(hf b hb).1⟩⟩;rw[Int.mul_one]
 done:=by
  intro X hP hw hK hc i pins s σ H E I hf st hg;subst hP hw hK;obtain⟨f0,f1,f2,f3,f4,f5⟩:=hf it (by simp);exact wpAny_pyNext_range_end (I.ok.hd hc) st (by have:n<=i:=hg;omega) fun h' eb=>⟨rfl,I.turned (t':=s.toks) (fun b o hb e=>eb b o hb e) f0 f1 f3 f4 f5⟩
 self:=fun _ _ _ _ _ st h=>wpAny_pyIter_rangeiter st h
end L2
namespace L2
open PySem PySem.Spec PyProof.Rows
section
variable {X:Cx}{tg:Expr}
theorem Dc{pins:List (Addr×Obj)}{σ:St}{H:Hp}{s:Shared}{R:It->Hp->Prop}{E:Value->Shared->Prop}{lo hi:Int}{t u v:Tok}{tk:Nat}(I:Inv X pins σ H s)(h1:-(2 ^62)<=lo)(h2:lo<2 ^62)(h3:-(2 ^62)<=hi)(h4:hi<2 ^62)
  (q:R (Q3 lo (hi - lo).toNat) H):wpAny (model X.prog X.w) X.A (pyIter (.ref s.heap.objs.size)) (Q0 X pins σ tg R) E {s with heap:=s.heap.push {cls:=.type "range",data:=.fields #[.int lo t,.int hi u,.int 1 v]},toks:=tk}:=by
 refine wpAny_pyIter_range (IsRange.new ..) (small_one h1 h2 h3 h4) ?_
 have I1:Inv X pins σ H {s with heap:=s.heap.push {cls:=.type "range",data:=.fields #[.int lo t,.int hi u,.int 1 v]},toks:=tk}:=I.kept fun b o e=>aB _ e;refine⟨(s.heap.push {cls:=.type "range",data:=.fields #[.int lo t,.int hi u,.int 1 v]}).objs.size,[(s.heap.push {cls:=.type "range",data:=.fields #[.int lo t,.int hi u,.int 1 v]}).objs.size],_,_,H,rfl,
  I1.kept (t':=tk) fun b o e=>aB _ e,yP _ lo (hi - lo).toNat,?_,fun b hb=>?_,q⟩
 ·have e1:lo+((0:Nat):Int)*1=lo:=by simp
  have e2:(((hi - lo).toNat:Nat):Int) - ((0:Nat):Int)=Builtin.Range.rangeSize lo hi 1:=by rw[rangeSize_one];split<;>omega
  show IsRangeIter _ _ (lo+((0:Nat):Int)*1) ((((hi - lo).toNat:Nat):Int) - ((0:Nat):Int)) 1;rw[e1,e2];exact aQ _ rfl
 ·have e:b=(s.heap.push {cls:=.type "range",data:=.fields #[.int lo t,.int hi u,.int 1 v]}).objs.size:=by simpa using hb
  subst e;exact I1.vt (aq _) (I1.bV.fresh (aq _))
def Na(ta:TA):TI:=fun σ H R=>ta σ H fun vs H1=>∃j:Int,vs=[.int j]/\-(2 ^62)<=j/\j<2 ^62/\R (Q3 0 j.toNat) H1
theorem BE{a:Expr}{ta:TA}{p pos:Pos}(hg:Gl X "range")(hm:X.mg "range"=none)(ha:PA X [a] ta)(hs:starEach [a] X.env=[(false,eval a X.env)]:=by rfl):PI X tg (.Call (.Name "range" p) [a] [] pos) (Na ta):=by
 intro pins s σ H R I h;refine Call_ (vp I hg hm boot_range (wQ (dN (ha pos pins s σ H _ I h) fun us s1 ⟨vs,H1,I1,r1,q1⟩=>?_) hs rfl));obtain⟨j,e,q1,q2,q⟩:=q1;subst e;cases r1 with
 |cons r rr=>
  cases rr;obtain⟨t,rfl⟩:=r;exact call_range_1 (Dc I1 (by omega) (by omega) q1 q2 (by simpa using q))
def Sm(wi:TI)(g:TG)(tb:TS):TS:=fun D σ H=>wi σ H fun J H1=>∃W:Nat->Nat->St->Hp->Prop,(∃m,W 0 m σ H1)/\∀i m σ H,W i m σ H->
 (J.stop i H/\D.nx σ H)\/(J.go i H/\∃N:St->Hp->Prop,(∀bM H',N bM H'->∃m',m'<m/\W (i+1) m' bM H')/\∀x H',J.yO i H x H'->g x σ H' fun mC H2=>tb {D with nx:=N,ct:=N,bk:=D.nx} mC H2)
def sd(fp:List Addr)(h:Heap):List (Addr×Obj):=fp.filterMap fun b=>(h.get? b).map fun o=>(b,o)
theorem jF{fp:List Addr}{h:Heap}{b:Addr}{o:Obj}(hb:b∈fp)(e:h.get? b=some o):(b,o)∈sd fp h:=iW.mpr ⟨b,hb,by rw[e];rfl⟩
theorem BF{fp:List Addr}{h:Heap}{p:Addr×Obj}(hp:p∈sd fp h):p.1∈fp/\h.get? p.1=some p.2:=by
 obtain⟨b,hb,e⟩:=iW.mp hp;cases q:h.get? b with
 |none=>rw[q]at e;cases e
 |some o=>
  rw[q]at e;have e':(b,o)=p:=Option.some.inj e;subst e';exact⟨hb,q⟩
theorem Inv.pinned {pins:List (Addr×Obj)}{σ:St}{H:Hp}{s:Shared}{fp:List Addr}(I:Inv X pins σ H s)(hf:∀b∈fp,lR X pins H b)(ho:∀b∈fp,∃o,s.heap.get? b=some o/\∀v,o.data≠ .cell v):Inv X (pins++sd fp s.heap) σ H s:=
 I.zX fun p hp=>(bF.mp hp).elim (fun z=>I.pin p (dS _ z)) fun z=>by
   obtain⟨hb,e⟩:=BF z;obtain⟨f0,f1,f2,_⟩:=hf p.1 hb;obtain⟨o,e',d⟩:=ho p.1 hb;rw[e]at e';cases e';exact⟨e,f0,f1,f2,d⟩
theorem Inv.nv {pins pl:List (Addr×Obj)}{σ:St}{H:Hp}{s:Shared}(I:Inv X (pins++pl) σ H s):Inv X pins σ H s:=I.zX fun p hp=>I.pin p (dS _ (dU _ hp))
theorem vw{iter:Expr}{body:List Stmt}{wi:TI}{g:TG}{tb:TS}{pos:Pos}(hp:PassesOwn (model X.prog X.w) X.A X.env X.xe)(hc:X.calm=true)(hi:PI X tg iter wi)(hg:PG X tg g)(hb:kF X body tb)
  (hs:∀x,foldedSetIterable iter X.env x=pure x:=by intro _;rfl):PS X (.For tg iter body [] pos) (Sm wi g tb):=by
 intro pins s σ H D I h;refine wpAny_For (dN (hi pins s σ H _ I h) fun v s1 h1=>dN h1 fun Q1 s2 h2=>?_) hs;obtain⟨it,fp,tn,J,H2,e,I2,T,F6,f2,W,⟨m0,w0⟩,turn⟩:=h2;subst e;have yQ:∀{H':Hp},(∀b∈fp,H' b=none)->∀b∈fp,lR X pins H' b:=fun hn b hb=>⟨hn b hb,(f2 b hb).2⟩;refine codeAny_forLoop_any (fun n s'=>∃i bM H',Inv X pins bM H' s'/\tn i s'.heap/\(∀b∈fp,H' b=none)/\W i n bM H') ?_ m0 ⟨0,σ,H2,I2,F6,fun b hb=>(f2 b hb).1,w0⟩
 rintro n s3 ⟨i,wG,H3,I3,Vx,Vy,w3⟩
 rcases turn i n wG H3 w3 with⟨stop,qn⟩|⟨go,N,hN,step⟩
 ·refine g6 hp (dN (T.done X rfl rfl rfl hc i pins s3 wG H3 X.xe I3 (yQ Vy) Vx stop) fun r s4 ⟨hr,I4⟩=>?_);subst hr;exact m8 ⟨wG,H3,I4,qn⟩
 ·refine g6 hp (dN (T.item X rfl rfl rfl hc i pins s3 wG H3 X.xe I3 (yQ Vy) Vx go) fun r s4 ⟨u,hr,h4⟩=>?_);subst hr;refine g6 hp (dN h4 fun _ s5 ⟨x,H5,I5,r5,y5,Mu,Q4⟩=>?_);have WR:=I5.pinned (yQ Q4) (T.obj _ _ Mu);refine g6 hp (dN (hg _ s5 wG H5 x u _ WR r5 (step x H5 y5)) fun _ s6 ⟨WS,H6,I6,q6⟩=>?_);refine g6 hp (dN (hb _ s6 WS H6 _ I6 q6) fun f s7 q7=>?_);have again:∀{De:St} {H7:Hp},Inv X (pins++sd fp s5.heap) De H7 s7->N De H7->∃m,m<n/\∃i bM H',Inv X pins bM H' s7/\tn i s7.heap/\(∀b∈fp,H' b=none)/\W i m bM H':=fun{De H7} I7 n7=>by
   obtain⟨m',hm,w7⟩:=hN De H7 n7;refine⟨m',hm,i+1,De,H7,I7.nv,T.keep _ _ _ Mu fun b hb o e=>(I7.pin (b,o) (dS _ (dS _ (jF hb e)))).1,fun b hb=>?_,w7⟩;obtain⟨o,e,d⟩:=T.obj _ _ Mu b hb;exact(I7.pin (b,o) (dS _ (dS _ (jF hb e)))).2.1
  cases f with
  |next=>obtain⟨De,H7,I7,n7⟩:=q7;exact again I7 n7
  |cont=>obtain⟨De,H7,I7,n7⟩:=q7;exact again I7 n7
  |brk=>obtain⟨De,H7,I7,q7⟩:=q7;exact⟨De,H7,I7.nv,q7⟩
  |ret v=>obtain⟨x7,De,H7,I7,r7,q7⟩:=q7;exact⟨x7,De,H7,I7.nv,r7,q7⟩
end
end L2
namespace L2
open PySem PySem.Spec PyProof.Rows
abbrev R2:=V->V->Hp->VK->Prop
def ux(X:Cx)(f:Value->Value->Sem Value)(r:R2):Prop:=
 ∀(pins:List (Addr×Obj)) (s:Shared) (σ:St) (H:Hp) (x y:V) (v u:Value) (Q:VK),Inv X pins σ H s->RelV x v->RelV y u->r x y H Q->
  wpAny (model X.prog X.w) X.A (f v u) (EP X pins σ Q) X.xe s
def So(X:Cx)(f:Value->Sem Value)(r:V->Hp->VK->Prop):Prop:=
 ∀(pins:List (Addr×Obj)) (s:Shared) (σ:St) (H:Hp) (x:V) (v:Value) (Q:VK),Inv X pins σ H s->RelV x v->r x H Q->
  wpAny (model X.prog X.w) X.A (f v) (EP X pins σ Q) X.xe s
def jT(X:Cx)(f:Value)(r:List V->Hp->VK->Prop):Prop:=
 ∀(pins:List (Addr×Obj)) (s:Shared) (σ:St) (H:Hp) (xs:List V) (us:List Value) (Q:VK),Inv X pins σ H s->Vals xs us->r xs H Q->
  wpAny (model X.prog X.w) X.A (call f us) (EP X pins σ Q) X.xe s
def Sq(X:Cx)(r:V->Hp->(Bool->Hp->Prop)->Prop):Prop:=
 ∀(pins:List (Addr×Obj)) (s:Shared) (σ:St) (H:Hp) (x:V) (v:Value) (Q:Bool->Hp->Prop),Inv X pins σ H s->RelV x v->r x H Q->
  wpAny (model X.prog X.w) X.A (truthy v) (TP X pins σ Q) X.xe s
def Mv(r:R2)(ta tb:TE):TE:=fun σ H Q=>ta σ H fun x H1=>tb σ H1 fun y H2=>r x y H2 Q
def WT(r:V->Hp->VK->Prop)(ta:TE):TE:=fun σ H Q=>ta σ H fun x H1=>r x H1 Q
def rI(C:Int->Int->Prop)(g:Int->Int->V):R2:=fun x y H Q=>∃i j,x=.int i/\y=.int j/\C i j/\Q (g i j) H
def Nb(g:Int->Int->V):R2:=fun x y H Q=>∃i j,x=.int i/\y=.int j/\Q (g i j) H
def rU(g:Int->V):V->Hp->VK->Prop:=fun x H Q=>∃i,x=.int i/\Q (g i) H
section
variable {X:Cx}{a b c:Expr}{ta tb tc:TE}{pos:Pos}
theorem Jx(ha:PE X a ta)(hb:PE X b tb){pins:List (Addr×Obj)}{s:Shared}{σ:St}{H:Hp}{R:V->V->Hp->Prop}(I:Inv X pins σ H s)
  (h:ta σ H fun x H1=>tb σ H1 fun y H2=>R x y H2) {Q:Value->Shared->Prop} {f:Value->Value->Sem Value}
  (hf:∀v u s2 x y H2,Inv X pins σ H2 s2->RelV x v->RelV y u->R x y H2->wpAny (model X.prog X.w) X.A (f v u) Q X.xe s2):
  wpAny (model X.prog X.w) X.A (eval a X.env) (fun v bZ=>wpAny (model X.prog X.w) X.A (eval b X.env) (fun u oF=>wpAny (model X.prog X.w) X.A (f v u) Q X.xe oF) X.xe bZ) X.xe s:=by
 refine dN (ha pins s σ H _ I h) fun v s1 ⟨x,H1,I1,r1,q1⟩=>?_
 refine dN (hb pins s1 σ H1 _ I1 q1) fun u s2 ⟨y,H2,I2,r2,q2⟩=>?_
 exact hf v u s2 x y H2 I2 r1 r2 q2
theorem Nc{op:Operator}{r:R2}(ho:ux X (binaryOp op) r)(ha:PE X a ta)(hb:PE X b tb):PE X (.BinOp a op b pos) (Mv r ta tb):=by
 intro pins s σ H Q I h;exact wpAny_BinOp (Jx ha hb I h fun v u s2 x y H2 I2 rx ry q=>ho pins s2 σ H2 x y v u Q I2 rx ry q)
theorem Nd{op:UnaryOp}{r:V->Hp->VK->Prop}(ho:So X (unaryOp op) r)(ha:PE X a ta):PE X (.UnaryOp op a pos) (WT r ta):=by
 intro pins s σ H Q I h;exact UnaryOp_ (dN (ha pins s σ H _ I h) fun v s1 ⟨x,H1,I1,r1,q1⟩=>ho pins s1 σ H1 x v Q I1 r1 q1)
theorem Vz{f:Value->Value->Sem Value}{C:Int->Int->Prop}{g:Int->Int->Int}
  (rule:∀(i j:Int) (t u:Tok) (s:Shared) (Q:Value->Shared->Prop) (E:Value->Shared->Prop),C i j->Q (.int (g i j) s.toks) {s with toks:=s.toks+1}->wpAny (model X.prog X.w) X.A (f (.int i t) (.int j u)) Q E s):
  ux X f (rI C fun i j=>.int (g i j)):=by
 intro pins s σ H x y v u Q I rx ry h;obtain⟨i,j,rfl,rfl,hc,q⟩:=h;obtain⟨t,rfl⟩:=rx;obtain⟨t',rfl⟩:=ry;exact rule i j t t' s _ _ hc ⟨.int (g i j),H,I.tok _,⟨_,rfl⟩,q⟩
theorem Sr{f:Value->Value->Sem Value}{g:Int->Int->Int}
  (rule:∀(i j:Int) (t u:Tok) (s:Shared) (Q:Value->Shared->Prop) (E:Value->Shared->Prop),Q (.int (g i j) s.toks) {s with toks:=s.toks+1}->wpAny (model X.prog X.w) X.A (f (.int i t) (.int j u)) Q E s):
  ux X f (Nb fun i j=>.int (g i j)):=by
 intro pins s σ H x y v u Q I rx ry h;obtain⟨i,j,rfl,rfl,q⟩:=h;obtain⟨t,rfl⟩:=rx;obtain⟨t',rfl⟩:=ry;exact rule i j t t' s _ _ ⟨.int (g i j),H,I.tok _,⟨_,rfl⟩,q⟩
theorem Nf{f:Value->Value->Sem Value}{g:Int->Int->Bool}
  (rule:∀(i j:Int) (t u:Tok) (s:Shared) (Q:Value->Shared->Prop) (E:Value->Shared->Prop),Q (.bool (g i j)) s->wpAny (model X.prog X.w) X.A (f (.int i t) (.int j u)) Q E s):
  ux X f (Nb fun i j=>.bl (g i j)):=by
 intro pins s σ H x y v u Q I rx ry h;obtain⟨i,j,rfl,rfl,q⟩:=h;obtain⟨t,rfl⟩:=rx;obtain⟨t',rfl⟩:=ry;exact rule i j t t' s _ _ ⟨.bl (g i j),H,I,rfl,q⟩
def Dg(i j:Int):Prop:=(-(2 ^64)<i/\i<2 ^64)\/(-(2 ^64)<j/\j<2 ^64)
theorem Dg.ok {i j:Int}(h:Dg i j):IntMulOk i j:=by
 rcases h with⟨h1,h2⟩|⟨h1,h2⟩
 ·exact .of_left (intBits_le_64 h1 h2)
 ·exact .of_right (intBits_le_64 h1 h2)
theorem Jy:ux X (binaryOp .Add) (Nb fun i j=>.int (i+j)):=Sr fun _ _ _ _ _ _ _ q=>add_int q
theorem Jz:ux X (binaryOp .Mult) (rI Dg fun i j=>.int (i*j)):=Vz fun _ _ _ _ _ _ _ hc q=>mul_int q hc.ok
theorem JA:ux X (binaryOp .Mod) (rI (fun _ j=>0<j) fun i j=>.int (i % j)):=Vz fun i j _ _ _ _ _ hc q=>by
 have h1:(0:Int)<j:=hc;exact mod_int' (by omega) (by rw[Int.fmod_eq_emod_of_nonneg i (by omega)];exact q)
theorem WU{f:Value->Sem Value}{g:Int->Int}
  (rule:∀(i:Int) (t:Tok) (s:Shared) (Q:Value->Shared->Prop) (E:Value->Shared->Prop),Q (.int (g i) s.toks) {s with toks:=s.toks+1}->wpAny (model X.prog X.w) X.A (f (.int i t)) Q E s):
  So X f (rU fun i=>.int (g i)):=by
 intro pins s σ H x v Q I rx h;obtain⟨i,rfl,q⟩:=h;obtain⟨t,rfl⟩:=rx;exact rule i t s _ _ ⟨.int (g i),H,I.tok _,⟨_,rfl⟩,q⟩
theorem JB:So X (unaryOp .USub) (rU fun i=>.int (-i)):=WU fun _ _ _ _ _ q=>neg_int q
end
section
variable {X:Cx}{a b c:Expr}{ta tb tc:TE}{pos:Pos}
theorem JC{pins:List (Addr×Obj)}{σ:St}{H:Hp}{s:Shared}{Q:VK}{k k':Bool}(I:Inv X pins σ H s)(q:Q (.bl k) H)(e:k=k'):EP X pins σ Q (.bool k') s:=by
 subst e;exact⟨.bl k,H,I,rfl,q⟩
theorem Ng:ux X (compareOp .Lt) (Nb fun i j=>.bl (decide (i<j))):=Nf fun _ _ _ _ _ _ _ q=>lt_int q
theorem Nh:ux X (compareOp .Gt) (Nb fun i j=>.bl (decide (j<i))):=Nf fun _ _ _ _ _ _ _ q=>gt_int q
theorem BG:ux X (compareOp .Lt) (fun x y H Q=>∃i j,x=.str i/\y=.str j/\Q (.bl (decide (i.cps.toList<j.cps.toList))) H):=by
 intro pins s σ H x y v u Q I rx ry h;obtain⟨i,j,rfl,rfl,q⟩:=h;obtain⟨t,rfl⟩:=rx;obtain⟨t',rfl⟩:=ry;exact lt_str (JC I q rfl)
theorem oG(b:Expr){op:CmpOp}(h:op≠ .In:=by decide) (h2:op≠ .NotIn:=by decide):behindInMarks op b=false:=by
 have e1:(op==CmpOp.In)=false:=by cases op<;>first|rfl|exact absurd rfl h
 have e2:(op==CmpOp.NotIn)=false:=by cases op<;>first|rfl|exact absurd rfl h2
 cases b<;>simp[behindInMarks,e1,e2]
theorem F7{op:CmpOp}{r:R2}(ho:ux X (compareOp op) r)(ha:PE X a ta)(hb:PE X b tb)(hm:behindInMarks op b=false):PE X (.Compare a [op] [b] pos) (Mv r ta tb):=by
 intro pins s σ H Q I h;exact wpAny_Compare1 (Jx ha hb I h fun v u s2 x y H2 I2 rx ry q=>ho pins s2 σ H2 x y v u Q I2 rx ry q) hm
def Ni(t:TE):TT:=fun σ H Q=>t σ H fun x H'=>∃k,x=.bl k/\Q k H'
theorem z5{op:CmpOp}{r:R2}(ho:ux X (compareOp op) r)(ha:PE X a ta)(hb:PE X b tb)(hm:behindInMarks op b=false):PT X (.Compare a [op] [b] pos) (Ni (Mv r ta tb)):=by
 intro pins s σ H Q I h;refine wpAny_isTrue_Compare1 (dN (ha pins s σ H _ I h) fun v s1 ⟨x,H1,I1,r1,q1⟩=>dN (hb pins s1 σ H1 _ I1 q1) fun u s2 ⟨y,H2,I2,r2,q2⟩=>
  dN (ho pins s2 σ H2 x y v u _ I2 r1 r2 q2) fun c s3 ⟨z,H3,I3,r3,k,e,q3⟩=>?_) hm
 subst e;cases r3;exact m4 ⟨H3,I3,q3⟩
def F8(K:PySem.W.Frag)(x:V)(H:Hp)(k:Bool):Prop:=
 match x with
 |.dv=>k=false
 |.bl b=>k=b
 |.int i=>k=(i !=0)
 |.str y=>y.length<=sizeLine/\k=((y.length:Int) !=0)
 |.Jk y=>y.size<=sizeLine/\k=((y.size:Int) !=0)
 |.ref p=>(∃xs,iA K H p xs/\k=!xs.isEmpty)\/(∃xs,kG K H p xs/\k=!xs.isEmpty)\/∃ax,Rd H p (.dK ax)/\k=!ax.isEmpty
 |_=>False
theorem yR{κ:Type}{ax:List (κ×V)}{vs:List (κ×Value)}(r:KV ax vs):(!vs.isEmpty)=!ax.isEmpty:=by
 cases r<;>rfl
theorem se{xs:List V}{aV:List Value}(r:Vals xs aV):(!aV.toArray.isEmpty)=!xs.isEmpty:=by
 cases r<;>simp
theorem oH:(sizeLine:Nat)<2 ^63:=by rw[bT];decide
theorem JD:Sq X (fun x H Q=>∃k,F8 X.K x H k/\Q k H):=by
 intro pins s σ H x v Q I rx h;obtain⟨k,e,q⟩:=h;have hl:=oH;have hs:sizeLine=16777216:=bT;cases x with
 |dv=>
  cases rx;have e':k=false:=e;subst e';exact truthy_none ⟨H,I,q⟩
 |bl b=>
  cases rx;have e':k=b:=e;subst e';exact m4 ⟨H,I,q⟩
 |int i=>
  obtain⟨t,rfl⟩:=rx;have e':k=(i !=0):=e;subst e';exact PySem.P.truthy_int ⟨H,I,q⟩
 |str y=>
  obtain⟨t,rfl⟩:=rx;obtain⟨hy,e'⟩:y.length<=sizeLine/\k=((y.length:Int) !=0):=e;subst e';exact PySem.P.truthy_str (by omega) ⟨H,I.tok _,q⟩
 |Jk y=>
  obtain⟨t,rfl⟩:=rx;obtain⟨hy,e'⟩:y.size<=sizeLine/\k=((y.size:Int) !=0):=e;subst e';exact PySem.W.truthy_bytes (by omega) ⟨H,I.tok _,q⟩
 |ref p=>
  cases rx;have e':(∃xs,iA X.K H p xs/\k=!xs.isEmpty)\/(∃xs,kG X.K H p xs/\k=!xs.isEmpty)\/∃ax,Rd H p (.dK ax)/\k=!ax.isEmpty:=e;rcases e' with⟨xs,hx,e'⟩|⟨xs,hx,e'⟩|⟨ax,hx,e'⟩
  ·subst e';obtain⟨aV,r,pl,hz⟩:=I.list hx;have hlen:=r.length;exact wpAny_truthy_list pl.isList (by simp only[aS];omega) ⟨H,I.tok _,by rw[se r];exact q⟩
  ·subst e';obtain⟨aV,r,pl,hz⟩:=I.tuple hx;have hlen:=r.length;exact truthy_tuple pl (by simp only[aS];omega) ⟨H,I.tok _,by rw[se r];exact q⟩
  ·subst e';obtain⟨hz,hS,vs,r,m⟩:ax.length<=sizeLine/\(p==sysModules)=false/\∃vs,KV ax vs/\s.heap.DictOf (aR X.prog X.w) p vs:=hx.ok I.bV;have hlen:ax.length=vs.length:=Paired.length r;exact wpAny_truthy_dict hS m (by omega) ⟨H,I.tok _,by rw[yR r];exact q⟩
 |_=>exact(show False from e).elim
theorem w_(ha:PE X a ta)(he:∀whole,isTrue a X.env whole=(do let v<-whole;standAt a.pos;holding [v] (truthy v))):
  PT X a (fun σ H Q=>ta σ H fun x H'=>∃k,F8 X.K x H' k/\Q k H'):=by
 intro pins s σ H Q I h;exact isTrue_plain (dN (ha pins s σ H _ I h) fun v s1 ⟨x,H1,I1,r1,q1⟩=>JD pins s1 σ H1 x v Q I1 r1 q1) (he _)
theorem yS:ux X (binaryOp .Add) (fun x y H Q=>∃i j,x=.str i/\y=.str j/\i.length+j.length<=sizeLine/\Q (.str (i++j)) H):=by
 intro pins s σ H x y v u Q I rx ry h;obtain⟨i,j,rfl,rfl,hz,q⟩:=h;obtain⟨t,rfl⟩:=rx;obtain⟨t',rfl⟩:=ry;exact add_str (fun t' tk=>⟨.str (i++j),H,I.tok _,⟨_,rfl⟩,q⟩) hz
theorem vals1{x:V}{us:List Value}(r:Vals [x] us):∃u,us=[u]/\RelV x u:=by
 cases r with
 |cons r1 r2=>cases r2;exact⟨_,rfl,r1⟩
theorem vals2{x y:V}{us:List Value}(r:Vals [x,y] us):∃u w',us=[u,w']/\RelV x u/\RelV y w':=by
 cases r with
 |cons r1 r2=>
  cases r2 with
  |cons r3 r4=>cases r4;exact⟨_,_,rfl,r1,r3⟩
def Ss(K:PySem.W.Frag)(x:V)(H:Hp)(n:Nat):Prop:=
 match x with
 |.str y=>y.length<=sizeLine/\n=y.length
 |.Jk y=>y.size<=sizeLine/\n=y.size
 |.ref p=>(∃xs,iA K H p xs/\n=xs.length)\/∃xs,kG K H p xs/\n=xs.length
 |_=>False
theorem ny:jT X (.builtin "len") (fun xs H Q=>∃x n,xs=[x]/\Ss X.K x H n/\Q (.int n) H):=by
 intro pins s σ H xs us Q I r h;obtain⟨x,n,rfl,e,q⟩:=h;obtain⟨u,rfl,rx⟩:=vals1 r;have hl:=oH;have hs:sizeLine=16777216:=bT;cases x with
 |str y=>
  obtain⟨t,rfl⟩:=rx;obtain⟨hy,e'⟩:y.length<=sizeLine/\n=y.length:=e;subst e';exact len_str (by omega) ⟨.int _,H,I.tok _,⟨_,rfl⟩,q⟩
 |Jk y=>
  obtain⟨t,rfl⟩:=rx;obtain⟨hy,e'⟩:y.size<=sizeLine/\n=y.size:=e;subst e';exact PySem.W.len_bytes (by omega) ⟨.int _,H,I.tok _,⟨_,rfl⟩,q⟩
 |ref p=>
  cases rx;have e':(∃xs,iA X.K H p xs/\n=xs.length)\/∃xs,kG X.K H p xs/\n=xs.length:=e;rcases e' with⟨xs,hx,e'⟩|⟨xs,hx,e'⟩
  ·subst e';obtain⟨aV,r',pl,hz⟩:=I.list hx;have hlen:=r'.length;exact Calls.call_len_list pl.isList (by simp only[aS];omega) ⟨.int xs.length,H,I.tok _,⟨_,by simp only[aS];rw[hlen]⟩,q⟩
  ·subst e';obtain⟨aV,r',pl,hz⟩:=I.tuple hx;have hlen:=r'.length;exact len_tuple pl (by simp only[aS];omega) ⟨.int xs.length,H,I.tok _,⟨_,by simp only[aS];rw[hlen]⟩,q⟩
 |_=>exact(show False from e).elim
end
end L2
namespace L2
open PySem PySem.Spec PyProof.Rows
theorem pO.some_of {v:V}{o:Option Value}(r:pO (some v) o):∃u,o=some u/\RelV v u:=by
 cases o with
 |none=>exact(show False from r).elim
 |some u=>exact⟨u,rfl,r⟩
structure Su(K:PySem.W.Frag)(C:Addr):Prop where
 pg:PySem.W.plainGet K C Str.empty=true
 hd:PySem.W.hasDictIn K C=true
 po:PySem.W.plainOver K C=true
 sa:PySem.W.findIn K (.ref C) "__setattr__"=some (some (.builtin "object.__setattr__"))
def JE(K:PySem.W.Frag)(C:Addr)(f:Str):Prop:=PySem.W.findIn K (.ref C) f=some none
structure Meth(K:PySem.W.Frag)(C:Addr)(m:Str)(f:Addr):Prop where
 at_:PySem.W.findIn K (.ref C) m=some (some (.ref f))
 fn:PySem.W.isFn K (.ref f)=true
 kp:PySem.W.keepIn K (.ref f)=true
def JF(X:Cx)(op:Operator)(rd:V->V->Hp->VK->Prop):Prop:=
 ∀(pins:List (Addr×Obj)) (s:Shared) (σ:St) (H:Hp) (x y:V) (u v:Value) (Q:VK),Inv X pins σ H s->RelV x u->RelV y v->rd x y H Q->wpAny (model X.prog X.w) X.A (inplaceOp op u v) (EP X pins σ Q) X.xe s
section
variable {X:Cx}{o e value:Expr}{f:Str}{pos pos' JG:Pos}{ta tv:TE}
def Sv:V->V->Hp->VK->Prop:=fun x y H Q=>∃i j,x=.int i/\y=.int j/\Q (.int (i+j)) H
def Sw:V->V->Hp->VK->Prop:=fun x y H Q=>∃i j,x=.int i/\y=.int j/\Q (.int (i - j)) H
theorem JH:JF X .Add Sv:=by
 rintro pins s σ H x y u v Q I rx ry ⟨i,j,rfl,rfl,q⟩
 obtain⟨t,rfl⟩:=(show∃t,u=Value.int i t from rx);obtain⟨t',rfl⟩:=(show∃t',v=Value.int j t' from ry);exact PyProof.Rows.iadd_int ⟨.int (i+j),H,I.tok _,⟨_,rfl⟩,q⟩
theorem JI:JF X .Sub Sw:=by
 rintro pins s σ H x y u v Q I rx ry ⟨i,j,rfl,rfl,q⟩
 obtain⟨t,rfl⟩:=(show∃t,u=Value.int i t from rx);obtain⟨t',rfl⟩:=(show∃t',v=Value.int j t' from ry);exact PyProof.Rows.isub_int ⟨.int (i - j),H,I.tok _,⟨_,rfl⟩,q⟩
end
end L2
namespace L2
open PySem PySem.Spec PyProof.Rows
structure dC(k:Nat)(A:Around):Prop where
 hd:A.handled=none
 dp:A.depth+3*k+5<recursionLimit
 un:A.units+16*k+200<cLine
theorem dC.mono {j k:Nat}{A:Around}(r:dC k A)(h:j<=k):dC j A:=⟨r.hd,by have:=r.dp;omega,by have:=r.un;omega⟩
theorem dC.deeper {k:Nat}{A:Around}(r:dC (k+1) A)(env:Env):dC k (A.deeper env):=
 ⟨r.hd,by have:=r.dp;show A.depth+1+3*k+5<_;omega,by have:=r.un;show A.units+3+16*k+200<_;omega⟩
theorem dC.depth {k:Nat}{A:Around}(r:dC k A):A.depth<recursionLimit:=by have:=r.dp;omega
theorem dC.units {k:Nat}{A:Around}(r:dC k A):A.units+64<cLine:=by have:=r.un;omega
def Sz:TA:=fun _ H Q=>Q [] H
def Nj(ta:TE)(tr:TA):TA:=fun σ H Q=>ta σ H fun x H1=>tr σ H1 fun xs H2=>Q (x::xs) H2
section
variable {X:Cx}{e:Expr}{es:List Expr}{te:TE}{t:TA}{pos:Pos}
theorem oJ:PA X [] Sz:=fun _ _ _ _ H Q I h=>rS ⟨[],H,I,.nil,h⟩
theorem lE(ha:PE X e te)(hr:PA X es t)(hs:starEach (e::es) X.env=(false,eval e X.env)::starEach es X.env:=by rfl):PA X (e::es) (Nj te t):=by
 intro pos pins s σ H Q I h;rw[hs];show wpAny _ _ (spliced ((false,eval e X.env)::backTo pos (starEach es X.env))) _ _ s;refine mX (dN (ha pins s σ H _ I h) fun u s1 ⟨x,H1,I1,r1,q1⟩=>?_);exact dN (hr pos pins s1 σ H1 _ I1 q1) fun us s2 ⟨xs,H2,I2,r2,q2⟩=>⟨x::xs,H2,I2,.cons r1 r2,q2⟩
def SA(t:TA):TE:=fun σ H Q=>t σ H fun xs H1=>xs.length<=sizeLine/\∀p,H1 p=none->Q (.ref p) (upd H1 p (.tup xs))
def SD(t:TA):TE:=fun σ H Q=>t σ H fun xs H1=>xs.length<=sizeLine/\∀p,H1 p=none->Q (.ref p) (upd H1 p (.lst xs))
theorem Dh{x1}(h:PA X es t):PE X (.Tuple es x1 pos) (SA t):=by
 intro pins s σ H Q I hq;refine wpAny_Tuple_spliced (dN (h pos pins s σ H _ I hq) fun us s1 ⟨xs,H1,I1,r,z,q⟩=>⟨by rw[<-r.length];exact z,?_⟩);have hf:H1 s1.heap.objs.size=none:=I1.bV.fresh (aq _);refine⟨.ref s1.heap.objs.size,upd H1 s1.heap.objs.size (.tup xs),I1.laid (t':=s1.toks) (fun b u e=>aB _ e) (aq _) ?_,rfl,q _ hf⟩;exact⟨z,us,r,⟨_,aQ _ rfl,rfl,_,rfl,rfl⟩⟩
theorem Di(h:PA X es t):PE X (.List es pos) (SD t):=by
 intro pins s σ H Q I hq;refine wpAny_List_spliced (dN (h pos pins s σ H _ I hq) fun us s1 ⟨xs,H1,I1,r,z,q⟩=>⟨by rw[<-r.length];exact z,?_⟩);have hf:H1 s1.heap.objs.size=none:=I1.bV.fresh (aq _);refine⟨.ref s1.heap.objs.size,upd H1 s1.heap.objs.size (.lst xs),I1.laid (t':=s1.toks) (fun b u e=>aB _ e) (aq _) ?_,rfl,q _ hf⟩;exact⟨z,us,0,r,aQ _ rfl⟩
end
abbrev Sp:=List V->Hp->VK->XK->Prop
abbrev yT:=List Env->Hp->Shared->XK->Value->Shared->Prop
structure F9(P:Program)(w:World)(K:PySem.W.Frag)(mg:Str->Option Value)(base:Heap)(A:Around)(outer:List Env)(s:Shared)(H:Hp):Prop where
 frames:A.frames=some outer
 mod:Mod K mg base
 bs:∀b o,base.get? b=some o->s.heap.get? b=some o/\H b=none
 HX:base.objs.size<=s.heap.objs.size
 r8:s.heap.FunFrames base outer
 Mq:∀b∈nr outer,H b=none
 bV:md P w H s.heap
 bare:AllBare s.gens
def CE(outer:List Env)(P:Program)(w:World)(H:Hp)(s:Shared)(Q:VK)(u:Value)(s':Shared):Prop:=
 ∃v H',s'.os=s.os/\AllBare s'.gens/\Un (nr outer) [] H H' s.heap s'.heap/\md P w H' s'.heap/\RelV v u/\Q v H'
def CR(CX:yT)(outer:List Env)(P:Program)(w:World)(H:Hp)(s:Shared)(Q:VK)(E:XK)(r:Result)(s':Shared):Prop:=
 match r with
 |.ok (.ret u)=>CE outer P w H s Q u s'
 |.ok _=>False
 |.error e=>CX outer H s E e s'
structure hX(P:Program)(w:World)(K:PySem.W.Frag)(mg:Str->Option Value)(base:Heap)(CX:yT)(k:Nat)(f:Addr)(fd:FuncData)(ps:List Str)(sp:Sp):Prop where
 len:∀vs H Q E,sp vs H Q E->vs.length=ps.length
 run:∀(A:Around) (outer:List Env) (s:Shared) (H:Hp) (args:Args) (us:List Value) (vs:List V) (Q:VK) (E:XK),dC k A->F9 P w K mg base A outer s H->BindsTo s fd args (ps.zip us)->Vals vs us->sp vs H Q E->
  codeAny (model P w) A (.call (.ref f) args) (CR CX outer P w H s Q E) s
theorem hX.mono {P:Program}{w:World}{K:PySem.W.Frag}{mg:Str->Option Value}{base:Heap}{CX:yT}{j k:Nat}{f:Addr}{fd:FuncData}{ps:List Str}{sp:Sp}(F:hX P w K mg base CX j f fd ps sp)(h:j<=k):
  hX P w K mg base CX k f fd ps sp:=⟨F.len,fun A outer s H args us vs Q E hr=>F.run A outer s H args us vs Q E (hr.mono h)⟩
section
variable {X:Cx}{pins:List (Addr×Obj)}{σ:St}{H:Hp}{s s':Shared}
theorem Inv.SE (I:Inv X pins σ H s):F9 X.prog X.w X.K X.mg X.base X.A X.stack s H:=
 ⟨I.ok.frames,I.ok.mod,I.bs,aZ I.ok.HX I.sz,I.stack,I.vn,I.bV,I.bare⟩
theorem Inv.after {Q:VK}{u:Value}(I:Inv X pins σ H s)(h:CE X.stack X.prog X.w H s Q u s'):EP X pins σ Q u s':=by
 obtain⟨v,H',os,bare,un,bV,r,q⟩:=h;obtain⟨hh,g,d,t,WV⟩:=s';obtain rfl:WV=s.os:=os;exact⟨v,H',I.call (h':=hh) (g':=g) (d':=d) (t':=t) (ch:=[]) un bV bare (fun b z=>absurd z (by simp)),r,q⟩
end
def Ib(sp:Sp)(Ic:List V)(E:XK)(t:TA):TE:=fun σ H Q=>t σ H fun vs H1=>sp (vs++Ic) H1 Q E
def Binds(K:PySem.W.Frag)(fd:FuncData)(ps:List Str)(ds:List Value):Prop:=
 ∀(s:Shared) (us:List Value),K.In s.heap->(us++ds).length=ps.length->BindsTo s fd ⟨us,[]⟩ (ps.zip (us++ds))
theorem Binds.all {K:PySem.W.Frag}{fd:FuncData}{ps:List Str}(h:∀us:List Value,us.length=ps.length->bindArgs fd ⟨us,[]⟩=pure (ps.zip us)):Binds K fd ps []:=fun s us _ hl=>by
 rw[dq]at hl⊢;exact .of_eq (h us hl)
def Passes(CX:yT)(X:Cx)(E:XK):Prop:=∀(pins:List (Addr×Obj)) (σ:St) (H:Hp) (s:Shared) (e:Value) (s':Shared),Inv X pins σ H s->CX X.stack H s E e s'->X.xe e s'
section
variable {X:Cx}{CX:yT}{k:Nat}{f C:Addr}{fd:FuncData}{ps:List Str}{sp:Sp}{Ic:List V}{ds:List Value}{E:XK}{x m:Str}{p pos apos:Pos}{e o:Expr}{es:List Expr}{ta:TE}{t:TA}
theorem JJ{pins:List (Addr×Obj)}{σ:St}{H:Hp}{s:Shared}{Q:VK}{us:List Value}{vs:List V}(F:hX X.prog X.w X.K X.mg X.base CX k f fd ps sp)(hr:dC k X.A)(hb:Binds X.K fd ps ds)(hd:Vals Ic ds)(hx:Passes CX X E)
  (I:Inv X pins σ H s) (r:Vals vs us) (h:sp (vs++Ic) H Q E):wpAny (model X.prog X.w) X.A (call (.ref f) us) (EP X pins σ Q) X.xe s:=by
 have r2:Vals (vs++Ic) (us++ds):=r.append hd;have hl:(us++ds).length=ps.length:=by rw[<-r2.length];exact F.len _ _ _ _ h
 refine wpAny_call (g8 (F.run X.A X.stack s H ⟨us,[]⟩ (us++ds) (vs++Ic) Q E hr I.SE (hb s us I.Mr hl) r2 h) fun r s' hq=>?_);cases r with
 |error e=>exact hx pins σ H s e s' I hq
 |ok fl=>
  cases fl with
  |ret u=>exact I.after hq
  |next=>exact False.elim hq
  |brk=>exact False.elim hq
  |cont=>exact False.elim hq
theorem vx(F:hX X.prog X.w X.K X.mg X.base CX k f fd ps sp)(hr:dC k X.A)(hg:Gl X x)(hm:X.mg x=some (.ref f))(hk:PySem.W.keepIn X.K (.ref f)=true)(hb:Binds X.K fd ps ds)(hd:Vals Ic ds)(hx:Passes CX X E)
  (ha:PA X (e::es) t) (iS:(x==("__debug__":Str))=false:=by decide) (he:starEach (e::es) X.env=(false,eval e X.env)::starEach es X.env:=by rfl) (pq:(backTo pos (starEach es X.env)).any (·.1)=false:=by rfl):
  PE X (.Call (.Name x p) (e::es) [] pos) (Ib sp Ic E t):=by
 intro pins s σ H Q I h;refine mY (F2 I hg hm ?_ iS);refine PySem.W.callWith_K (h₀:=X.base) I.ok.mod.QZ hk (dN (ha pos pins s σ H _ I h) fun us s1 ⟨vs,H1,I1,r,q⟩=>⟨I1.Mr,?_⟩) he pq;exact JJ F hr hb hd hx I1 r q
structure Mk(K:PySem.W.Frag)(C f:Addr):Prop where
 makes:PySem.W.makesIn K C=true
 init:PySem.W.findIn K (.ref C) "__init__"=some (some (.ref f))
 fn:PySem.W.isFn K (.ref f)=true
 kp:PySem.W.keepIn K (.ref C)=true
end
structure eB(N P:List Str)(sc:Scope):Prop where
 kind:sc.kind=.function
 co:sc.isCoroutine=false
 gen:sc.isGenerator=false
 nd:N.Nodup
 pre:N.take P.length=P
 par:∀x∈P,sc.names.lookup x=some .local\/sc.names.lookup x=some .cell
 JK:∀y∈sc.names,y.2≠ .free
theorem uy{kindOf:Str->Option NameKind}{x:Str}:∀{binds:List (Str×Value)} {m:Str->Option Value},(∀v,(x,v)∉binds)->bindL kindOf binds m x=m x
 |[],_,_=>rfl
 |(n,v)::r,m,h=>by
  unfold bindL;rw[uy fun w hw=>h w (aO _ hw)];split
  ·have:x≠n:=by rintro rfl;exact h v aP
   simp[this]
  ·rfl
theorem uz{kindOf:Str->Option NameKind}{x:Str}:∀{binds:List (Str×Value)} {m:Str->Option Value},(∀v,(x,v)∉binds)->bindC kindOf binds m x=m x
 |[],_,_=>rfl
 |(n,v)::r,m,h=>by
  unfold bindC;rw[uz fun w hw=>h w (aO _ hw)];split
  ·rfl
  ·have:x≠n:=by rintro rfl;exact h v aP
   simp[this]
theorem uA{kindOf:Str->Option NameKind}{x:Str}{v:Value}:∀{P:List Str} {vs:List Value} {i:Nat} {m:Str->Option Value},P.Nodup->P[i]?=some x->vs[i]?=some v->kindOf x=some .local->
  bindL kindOf (P.zip vs) m x=some v
 |[],_,_,_,_,h,_,_=>by simp at h
 |_::_,[],_,_,_,_,h,_=>by simp at h
 |p::P,w::vs,0,m,nd,h1,h2,hk=>by
  simp at h1 h2;subst h1;subst h2;show bindL kindOf ((p,w)::P.zip vs) m p=_;unfold bindL;rw[uy fun v hv=>(dW.mp nd).1 (rM hv).1,ab hk];simp
 |p::P,w::vs,i+1,m,nd,h1,h2,hk=>by
  show bindL kindOf ((p,w)::P.zip vs) m x=_;unfold bindL;exact uA (i:=i) (dW.mp nd).2 (by simpa using h1) (by simpa using h2) hk
theorem uB{kindOf:Str->Option NameKind}{x:Str}{v:Value}:∀{P:List Str} {vs:List Value} {i:Nat} {m:Str->Option Value},P.Nodup->P[i]?=some x->vs[i]?=some v->kindOf x≠some .local->
  bindC kindOf (P.zip vs) m x=some v
 |[],_,_,_,_,h,_,_=>by simp at h
 |_::_,[],_,_,_,_,h,_=>by simp at h
 |p::P,w::vs,0,m,nd,h1,h2,hk=>by
  simp at h1 h2;subst h1;subst h2;show bindC kindOf ((p,w)::P.zip vs) m p=_;unfold bindC;rw[uz fun v hv=>(dW.mp nd).1 (rM hv).1,ae hk];simp
 |p::P,w::vs,i+1,m,nd,h1,h2,hk=>by
  show bindC kindOf ((p,w)::P.zip vs) m x=_;unfold bindC;exact uB (i:=i) (dW.mp nd).2 (by simpa using h1) (by simpa using h2) hk
def start(N:List Str)(vs:List V):St:=vs.map some++List.replicate (N.length - vs.length) none
def j3(CX:yT)(P:Program)(w:World)(K:PySem.W.Frag)(mg:Str->Option Value)(base:Heap)(N:List Str)(qual:Str)(scope:Scope)(f:Addr)(cd:Value)(A:Around)(outer:List Env)(s:Shared)(H:Hp)(E:XK):Cx where
 prog:=P
 w:=w
 K:=K
 mg:=mg
 base:=base
 A:=A.deeper (envOfC qual scope s.heap.objs.size f cd)
 N:=N
 fj:=s
 wY:=H
 env:=envOfC qual scope s.heap.objs.size f cd
 outer:=outer
 stack:=envOfC qual scope s.heap.objs.size f cd::outer
 ex:=[]
 calm:=true
 fn:=fun _=>true
 pn:=[]
 xe:=fun e s'=>wpAny (model P w) (A.deeper (envOfC qual scope s.heap.objs.size f cd)) (leaving (envOfC qual scope s.heap.objs.size f cd) e) (fun _ FI=>CX outer H s E e FI) (fun e' FI=>CX outer H s E e' FI) s'
theorem xa{sc:Scope}{n:Nat}{x:Str}(h:sc.names.lookup x=some .cell):∃c,(cellsFrom n sc.names []).lookup x=some c:=by
 have q:=PySem.W.cellsFrom_some sc.names n [] (.inl h);exact qQ.mp q
theorem BH{CX:yT}{P:Program}{w:World}{K:PySem.W.Frag}{mg:Str->Option Value}{base:Heap}{N ps:List Str}{qual:Str}{scope:Scope}{f:Addr}{cd:Value}{A:Around}{outer:List Env}{s s1:Shared}{H:Hp}{E:XK}{us:List Value}{vs:List V}
  (S:eB N ps scope) (hd:A.handled=none) (e0:F9 P w K mg base A outer s H) (hl:vs.length=ps.length) (r:Vals vs us)
  (x:InCallC s s.heap.objs.size (bindL (envOfC qual scope s.heap.objs.size f cd).kindOf (ps.zip us) fun _=>none) (cellsFrom (s.heap.objs.size+1) scope.names []) (bindC (envOfC qual scope s.heap.objs.size f cd).kindOf (ps.zip us) fun _=>none) s1):
  Inv (j3 CX P w K mg base N qual scope f cd A outer s H E) [] (start N vs) H s1:=by
 have pq:ps.length<=N.length:=by have:=b9 List.length S.pre;rw[gX]at this;omega
 obtain⟨h1,tk,rfl,hk⟩:=x.done;have Mw:∀b:Addr,b∉(j3 CX P w K mg base N qual scope f cd A outer s H E).ex:=fun b z=>absurd (show b∈([]:List Addr)from z) (by simp);refine⟨⟨e0.mod,S.kind,rfl,rfl,aq _,fun y z c h1 h2=>?_,fun y hy=>?_,fun y c _ h=>?_,fun _=>hd,Around.frames_deeper e0.frames,.inr ⟨rfl,rfl⟩,fun b z=>absurd z (Mw b),e0.bs,e0.HX,fun b _ _=>Mw b,fun b z=>absurd z (Mw b),e0.r8,e0.Mq⟩,
  rfl,e0.bare,Un.kept hk,⟨_,x.toInCall.ns,fun i y v h1 h2 h3=>?_⟩,fun y c h=>⟨_,x.cell y c h⟩,e0.bV.fresh (aq _),fun y c h=>?_,fun p hp=>absurd (show p∈([]:List (Addr×Obj))from hp) (by simp),e0.bV.kept hk,?_⟩
 ·exact name_of_addr x.apart (gB h1) (gB h2)
 ·have hy:scope.names.lookup y=some .cell\/scope.names.lookup y=some .free:=hy;rcases hy with hy|hy
  ·exact xa hy
  ·exact absurd rfl (S.JK _ (gB hy))
 ·exact fX (x.above y c (gB h))
 ·have hi:i<vs.length:=by
   unfold start at h2;by_cases hi:i<vs.length
   ·exact hi
   ·rw[dH (by simpa using hi)]at h2;rw[mL]at h2;split at h2<;>cases h2
  have ha:vs[i]?=some v:=by
   unfold start at h2;rw[b8 (by simpa using hi),aL]at h2;cases e:vs[i]? with
   |none=>rw[e]at h2;cases h2
   |some a=>rw[e]at h2;cases h2;rfl
  obtain⟨u,hu,rv⟩:=r.get ha;have hp:ps[i]?=some y:=by
   rw[<-S.pre,List.getElem?_take_of_lt (by omega)];exact h1
  have VA:ps.Nodup:=by rw[<-S.pre];exact S.nd.sublist (rm _ _)
  refine⟨u,rv,?_⟩;rcases S.par y (bg hp)with k|k
  ·exact .inl ⟨k,uA VA hp hu k⟩
  ·obtain⟨c,e⟩:=xa (n:=s.heap.objs.size+1) k;refine .inr ⟨.inl k,c,e,?_⟩;have q:=x.cell y c e;rw[uB VA hp hu (by show scope.names.lookup y≠_;rw[k];decide)]at q;exact q
 ·exact e0.bV.fresh (fX (x.above y c (gB h)))
 ·unfold start;show _=N.length;rw[aY,ak,mP];omega
theorem Dj{CX:yT}{P:Program}{w:World}{K:PySem.W.Frag}{mg:Str->Option Value}{base:Heap}{k:Nat}{f:Addr}{name qual:Str}{params:Arguments}{body:List Stmt}{scope:Scope}{dV kV doc pm dw ct oc:Value}{an od:Option Addr}
  {z6:Array (Option Value)} {N ps:List Str} {sp:Sp} (lk:K.lookup f=some ⟨oc,od,.func (PySem.W.fnOf name qual params body scope dV kV doc pm an dw ct),z6⟩) (pQ:PySem.W.codeIn K dw qual=true) (S:eB N ps scope)
  (len:∀vs H Q E,sp vs H Q E->vs.length=ps.length)
  (hZ:∀(A:Around) (outer:List Env) (s:Shared) (H:Hp) (vs:List V) (Q:VK) (E:XK),dC k (A.deeper (envOfC qual scope s.heap.objs.size f dw))->sp vs H Q E->
   ∃t,kF (j3 CX P w K mg base N qual scope f dw A outer s H E) body t/\t {nx:=fun _ H'=>Q .dv H',rt:=Q} (start N vs) H):
  hX P w K mg base CX (k+1) f (PySem.W.fnOf name qual params body scope dV kV doc pm an dw ct) ps sp:=by
 refine⟨len,fun A outer s H args us vs Q E hr e0 hb r Ie=>?_⟩;have hl:=len _ _ _ _ Ie;have KX:K.In s.heap:=e0.mod.QZ.keeps fun b o e=>(e0.bs b o e).1;have lim:s.heap.NoLimit:=e0.mod.nolimit.keeps fun b o e=>(e0.bs b o e).1;have Nk:∀y∈ps.zip us,scope.names.lookup y.1=some .local\/(scope.names.lookup y.1=some .cell/\((cellsFrom (s.heap.objs.size+1) scope.names []).lookup y.1).isSome=true):=fun⟨n,v⟩ hy=>by
  rcases S.par n (rM hy).1 with q|q
  ·exact .inl q
  ·exact .inr ⟨q,PySem.W.cellsFrom_some _ _ _ (.inl q)⟩
 refine codeAny_call_function hr.depth (KX _ _ lk) rfl S.co S.gen rfl (PySem.W.codeRec_of KX pQ) (hb _ _ _ _ ?_);refine wpAny_newFunctionEnv_cells S.kind Nk fun env he s1 x=>?_
 subst he;refine⟨lim.keeps x.toInCall.keep,codeAny_func ?_⟩;obtain⟨t,ht,hq⟩:=hZ A outer s H vs Q E (hr.deeper _) Ie;have I:Inv (j3 CX P w K mg base N qual scope f dw A outer s H E) [] (start N vs) H s1:=BH S hr.hd e0 hl r x;refine cT (ht [] s1 (start N vs) H _ I hq) (fun fl s' hs=>?_) fun e s' hs=>hs;have fin:∀{bM:St} {H':Hp} {v:V} {u:Value},Inv (j3 CX P w K mg base N qual scope f dw A outer s H E) [] bM H' s'->RelV v u->Q v H'->CE outer P w H s Q u s':=
  fun{bM H' v u} J rv q=>⟨v,H',J.os,J.bare,J.base,J.bV,rv,q⟩
 cases fl with
 |ret u=>
  obtain⟨v,bM,H',J,rv,q⟩:=hs;exact fin J rv q
 |next=>
  obtain⟨bM,H',J,q⟩:=hs;exact fin (v:=V.dv) (u:=Value.none) J rfl q
 |brk=>
  obtain⟨_,_,_,q⟩:=hs;exact False.elim q
 |cont=>
  obtain⟨_,_,_,q⟩:=hs;exact False.elim q
end L2
namespace L2
open PySem PySem.Spec PyProof.Rows
section
variable {X:Cx}{x:Str}{p pos:Pos}{e:Expr}{es:List Expr}{t:TA}{id T:String}{r:List V->Hp->VK->Prop}
def Q5(r:List V->Hp->VK->Prop)(t:TA):TE:=fun σ H Q=>t σ H fun vs H1=>r vs H1 Q
theorem xb(hc:jT X (.builtin id) r)(hg:Gl X x)(hm:X.mg x=none)(hv:bootBuiltins x=some (.builtin id))(ha:PA X (e::es) t)(hn:x≠"__name__":=by decide) (iS:(x==("__debug__":Str))=false:=by decide)
  (he:starEach (e::es) X.env=(false,eval e X.env)::starEach es X.env:=by rfl) (pq:(backTo pos (starEach es X.env)).any (·.1)=false:=by rfl):PE X (.Call (.Name x p) (e::es) [] pos) (Q5 r t):=by
 intro pins s σ H Q I h;refine mY (vp I hg hm hv ?_ hn iS);exact PyProof.Rows.callWith_builtin1 (dN (ha pos pins s σ H _ I h) fun us s1 ⟨vs,H1,I1,r1,q1⟩=>hc pins s1 σ H1 vs us Q I1 r1 q1) he pq
theorem jg(hc:jT X (.type T) r)(hg:Gl X x)(hm:X.mg x=none)(hv:bootBuiltins x=some (.type T))(ha:PA X (e::es) t)(hn:x≠"__name__":=by decide) (iS:(x==("__debug__":Str))=false:=by decide)
  (he:starEach (e::es) X.env=(false,eval e X.env)::starEach es X.env:=by rfl) (pq:(backTo pos (starEach es X.env)).any (·.1)=false:=by rfl):PE X (.Call (.Name x p) (e::es) [] pos) (Q5 r t):=by
 intro pins s σ H Q I h;refine mY (vp I hg hm hv ?_ hn iS);exact wQ (dN (ha pos pins s σ H _ I h) fun us s1 ⟨vs,H1,I1,r1,q1⟩=>hc pins s1 σ H1 vs us Q I1 r1 q1) he pq
end
end L2
namespace HT
open PySem PyProof.Rows
def lexLt:List Int->List Int->Bool
 |[],[]=>false
 |[],_::_=>true
 |_::_,[]=>false
 |x::xs,y::ys=>if x=y then lexLt xs ys else decide (x<y)
theorem yU(x y:Int)(xs ys:List Int):lexLt (x::xs) (y::ys)=if x=y then lexLt xs ys else decide (x<y):=rfl
theorem ue:lexLt [] []=false:=rfl
theorem sf(y:Int)(ys:List Int):lexLt [] (y::ys)=true:=rfl
theorem sg(x:Int)(xs:List Int):lexLt (x::xs) []=false:=rfl
theorem Dl(A:Around)(s:Shared)(a:Int)(t:Tok)(c:Int)(u:Tok):∃e,SeqAt.EqAt A s (.int a t) (.int c u) e/\(e=true↔a=c):=
 ⟨(a==c),SeqAt.EqAt.int_int a t c u,by simp⟩
theorem Dm(A:Around)(s:Shared)(a:Int)(t:Tok)(c:Int)(u:Tok)(prog:Program)(w:World)(E:Value->Shared->Prop)(Q:Value->Shared->Prop)(h:Q (.bool (decide (a<c))) s):
  wpAny (model prog w) A (richCompare .Lt (.int a t) (.int c u)) Q E s:=
 (PyProof.Rows.lt_int h:wpAny (model prog w) A (compareOp .Lt (.int a t) (.int c u)) Q E s)
section
open PySem.SeqAt
open PySem.AutoSeq1 (wpAny_loadPart')
open PySem.MeetsSeq PySem.MeetsSeq2 PySem.MeetsSeq3
theorem uf(l b:Addr)(items eK:Array Value)(n n2:Nat)(dd FJ:Option Addr)(sl Ig:Array (Option Value))(ns ms:List Int)(hi:IntsAre items.toList ns)(hj:IntsAre eK.toList ms):
  Meets (Builtin.«tuple.__lt__» ⟨[.ref l,.ref b],[]⟩)
   (fun _ R s=>s.heap.get? l=some {cls:=.type "tuple",dict:=dd,data:=.seq items n,slots:=sl}/\s.heap.get? b=some {cls:=.type "tuple",dict:=FJ,data:=.seq eK n2,slots:=Ig}/\
    R (.ok (.ret (.bool (lexLt ns ms)))) s):=
 .of_wp fun prog w A R s h=>by
  obtain⟨hp,g,d,tk,os⟩:=s;obtain⟨hl,hb,h⟩:=h;have f2:=AutoSeq1.sub_tuple_tuple;have z1:items.size=ns.length:=by rw[<-hi.length];simp
  have z2:eK.size=ms.length:=by rw[<-hj.length];simp
  wp_walk using wpAny_loadPart' hl,wpAny_loadPart' hb,iz _ (fun rest b s'=>b.1=none/\s'=⟨hp,g,d,tk,os⟩/\∃(vs ws:List Value) (Mx My:List Int),rest=vs.zip ws/\
   IntsAre vs Mx/\IntsAre ws My/\Mx.length+eK.size=My.length+items.size/\R (.ok (.ret (.bool (lexLt Mx My)))) ⟨hp,g,d,tk,os⟩) _
  case turn=>
   rintro ⟨y,x⟩ rest b s' ⟨lF,rfl,vs,ws,Mx,My,hz,SF,Q6,hlen,hR⟩
   cases SF with
   |nil=>rw[List.zip_nil_left]at hz;cases hz
   |cons a t SG=>
    cases Q6 with
    |nil=>rw[List.zip_nil_right]at hz;cases hz
    |cons c u SH=>
     rw[rf]at hz;injection hz with WW Dn
     injection WW with hy hx
     subst hy hx;rw[yU]at hR;simp only[bb]at hlen;obtain⟨e,he,Nl⟩:=Dl A.in1 ⟨hp,g,d,tk,os⟩ a t c u;refine aa (he prog w _ _ ?_);cases e with
     |true=>
      rw[ab (Nl.mp rfl)]at hR
      wp_walk
      exact⟨rfl,rfl,_,_,_,_,Dn,SG,SH,by omega,hR⟩
     |false=>
      rw[ae (fun q=>absurd (Nl.mpr q) cR)]at hR;have WX:=Dm A.in1 ⟨hp,g,d,tk,os⟩ a t c u prog w
      wp_walk using WX
      exact⟨_,rfl,by simpa using hR⟩
  case fin=>
   rintro ⟨b1,b2⟩ s' ⟨lF,rfl,vs,ws,Mx,My,hz,SF,Q6,hlen,hR⟩
   simp only at lF;subst lF;have hv:lexLt Mx My=decide (items.size<eK.size):=by
    cases SF with
    |nil=>
     cases Q6 with
     |nil=>
      simp only[dX]at hlen;rw[ue];exact(aX (by omega)).symm
     |cons c u hw=>
      simp only[dX,bb]at hlen;rw[sf];exact(bj (by omega)).symm
    |cons a t hv=>
     cases Q6 with
     |nil=>
      simp only[dX,bb]at hlen;rw[sg];exact(aX (by omega)).symm
     |cons c u hw=>
      rw[rf]at hz;cases hz
   rw[hv]at hR
   wp_walk
   exact⟨_,rfl,by simpa[Builtin.Tuple.tupleCompareSizes]using hR⟩
  case h=>
   exact⟨rfl,rfl,items.toList,eK.toList,ns,ms,rfl,hi,hj,by omega,h⟩
end
section
variable {prog:Program}{w:World}{A:Around}{E:Value->Shared->Prop}{s:Shared}
theorem sj{l b:Addr}{items eK:Array Value}{ns ms:List Int}{Q:Value->Shared->Prop}(hl:IsTup s.heap l items)(hb:IsTup s.heap b eK)(hi:IntsAre items.toList ns)(hj:IntsAre eK.toList ms)
  (hu:A.units<cLine) (h:Q (.bool (lexLt ns ms)) s):wpAny (model prog w) A (compareOp .Lt (.ref l) (.ref b)) Q E s:=by
 obtain⟨⟨cls,dd,data,sl⟩,ho,hc,n,hd⟩:=id hl;obtain⟨⟨SI,FJ,data2,Ig⟩,JL,Nm,n2,hd2⟩:=id hb;simp only at hc hd Nm hd2;subst hc hd Nm hd2;exact richCompare_meets_room (op:=.Lt) ⟨_,ho,rfl⟩ ⟨_,JL,rfl⟩ PySem.F.slot_tuple_lt PySem.F.entry_tuple_lt (PySem.F.args_tuple_lt_2 _ _) (uf l b items eK n n2 dd FJ sl Ig ns ms hi hj)
  ⟨ho,JL,show Value.bool (lexLt ns ms)≠Value.notImplemented/\Q (.bool (lexLt ns ms)) s from⟨(fun x=>nomatch x),h⟩⟩ hu
theorem F_{t b:Addr}{vs ws:List Value}{Q:Value->Shared->Prop}(ht:IsTup s.heap t vs.toArray)(hb:IsTup s.heap b ws.toArray)(hv:vs≠[])
  (h1:ws=[]->Q (.ref t) s) (h2:ws≠[]->Q (.ref s.heap.objs.size) {s with heap:=s.heap.push {cls:=.type "tuple",data:=.seq (vs++ws).toArray}})
  (hsz:vs.length+ws.length<=sizeLine):wpAny (model prog w) A (binaryOp .Add (.ref t) (.ref b)) Q E s:=by
 obtain⟨⟨cls,dd,data,sl⟩,ho,hc,n,hd⟩:=id ht;obtain⟨⟨SI,FJ,data2,Ig⟩,JL,Nm,n2,hd2⟩:=id hb;simp only at hc hd Nm hd2;subst hc hd Nm hd2;have e:vs.toArray++ws.toArray=(vs++ws).toArray:=by simp
 by_cases hw:ws=[]
 ·exact concat_meets ⟨_,ho,rfl⟩ ⟨_,JL,rfl⟩ noFill_tuple_add seq_tuple_add qT qS (qR _ _)
   (tuple_addW1 t b vs.toArray ws.toArray n n2 dd FJ sl Ig (by simpa using hv) (by simp[hw])) ⟨ho,JL,h1 hw⟩
 ·refine concat_meets ⟨_,ho,rfl⟩ ⟨_,JL,rfl⟩ noFill_tuple_add seq_tuple_add qT qS (qR _ _)
   (tuple_addW2 t b vs.toArray ws.toArray n n2 dd FJ sl Ig (by simpa using hv) (by simpa using hw) (by rw[aS,aS];exact hsz)) ⟨ho,JL,?_⟩
  rw[e];exact h2 hw
def fb(n d:Nat):Option Int->Nat
 |none=>d
 |some v=>if v<0 then(v+(n:Int)).toNat else min v.toNat n
theorem Ga(n d k:Nat):fb n d (some (k:Int))=min k n:=by
 show(if(k:Int)<0 then((k:Int)+(n:Int)).toNat else min (k:Int).toNat n)=min k n;rw[ae (by omega),gD]
theorem JM(n d:Nat)(hd:d<=n)(o:Option Int):fb n d o<=n:=by
 cases o with
 |none=>exact hd
 |some v=>
  show(if v<0 then(v+(n:Int)).toNat else min v.toNat n)<=n;by_cases hv:v<0
  ·rw[ab hv];omega
  ·rw[ae hv];exact Nat.min_le_right _ _
theorem vy(v:Int)(n d:Nat):(if v<0 then max (v+(n:Int)) 0 else min v (n:Int))=((fb n d (some v):Nat):Int):=by
 show(if v<0 then max (v+(n:Int)) 0 else min v (n:Int))=(((if v<0 then(v+(n:Int)).toNat else min v.toNat n):Nat):Int);by_cases hv:v<0
 ·simp only[ab hv];omega
 ·simp only[ae hv];omega
theorem yV(lo hi:Option Int)(n:Nat):Builtin.Slice.sliceAdjust lo hi 1 (n:Int)=(((fb n 0 lo:Nat):Int),((fb n n hi:Nat):Int)):=by
 have h1:¬((1:Int)<0):=by omega
 unfold Builtin.Slice.sliceAdjust;simp only[h1,bB];refine kD ?_ ?_
 ·cases lo with
  |none=>rfl
  |some v=>exact vy v n 0
 ·cases hi with
  |none=>rfl
  |some v=>exact vy v n n
theorem yW(i j:Nat):Builtin.Slice.slicePlaces (i:Int) (j:Int) 1=j - i:=by
 unfold Builtin.Slice.slicePlaces;have h1:(1:Int)>0:=by omega
 simp only[h1,f_,Int.ediv_one];split<;>omega
theorem sk{v:Value}{o:Option Int}{Q:Option Int->Shared->Prop}(p:IsPart v o)(h:Q o s):wpAny (model prog w) A (Builtin.Slice.slicePartIndex v) Q E s:=by
 cases p with
 |none=>exact slicePart_none h
 |int i t=>exact slicePart_int h
theorem jh{sl:Addr}{vl vu:Value}{lo hi:Option Int}{n:Nat}{Q:Int×Int×Nat->Shared->Prop}(hs:s.heap.IsSliceOf sl vl vu .none)(pl:IsPart vl lo)(pu:IsPart vu hi)
  (h:Q (((fb n 0 lo:Nat):Int),1,fb n n hi - fb n 0 lo) s):wpAny (model prog w) A (Builtin.Slice.sliceApplied (.ref sl) (pure (n:Int))) Q E s:=by
 obtain⟨os,BI,JN,FK⟩:=id hs;unfold Builtin.Slice.sliceApplied Builtin.Slice.sliceFields;refine aa (aa (jf BI FK (x:=vl) rfl (aa (jf BI FK (x:=vu) rfl (aa (jf BI FK (x:=.none) rfl (af ?_)))))));refine aa (slicePart_none ?_);show wpAny _ _ (if((1:Int)==0)=true then _ else _) _ _ s;rw[ae (by decide)];refine aa (sk pl (aa (sk pu (aa (af ?_)))));show wpAny _ _ (match Builtin.Slice.sliceAdjust lo hi 1 (n:Int)with|(lo,hi)=>pure (lo,(1:Int),Builtin.Slice.slicePlaces lo hi 1)) _ _ s;rw[yV lo hi n];show wpAny _ _ (pure (((fb n 0 lo:Nat):Int),(1:Int),Builtin.Slice.slicePlaces ((fb n 0 lo:Nat):Int) ((fb n n hi:Nat):Int) 1)) _ _ s;rw[yW];exact af h
theorem Dp(xs:Array Value)(i k:Nat):((List.range k).filterMap fun(m:Nat)=>xs[((i:Int)+(m:Int)*1).toNat]?).toArray=((xs.toList.drop i).take k).toArray:=by
 have e:(fun(m:Nat)=>xs[((i:Int)+(m:Int)*1).toNat]?)=fun m=>xs[i+m]? :=by
  funext m;have:((i:Int)+(m:Int)*1).toNat=i+m:=by omega
  rw[this]
 rw[e];have:=pick_run xs i k;rw[List.filterMap_map]at this;have e2:((fun x=>xs[x]?)∘fun x=>i+x)=fun m=>xs[i+m]? :=rfl
 rw[e2]at this;rw[this]
theorem nA{t sl:Addr}{items:Array Value}{vl vu:Value}{lo hi:Option Int}{Q:Value->Shared->Prop}(ht:IsTup s.heap t items)(hs:s.heap.IsSliceOf sl vl vu .none)(pl:IsPart vl lo)(pu:IsPart vu hi)
  (hw:¬(fb items.size 0 lo=0/\fb items.size items.size hi=items.size))
  (h:Q (.ref s.heap.objs.size) {s with heap:=s.heap.push {cls:=.type "tuple",data:=.seq ((items.toList.drop (fb items.size 0 lo)).take (fb items.size items.size hi - fb items.size 0 lo)).toArray}})
  (hsz:items.size<=sizeLine):wpAny (model prog w) A (getItem (.ref t) (.ref sl)) Q E s:=by
 have z7:sizeOk (.seq ((items.toList.drop (fb items.size 0 lo)).take (fb items.size items.size hi - fb items.size 0 lo)).toArray):=by
  show((items.toList.drop (fb items.size 0 lo)).take (fb items.size items.size hi - fb items.size 0 lo)).toArray.size<=sizeLine;rw[aS,gX,rD,bc];omega
 have hj:fb items.size items.size hi<=items.size:=JM _ _ (aq _) hi;obtain⟨os,BI,JN,FK⟩:=id hs;have SJ:s.TypeIs (.ref sl) "slice":=⟨os,BI,JN⟩;unfold getItem
 try with_reducible refine cu ?_
 first|refine aa (af ?_)|skip
 refine aa (rV ht.typeIs (by decide) ?_);refine aa (jD (name:=Str.ofString "__getitem__") ht.typeIs fN
  (dM fN ht.typeIs entry_tuple_getitem ?_ (args_tuple_getitem _ _)))
 show wpAny _ _ (Builtin.Tuple.tupleItemsOf (.ref t)>>=_) _ _ s;refine aa (tupleItemsOf_ ht ?_);refine aa (fo SJ ?_);rw[ab (by decide)];refine aa (jh hs pl pu ?_);have JO:¬((((fb items.size 0 lo:Nat):Int)==0&&(1:Int)==1&&(fb items.size items.size hi - fb items.size 0 lo)==items.size)=true):=by
  intro q;rw[aE,aE]at q;have q1:((fb items.size 0 lo:Nat):Int)=0:=eq_of_beq q.1.1;have q2:fb items.size items.size hi - fb items.size 0 lo=items.size:=eq_of_beq q.2;exact hw ⟨by omega,by omega⟩
 show wpAny _ _ (if(((fb items.size 0 lo:Nat):Int)==0&&(1:Int)==1&&(fb items.size items.size hi - fb items.size 0 lo)==items.size)=true then _ else _) _ _ s;rw[ae JO,Dp]
 first
  |exact aa (m:=Builtin.Tuple.tupleExact _) (cB (af ⟨_,rfl,af h⟩) z7)
  |exact aa (m:=Builtin.Tuple.tupleExact _) (cB (aa (af (af ⟨_,rfl,af h⟩))) z7)
  |exact aa (aa (m:=Builtin.Tuple.tupleExact _) (cB (af (af ⟨_,rfl,af h⟩)) z7))
  |exact aa (aa (m:=Builtin.Tuple.tupleExact _) (cB (af ⟨_,rfl,af h⟩) z7))
end
end HT
namespace L2
open PySem PySem.Spec PyProof.Rows
abbrev TO:=St->Hp->(Option Int->Hp->Prop)->Prop
def PO(X:Cx)(e:Option Expr)(t:TO):Prop:=
 ∀(pins:List (Addr×Obj)) (s:Shared) (σ:St) (H:Hp) (Q:Option Int->Hp->Prop),Inv X pins σ H s->t σ H Q->
  wpAny (model X.prog X.w) X.A (evalPart e X.env) (fun u s'=>∃o H',Inv X pins σ H' s'/\IsPart u o/\Q o H') X.xe s
def Gb:TO:=fun _ H Q=>Q none H
def Nn(t:TE):TO:=fun σ H Q=>t σ H fun x H1=>∃i,x=.int i/\Q (some i) H1
section
variable {X:Cx}{e:Expr}{te:TE}{lo hi:Option Expr}{tl th:TO}{pos p2:Pos}
theorem Gd:PO X none Gb:=by
 intro pins s σ H Q I h;rw[evalPart_none];exact af ⟨none,H,I,.none,h⟩
theorem Ge(h:PE X e te):PO X (some e) (Nn te):=by
 intro pins s σ H Q I hw;rw[evalPart_some];refine dN (h pins s σ H _ I hw) fun u s1 ⟨x,H1,I1,r1,q1⟩=>?_
 obtain⟨i,rfl,q⟩:=q1;obtain⟨t,rfl⟩:=r1;exact⟨some i,H1,I1,.int i t,q⟩
def Mz(X:Cx)(r:V->Option Int->Option Int->Hp->VK->Prop):Prop:=
 ∀(pins:List (Addr×Obj)) (s:Shared) (σ:St) (H:Hp) (x:V) (v vl vu:Value) (lo hi:Option Int) (sl:Addr) (Q:VK),Inv X pins σ H s->RelV x v->s.heap.IsSliceOf sl vl vu .none->IsPart vl lo->IsPart vu hi->r x lo hi H Q->
  ∃T id,typeLookup (.type T) "__getitem__"=pure (some (.builtin id))/\s.TypeIs v T/\wpAny (model X.prog X.w) X.A (getItem v (.ref sl)) (EP X pins σ Q) X.xe s
def WY(r:V->Option Int->Option Int->Hp->VK->Prop)(te:TE)(tl th:TO):TE:=fun σ H Q=>te σ H fun x H1=>tl σ H1 fun l H2=>th σ H2 fun u H3=>r x l u H3 Q
theorem Dq{r:V->Option Int->Option Int->Hp->VK->Prop}(hr:Mz X r)(he:PE X e te)(hl:PO X lo tl)(hu:PO X hi th):PE X (.Subscript e (.Slice lo hi none p2) pos) (WY r te tl th):=by
 intro pins s σ H Q I h;refine Subscript_ (dN (he pins s σ H _ I h) fun v s1 ⟨x,H1,I1,r1,q1⟩=>?_);refine wpAny_Slice (dN (hl pins s1 σ H1 _ I1 q1) fun vl s2 ⟨l,H2,I2,pl,q2⟩=>dN (hu pins s2 σ H2 _ I2 q2) fun vu s3 ⟨u,H3,I3,pu,q3⟩=>?_);rw[evalPart_none];refine af ?_
 have I4:Inv X pins σ H3 {s3 with heap:=s3.heap.push {cls:=.type "slice",data:=.fields #[vl,vu,.none]}}:=I3.kept (t':=s3.toks) fun b ob q=>aB _ q;obtain⟨T,id,hT,ht,hg⟩:=hr pins {s3 with heap:=s3.heap.push {cls:=.type "slice",data:=.fields #[vl,vu,.none]}} σ H3 x v vl vu l u s3.heap.objs.size Q I4 r1 (Heap.IsSliceOf.new ..) pl pu q3;show wpAny (model X.prog X.w) X.A (subscriptTail e (.Slice lo hi none p2) v (.ref s3.heap.objs.size)) (EP X pins σ Q) X.xe {s3 with heap:=s3.heap.push {cls:=.type "slice",data:=.fields #[vl,vu,.none]}};exact tail_any (ops:=[.ref s3.heap.objs.size,v]) ht hT hg (by with_unfolding_all rfl)
def xf(xs:List V)(lo hi:Option Int):List V:=(xs.drop (HT.fb xs.length 0 lo)).take (HT.fb xs.length xs.length hi - HT.fb xs.length 0 lo)
theorem pz(xs:List V)(lo hi:Option Int):(xf xs lo hi).length<=xs.length:=by
 unfold xf;rw[gX,rD];omega
def SK(K:PySem.W.Frag):V->Option Int->Option Int->Hp->VK->Prop:=fun x lo hi H Q=>∃a xs,x=.ref a/\kG K H a xs/\
 ¬(HT.fb xs.length 0 lo=0/\HT.fb xs.length xs.length hi=xs.length)/\∀p,H p=none->Q (.ref p) (upd H p (.tup (xf xs lo hi)))
theorem JP:Mz X (SK X.K):=by
 intro pins s σ H x v vl vu lo hi sl Q I rx hs pl pu h;obtain⟨a,xs,rfl,hx,hw,q⟩:=h;cases rx;obtain⟨aV,r,ht,hz⟩:=I.tuple hx;have hlen:aV.toArray.size=xs.length:=by rw[aS];exact r.length.symm
 refine⟨"tuple",_,fN.lookup,ht.typeIs,?_⟩;refine HT.nA ht hs pl pu (by rw[hlen];exact hw) ?_ (by rw[hlen];exact hz)
 rw[hlen];refine⟨.ref s.heap.objs.size,_,I.laid (t':=s.toks) (o:=.tup (xf xs lo hi)) (fun b ob q=>aB _ q) (aq _) ?_,rfl,q _ (I.bV.fresh (aq _))⟩;exact⟨aZ (pz xs lo hi) hz,_,(r.drop (HT.fb xs.length 0 lo)).take (HT.fb xs.length xs.length hi - HT.fb xs.length 0 lo),iJ.new _ _⟩
def Np(K:PySem.W.Frag):R2:=fun x y H Q=>∃a b xs ys,x=.ref a/\y=.ref b/\kG K H a xs/\kG K H b ys/\xs≠[]/\xs.length+ys.length<=sizeLine/\
 (ys=[]->Q (.ref a) H)/\(ys≠[]->∀p,H p=none->Q (.ref p) (upd H p (.tup (xs++ys))))
theorem Vals.vz {xs:List V}{us:List Value}(r:Vals xs us):us=[]↔xs=[]:=by
 cases r with
 |nil=>simp
 |cons _ _=>simp
theorem Gf:ux X (binaryOp .Add) (Np X.K):=by
 intro pins s σ H x y v u Q I rx ry h;obtain⟨a,b,xs,ys,rfl,rfl,ha,hb,hx,hz,q1,q2⟩:=h;cases rx;cases ry;obtain⟨aV,r1,p1,_⟩:=I.tuple ha;obtain⟨vA,r2,p2,_⟩:=I.tuple hb;refine HT.F_ p1 p2 (fun z=>hx (r1.vz.mp z)) (fun z=>⟨.ref a,H,I,rfl,q1 (r2.vz.mp z)⟩) (fun z=>?_) (by rw[<-r1.length,<-r2.length];exact hz);refine⟨.ref s.heap.objs.size,_,I.laid (t':=s.toks) (o:=.tup (xs++ys)) (fun b ob q=>aB _ q) (aq _) ?_,rfl,q2 (fun w=>z (r2.vz.mpr w)) _ (I.bV.fresh (aq _))⟩;exact⟨by rw[aY];exact hz,_,r1.append r2,iJ.new _ _⟩
end
end L2
namespace L2
open PySem PySem.Spec PyProof.Rows
def yI(n:Nat)(i:Int):Option Nat:=if 0<=i then(if i<n then some i.toNat else none)else if-(n:Int)<=i then some (i+n).toNat else none
def t7{α:Type}(xs:List α)(i:Int):Option α:=(yI xs.length i).bind fun j=>xs[j]?
theorem z8{n:Nat}{i:Int}{j:Nat}(h:yI n i=some j):seqIndex? i n=some j/\j<n/\-(n:Int)<=i/\i<n:=by
 unfold yI at h;by_cases h0:0<=i
 ·rw[ab h0]at h;by_cases h1:i<n
  ·rw[ab h1]at h;have e:i.toNat=j:=Option.some.inj h;exact⟨by rw[seqIndex_of h0 h1,e],by omega,by omega,h1⟩
  ·rw[ae h1]at h;cases h
 ·rw[ae h0]at h;by_cases h1:-(n:Int)<=i
  ·rw[ab h1]at h;have e:(i+n).toNat=j:=Option.some.inj h;exact⟨by rw[seqIndex_neg (by omega) h1,e],by omega,h1,by omega⟩
  ·rw[ae h1]at h;cases h
theorem vB{α:Type}{xs:List α}{i:Int}{v:α}(h:t7 xs i=some v):∃j,seqIndex? i xs.length=some j/\xs[j]?=some v/\j<xs.length/\-(xs.length:Int)<=i/\i<xs.length:=by
 unfold t7 at h;cases e:yI xs.length i with
 |none=>rw[e]at h;cases h
 |some j=>
  rw[e]at h;obtain⟨h1,h2,h3,h4⟩:=z8 e;exact⟨j,h1,h,h2,h3,h4⟩
theorem Gg{α:Type}{xs:List α}{j:Nat}{v:α}(h:xs[j]?=some v):t7 xs (j:Int)=some v:=by
 have hj:j<xs.length:=(cb.mp h).1;have e:yI xs.length (j:Int)=some j:=by
  unfold yI;rw[ab (by omega),ab (by omega)];simp
 unfold t7;rw[e];exact h
def qd(b:Expr):Prop:=∀o i,subscripted b false o i=operate [o,i] (getItem o i)
def MA(X:Cx)(r:R2):Prop:=
 ∀(value slice:Expr) (pins:List (Addr×Obj)) (s:Shared) (σ:St) (H:Hp) (x y:V) (v u:Value) (Q:VK),Inv X pins σ H s->RelV x v->RelV y u->r x y H Q->
  subscripted slice false v u=operate [v,u] (getItem v u)->wpAny (model X.prog X.w) X.A (subscriptTail value slice v u) (EP X pins σ Q) X.xe s
def WZ(X:Cx)(id:String)(r:V->List V->Hp->VK->Prop):Prop:=
 ∀(pins:List (Addr×Obj)) (s:Shared) (σ:St) (H:Hp) (x:V) (xs:List V) (v:Value) (us:List Value) (Q:VK),Inv X pins σ H s->RelV x v->Vals xs us->r x xs H Q->
  wpAny (model X.prog X.w) X.A (call (.builtin id) (v::us)) (EP X pins σ Q) X.xe s
section
variable {X:Cx}{a b:Expr}{ta tb:TE}{pos:Pos}
theorem Ih{r:R2}(hr:MA X r)(ha:PE X a ta)(hb:PE X b tb)(hs:qd b):PE X (.Subscript a b pos) (Mv r ta tb):=by
 intro pins s σ H Q I h;exact Subscript_ (Jx ha hb I h fun v u s2 x y H2 I2 rx ry q=>hr a b pins s2 σ H2 x y v u Q I2 rx ry q (hs _ _))
def SM(K:PySem.W.Frag):R2:=fun x y H Q=>∃p xs i v,x=.ref p/\y=.int i/\iA K H p xs/\t7 xs i=some v/\Q v H
def SN(K:PySem.W.Frag):R2:=fun x y H Q=>∃p xs i v,x=.ref p/\y=.int i/\kG K H p xs/\t7 xs i=some v/\Q v H
def SO:R2:=fun x y H Q=>∃z i c,x=.str z/\y=.int i/\z.length<=sizeLine/\t7 z.cps.toList i=some c/\Q (.str ⟨#[c]⟩) H
theorem z9:MA X (SM X.K):=by
 intro value slice pins s σ H x y v u Q I rx ry h hs;obtain⟨p,xs,i,z,rfl,rfl,hq,he,q⟩:=h;cases rx;obtain⟨t,rfl⟩:=ry;obtain⟨aV,r,pl,hz⟩:=I.list hq;obtain⟨j,h1,h2,h3,h4,h5⟩:=vB he;obtain⟨w,ew,lS⟩:=r.get h2;have hl:=r.length;have hn:=oH;have fin:EP X pins σ Q w s:=⟨z,H,I,lS,q⟩;by_cases h0:0<=i
 ·have hj:i.toNat=j:=by
   rw[seqIndex_of h0 h5]at h1;exact Option.some.inj h1
  exact item_listR pl.isList h0 (by omega) (by rw[hj];simpa using ew) fin hs
 ·have hj:(i+(aV.toArray.size:Int)).toNat=j:=by
   rw[seqIndex_neg (by omega) h4]at h1;rw[aS,<-hl];exact Option.some.inj h1
  exact subscriptTail_builtinR (x:=w) pl.isList.typeIs slot_list_getitem.lookup
   (wpAny_getItem_list_neg (Q:=fun r s'=>r=w/\EP X pins σ Q r s') pl.isList (by omega) (by rw[aS]<;>omega) (by omega) (by rw[hj];simpa using ew) ⟨rfl,fin⟩) hs
theorem JQ:MA X (SN X.K):=by
 intro value slice pins s σ H x y v u Q I rx ry h hs;obtain⟨p,xs,i,z,rfl,rfl,hq,he,q⟩:=h;cases rx;obtain⟨t,rfl⟩:=ry;obtain⟨aV,r,pl,hz⟩:=I.tuple hq;obtain⟨j,h1,h2,h3,h4,h5⟩:=vB he;obtain⟨w,ew,lS⟩:=r.get h2;have hl:=r.length;have hn:=oH;have fin:EP X pins σ Q w s:=⟨z,H,I,lS,q⟩;exact subscriptTail_builtinR (x:=w) pl.typeIs fN.lookup
  (getItem_tuple (j:=j) (Q:=fun r s'=>r=w/\EP X pins σ Q r s') pl (by omega) (by omega) (by rw[aS,<-hl];exact h1) (by simpa using ew) ⟨rfl,fin⟩) hs
theorem JR:MA X SO:=by
 intro value slice pins s σ H x y v u Q I rx ry h hs;obtain⟨z,i,c,rfl,rfl,hz,he,q⟩:=h;obtain⟨t,rfl⟩:=rx;obtain⟨t',rfl⟩:=ry;obtain⟨j,h1,h2,h3,h4,h5⟩:=vB he;have hl:z.cps.toList.length=z.length:=by simp[Str.length]
 rw[hl]at h1 h4 h5;have hn:=oH;exact tail_any (typeIs_str s z t) slot_str_getitem.lookup (getItem_str (c:=c) (by
  have e1:decide (i< -(2 ^63:Int))=false:=aX (by omega);have e2:decide (i>=2 ^63)=false:=aX (by omega);rw[e1,e2,m9]) (by rw[h1];simpa using h2) ⟨.str ⟨#[c]⟩,H,I.tok _,⟨_,rfl⟩,q⟩) hs
theorem yX(aV:List Value)(n j:Nat)(u:Value):Obj.mapSeq (·.setIfInBounds j u) {cls:=.type "list",data:=.seq aV.toArray n}={cls:=.type "list",data:=.seq (aV.set j u).toArray n}:=by
 simp[Obj.mapSeq]
theorem Inv.lst {pins:List (Addr×Obj)}{σ:St}{H:Hp}{s:Shared}{p:Addr}{xs:List V}(I:Inv X pins σ H s)(h:H p=some (.lst xs)):
  ∃(aV:List Value) (n:Nat),Vals xs aV/\s.heap.get? p=some {cls:=.type "list",data:=.seq aV.toArray n}/\xs.length<=sizeLine:=by
 obtain⟨z,aV,n,r,e⟩:=I.bV p _ h;exact⟨aV,n,r,e,z⟩
theorem Inv.JS {pins:List (Addr×Obj)}{σ:St}{H:Hp}{s:Shared}{p:Addr}{xs ys:List V}{aV nu:List Value}{n n':Nat}{f:Obj->Obj}(I:Inv X pins σ H s)(h:H p=some (.lst xs))
  (ho:s.heap.get? p=some {cls:=.type "list",data:=.seq aV.toArray n}) (hf:f {cls:=.type "list",data:=.seq aV.toArray n}={cls:=.type "list",data:=.seq nu.toArray n'}) (r:Vals ys nu) (hz:ys.length<=sizeLine) (t:Nat):
  Inv X pins σ (upd H p (.lst ys)) {s with heap:=s.heap.update p f,toks:=t}:=by
 have e:(s.heap.update p f).get? p=some {cls:=.type "list",data:=.seq nu.toArray n'}:=by
  rw[iV f ho (by rw[hf]<;>rfl),hf]
 refine I.write (x:=p) (e:=p) (by rw[h];trivial) (.inl rfl) (fun b u hb q=>(lD _ _ (cv hb)).trans q) ⟨_,e⟩ ?_
 exact⟨hz,nu,n',r,e⟩
def Nq:V->V->V->Hp->(Hp->Prop)->Prop:=fun o i v H Q=>∃p xs k j,o=.ref p/\i=.int k/\H p=some (.lst xs)/\yI xs.length k=some j/\Q (upd H p (.lst (xs.set j v)))
theorem set_list:M9 X Nq:=by
 intro pins s σ H o i v ov iv u Q I ro ri rv h;obtain⟨p,xs,k,j,rfl,rfl,hp,hj,q⟩:=h;cases ro;obtain⟨t,rfl⟩:=ri;obtain⟨aV,n,r,ho,hz⟩:=I.lst hp;obtain⟨h1,h2,h3,h4⟩:=z8 hj;have hl:=r.length;have hn:=oH;have I':Inv X pins σ (upd H p (.lst (xs.set j v))) {s with heap:=s.heap.update p (Obj.mapSeq (·.setIfInBounds j u))}:=
  I.JS hp ho (yX aV n j u) (r.set rv j) (by rw[i9];exact hz) s.toks
 by_cases h0:0<=k
 ·have hk:k.toNat=j:=by
   rw[seqIndex_of h0 h4]at h1;exact Option.some.inj h1
  exact PySem.W.ki_setAt ho h0 (by omega) (by rw[aS,<-hl];exact h4) (by rw[hk];exact⟨_,I',q⟩)
 ·have hk:(k+(aV.toArray.size:Int)).toNat=j:=by
   rw[seqIndex_neg (by omega) h3]at h1;rw[aS,<-hl];exact Option.some.inj h1
  exact PySem.W.ki_setBack ho (by omega) (by rw[aS,<-hl];exact h3) (by omega) (by rw[hk];exact⟨_,I',q⟩)
theorem Ii(v:Int)(n d:Nat):max 0 (min (if v<0 then v+n else v) (n:Int))=((HT.fb n d (some v):Nat):Int):=by
 rw[<-HT.vy];by_cases hv:v<0
 ·rw[ab hv,ab hv];omega
 ·rw[ae hv,ae hv];omega
theorem vC(lo hi:Option Int)(n:Nat):(sliceBounds lo hi none n).1=((HT.fb n 0 lo:Nat):Int)/\(sliceBounds lo hi none n).2.1=((HT.fb n n hi:Nat):Int)/\(sliceBounds lo hi none n).2.2=1:=by
 refine⟨?_,?_,rfl⟩
 ·cases lo with
  |none=>rfl
  |some i=>exact(Ii i n 0)
 ·cases hi with
  |none=>rfl
  |some i=>exact(Ii i n n)
theorem ug(aV:List Value)(lo hi:Option Int):slicePick aV.toArray lo hi none=((aV.drop (HT.fb aV.length 0 lo)).take (HT.fb aV.length aV.length hi - HT.fb aV.length 0 lo)).toArray:=by
 obtain⟨h1,h2,h3⟩:=vC lo hi aV.toArray.size;unfold slicePick;rw[h1,h2,h3];simp only[sliceRange_one,pick_run,aS]<;>rfl
def SQ(K:PySem.W.Frag):V->Option Int->Option Int->Hp->VK->Prop:=fun x lo hi H Q=>∃a xs,x=.ref a/\iA K H a xs/\∀p,H p=none->Q (.ref p) (upd H p (.lst (xf xs lo hi)))
theorem Gh:Mz X (SQ X.K):=by
 intro pins s σ H x v vl vu lo hi sl Q I rx hs pl pu h;obtain⟨a,xs,rfl,hx,q⟩:=h;cases rx;obtain⟨aV,r,ht,hz⟩:=I.list hx;have hlen:=r.length;refine⟨"list",_,slot_list_getitem.lookup,ht.isList.typeIs,?_⟩;refine wpAny_getItem_list_slice ht.isList hs pl pu .none (by simp) ?_ (by rw[aS]<;>omega)
 rw[ug,<-hlen];refine⟨.ref s.heap.objs.size,_,I.laid (t':=s.toks) (o:=.lst (xf xs lo hi)) (fun b ob q=>aB _ q) (aq _) ?_,rfl,q _ (I.bV.fresh (aq _))⟩;exact⟨aZ (pz xs lo hi) hz,_,0,(r.drop (HT.fb xs.length 0 lo)).take (HT.fb xs.length xs.length hi - HT.fb xs.length 0 lo),aQ _ rfl⟩
theorem lZ:jT X (.type "tuple") (fun xs H Q=>∃p ys,xs=[.ref p]/\((iA X.K H p ys/\∀l,H l=none->Q (.ref l) (upd H l (.tup ys)))\/(kG X.K H p ys/\Q (.ref p) H))):=by
 intro pins s σ H xs us Q I r h;obtain⟨p,ys,rfl,h⟩:=h;obtain⟨u,rfl,rx⟩:=vals1 r;cases rx;rcases h with⟨hq,q⟩|⟨hq,q⟩
 ·obtain⟨aV,r',pl,hz⟩:=I.list hq;have hlen:=r'.length;refine call_tuple_list pl.isList (fun h' kp=>?_) (by simp only[aS]<;>omega);have I1:Inv X pins σ H {s with heap:=h'}:=I.kept (t':=s.toks) kp;have I2:Inv X pins σ (upd H h'.objs.size (.tup ys)) {s with heap:=h'.push {cls:=.type "tuple",data:=.seq aV.toArray}}:=
   I1.laid (t':=s.toks) (fun b o e=>aB _ e) (aq _) (show bY X.prog X.w _ _ _ (.tup ys)from⟨hz,aV,r',iJ.new _ _⟩)
  exact⟨.ref h'.objs.size,_,I2,rfl,q _ (I1.bV.fresh (aq _))⟩
 ·obtain⟨aV,r',pl,hz⟩:=I.tuple hq;exact call_tuple_same pl ⟨.ref p,H,I,rfl,q⟩
def VB(K:PySem.W.Frag)(T:String)(x:V)(H:Hp):Prop:=match x with
 |.str _=>T="str"
 |.int _=>T="int"
 |.ref p=>(T="list"/\∃xs,iA K H p xs)\/(T="tuple"/\∃o,K.lookup p=some o/\o.cls=.type "tuple"/\o.dict=none)\/
   (T="dict"/\((∃ax,H p=some (.dK ax))\/∃ax,H p=some (.dT ax)))\/(T="set"/\∃S n,H p=some (.set S n))
 |_=>False
theorem JT{pins:List (Addr×Obj)}{σ:St}{H:Hp}{s:Shared}{T:String}{x:V}{v:Value}(I:Inv X pins σ H s)(r:RelV x v)(ty:VB X.K T x H):
  s.TypeIs v T/\∀a,v=.ref a->∃ob,s.heap.get? a=some ob/\ob.dict=none:=by
 cases x with
 |str z=>
  obtain⟨t,rfl⟩:=r;cases(show T="str"from ty);exact⟨typeIs_str s z t,fun _ e=>nomatch e⟩
 |int i=>
  obtain⟨t,rfl⟩:=r;cases(show T="int"from ty);exact⟨typeIs_int s i t,fun _ e=>nomatch e⟩
 |ref p=>
  cases r;rcases ty with⟨rfl,xs,hq⟩|⟨rfl,o,hk,hc,hd⟩|⟨rfl,hk⟩|⟨rfl,S,n,hk⟩
  ·obtain⟨aV,_,pl,_⟩:=I.list hq;refine⟨pl.isList.typeIs,fun a e=>?_⟩;cases e;obtain⟨o,n,e,c,hd,_⟩:=pl;exact⟨o,e,hd⟩
  ·refine⟨⟨o,I.Mr p o hk,hc⟩,fun a e=>?_⟩;cases e;exact⟨o,I.Mr _ o hk,hd⟩
  ·have z:∃o,s.heap.get? p=some o/\o.ExactDict:=by
    rcases hk with⟨ax,hk⟩|⟨ax,hk⟩
    ·obtain⟨_,_,_,_,o,_,_,e,ex,_⟩:=I.bV p _ hk;exact⟨o,e,ex⟩
    ·obtain⟨_,_,_,_,o,_,_,e,ex,_⟩:=I.bV p _ hk;exact⟨o,e,ex⟩
   obtain⟨o,e,ex⟩:=z;refine⟨⟨o,e,ex.1⟩,fun a e2=>?_⟩;cases e2;exact⟨o,e,ex.2.1⟩
  ·obtain⟨o,_,_,_,e,ex,_⟩:=I.bV p _ hk;refine⟨⟨o,e,ex.1⟩,fun a e2=>?_⟩;cases e2;exact⟨o,e,ex.2.1⟩
 |_=>exact False.elim ty
def W0(K:PySem.W.Frag)(T:String)(r:V->List V->Hp->VK->Prop)(to:TE)(t:TA):TE:=fun σ H Q=>to σ H fun x H1=>VB K T x H1/\t σ H1 fun xs H2=>r x xs H2 Q
variable {o e:Expr}{es:List Expr}{to:TE}{t:TA}{name:Str}{apos gk:Pos}{T id:String}{r:V->List V->Hp->VK->Prop}
theorem Nr(pa:PlainAttrs T)(slot:Slot T name id)(Nt:typeOf (.builtin id)=pure (.type "method_descriptor"))(hm:WZ X id r)(ho:PE X o to)(ha:PA X (e::es) t)
  (so:attributeBase o name X.env (eval o X.env)=eval o X.env:=by rfl)
  (SR:((backTo gk (starEach (e::es) X.env)).all (fun x=>!x.1)&&(backToKw gk (keywordEach [] X.env)).all (fun x=>x.1.isSome)
   &&decide ((e::es).length+([]:List Keyword).length+(if([]:List Keyword).isEmpty then 0 else 1)<30))=true:=by rfl)
  (sq:(apos.endLine==gk.line)=true:=by rfl) (hs:starEach (e::es) X.env=(false,eval e X.env)::starEach es X.env:=by rfl) (JU:(backTo gk (starEach es X.env)).any (·.1)=false:=by rfl):
  PE X (.Call (.Attribute o name apos) (e::es) [] gk) (W0 X.K T r to t):=by
 intro pins s σ H Q I h;refine wpAny_Call_method_late so SR sq rfl (dN (ho pins s σ H _ I h) fun v s1 ⟨x,H1,I1,r1,ty,q1⟩=>?_);obtain⟨h1,h2⟩:=JT I1 r1 ty;refine⟨T,id,pa,slot,Nt,h1,h2,?_⟩;have hA:=ha gk pins s1 σ H1 _ I1 q1;rw[hs]at hA⊢;refine Calls.callWith_builtin (by show(false||(backTo gk (starEach es X.env)).any (·.1))=false;rw[JU]<;>rfl) (Calls.evalArgs_plain ?_);exact dN hA fun us s2 ⟨vs,H2,I2,r2,q2⟩=>hm pins s2 σ H2 x vs v us Q I2 r1 r2 q2
end
end L2
namespace L2
open PySem PySem.Spec PyProof.Rows
def Q7(X:Cx)(id:String)(r:V->List V->Hp->VK->Prop):Prop:=
 ∀(pins:List (Addr×Obj)) (s:Shared) (σ:St) (H:Hp) (x:V) (xs:List V) (v:Value) (us:List Value) (Q:VK),Inv X pins σ H s->RelV x v->Vals xs us->r x xs H Q->
  wpAny (model X.prog X.w) X.A (call (.builtin id) (v::us)) (EP X pins σ Q) X.xe s
theorem Vals.one:∀{x:V} {us:List Value},Vals [x] us->∃u,us=[u]/\RelV x u
 |_,_,.cons r .nil=>⟨_,rfl,r⟩
theorem Vals.reverse {xs:List V}{us:List Value}(h:Vals xs us):Vals xs.reverse us.reverse:=by
 induction h with
 |nil=>exact .nil
 |cons r t ih=>rw[mV,mV];exact Vals.append ih (.cons r .nil)
theorem Vals.rep {xs:List V}{us:List Value}(h:Vals xs us):∀k:Nat,Vals (List.replicate k xs).flatten (List.replicate k us).flatten
 |0=>.nil
 |k+1=>by
  rw[jE,jE,iY,iY];exact Vals.append h (Vals.rep h k)
theorem foldl_rep(aV:List Value):∀(k:Nat) (acc:List Value),
  List.foldl (fun x1 x2=>x1++x2) acc.toArray (List.replicate k aV.toArray)=(acc++(List.replicate k aV).flatten).toArray
 |0,acc=>by simp
 |k+1,acc=>by
  have e:acc.toArray++aV.toArray=(acc++aV).toArray:=by simp
  have e2:(acc++aV)++(List.replicate k aV).flatten=acc++(List.replicate (k+1) aV).flatten:=by
   rw[jE,iY,gE]
  rw[<-e2,<-foldl_rep aV k (acc++aV),<-e,jE,fU]
section
variable {X:Cx}{pins:List (Addr×Obj)}{σ:St}{H:Hp}{s:Shared}{l b:Addr}{xs ys zs:List V}
theorem Inv.Nu {aV nu:List Value}{n:Nat}{f:Array Value->Array Value}{t':Nat}(I:Inv X pins σ H s)(hH:H l=some (.lst xs))
  (e:s.heap.get? l=some {cls:=.type "list",data:=.seq aV.toArray n}) (hf:f aV.toArray=nu.toArray) (hv:Vals ys nu) (hz:ys.length<=sizeLine):
  Inv X pins σ (upd H l (.lst ys)) {s with heap:=s.heap.update l (Obj.mapSeq f),toks:=t'}:=by
 have q:=PySem.IsL.update e f;rw[hf]at q;refine I.write (x:=l) (e:=l) (by rw[hH];exact trivial) (.inl rfl) (fun b' u hb hu=>(lD s.heap (Obj.mapSeq f) (cv hb)).trans hu) ⟨_,q⟩ ?_
 exact⟨hz,nu,_,hv,q⟩
theorem Inv.JV {aV:List Value}{t':Nat}(I:Inv X pins σ H s)(hv:Vals ys aV)(hz:ys.length<=sizeLine):
  Inv X pins σ (upd H s.heap.objs.size (.lst ys)) {s with heap:=s.heap.push {cls:=.type "list",data:=.seq aV.toArray},toks:=t'}:=
 I.laid (fun _ _ q=>aB _ q) (aq _) ⟨hz,aV,0,hv,aQ _ rfl⟩
theorem Inv.fresh (I:Inv X pins σ H s):H s.heap.objs.size=none:=I.bV.fresh (aq _)
theorem Inv.Dr (I:Inv X pins σ H s)(hH:H l=some (.lst xs)):xs.length<=sizeLine/\∃(aV:List Value) (n:Nat),Vals xs aV/\xs.length=aV.length/\s.heap.get? l=some {cls:=.type "list",data:=.seq aV.toArray n}:=by
 obtain⟨z,aV,n,r,e⟩:=I.bV l _ hH;exact⟨z,aV,n,r,r.length,e⟩
theorem xg{n:Nat}(h:n<=sizeLine):Builtin.List.listTooLong n=false:=by
 unfold Builtin.List.listTooLong;exact aX (by omega)
end
section
variable {X:Cx}
def z_:V->List V->Hp->VK->Prop:=fun x vs H Q=>∃l xs y,x=.ref l/\vs=[y]/\H l=some (.lst xs)/\xs.length<sizeLine/\Q .dv (upd H l (.lst (xs++[y])))
theorem oK:Q7 X "list.append" z_:=by
 intro pins s σ H x vs v us Q I rx rv h;obtain⟨l,xs,y,rfl,rfl,hH,hz,q⟩:=h;cases rx;obtain⟨u,rfl,ru⟩:=rv.one;obtain⟨z,aV,n,r,hl,e⟩:=I.Dr hH;refine hJ qX ⟨_,e,rfl⟩ F.entry_list_append (F.args_list_append_2 _ _) (PySem.list_append l aV.toArray n u (by rw[aS];omega)) ⟨e,?_⟩;refine⟨.dv,_,I.Nu (nu:=aV++[u]) hH e (by simp) (r.append (.cons ru .nil)) ?_,rfl,q⟩;rw[aY,eY];omega
def SS:R2:=fun x y H Q=>∃l b xs zs,x=.ref l/\y=.ref b/\H l=some (.lst xs)/\H b=some (.lst zs)/\xs.length+zs.length<=sizeLine/\∀p,H p=none->Q (.ref p) (upd H p (.lst (xs++zs)))
theorem JW:ux X (binaryOp .Add) SS:=by
 intro pins s σ H x y v u Q I rx ry h;obtain⟨l,b,xs,zs,rfl,rfl,hH,hB,hz,q⟩:=h;cases rx;cases ry;obtain⟨z,aV,n,r,hl,e⟩:=I.Dr hH;obtain⟨z2,vA,n2,r2,Q8,e2⟩:=I.Dr hB;refine PySem.P.add_list e e2 ?_ (by rw[aS,aS];omega)
 have ea:aV.toArray++vA.toArray=(aV++vA).toArray:=by simp
 rw[ea];exact⟨.ref _,_,I.JV (t':=s.toks) (r.append r2) (by rw[aY];omega),rfl,q _ I.fresh⟩
def SU:R2:=fun x y H Q=>∃l k xs,x=.ref l/\y=.int k/\H l=some (.lst xs)/\-(2 ^63)<=k/\k<2 ^63/\xs.length*k.toNat<=sizeLine/\
 ∀p,H p=none->Q (.ref p) (upd H p (.lst (List.replicate k.toNat xs).flatten))
theorem len_rep{α:Type}(xs:List α)(k:Nat):(List.replicate k xs).flatten.length=k*xs.length:=by
 induction k with
 |zero=>simp
 |succ k ih=>rw[jE,iY,aY,ih,Nat.succ_mul,Nat.add_comm]
theorem JX:ux X (binaryOp .Mult) SU:=by
 intro pins s σ H x y v u Q I rx ry h;obtain⟨l,k,xs,rfl,rfl,hH,h1,h2,hz,q⟩:=h;cases rx;obtain⟨t,rfl⟩:=ry;obtain⟨z,aV,n,r,hl,e⟩:=I.Dr hH;have hlen:aV.toArray.size*k.toNat<=sizeLine:=by rw[aS,<-hl];exact hz
 have SV:¬aV.toArray.size*k.toNat>(2 ^63 - 1)/8:=by
  have:(sizeLine:Nat)<=(2 ^63 - 1)/8:=by decide
  omega
 have SW:¬(!Builtin.List.listFitsIndex k)=true:=by
  rw[fitsIndex_both h1 h2];exact cR
 have Ds:¬Builtin.List.listTooLong (aV.toArray.size*k.toNat)=true:=by
  rw[xg hlen];exact cR
 have Gi:List.foldl (fun x1 x2=>x1++x2) #[] (List.replicate (if aV.toArray.isEmpty=true then 0 else k.toNat) aV.toArray)=(List.replicate k.toNat aV).flatten.toArray:=by
  have f0:∀m:Nat,List.foldl (fun x1 x2=>x1++x2) #[] (List.replicate m aV.toArray)=(List.replicate m aV).flatten.toArray:=fun m=>by
   have:=foldl_rep aV m [];rw[kc]at this;exact this
  rw[f0];cases aV with
  |nil=>simp
  |cons a r'=>rw[ae (by simp)]
 refine wpAny_binaryOp_repeat_ref (T:="list") (U:="int") (by decide) ⟨_,e,rfl⟩ (fun s'=>typeIs_int s' k t) noFill_list_mul F.fills_int_mul F.slot_int_rmul repeat_list F.slot_int_index.lookup
  (hJ F.slot_int_rmul (typeIs_int s k t) F.entry_int_rmul (F.args_int_rmul_2 _ _) (int___rmul___int_list k t l aV.toArray n)
   ⟨e,rfl,⟨_,e,rfl⟩,hJ F.slot_list_mul ⟨_,e,rfl⟩ F.entry_list_mul (F.args_list_mul_2 _ _) (AutoListH.list___mul___list_int_3 l aV.toArray n k t SW SV Ds) ⟨e,?_⟩⟩)
 rw[Gi];exact⟨.ref _,_,I.JV (t':=s.toks) (r.rep k.toNat) (by rw[len_rep,Nat.mul_comm];exact hz),rfl,q _ I.fresh⟩
end
end L2
namespace L2
open PySem PySem.Spec PyProof.Rows
section
variable {κ:Type}[DecidableEq κ]
def lT(ax:List (κ×V))(k:κ):Option V:=(ax.find? fun kv=>decide (kv.1=k)).map (·.2)
def putK(ax:List (κ×V))(k:κ)(v:V):List (κ×V):=
 if(ax.any fun kv=>decide (kv.1=k))=true then ax.map (fun kv=>if kv.1=k then(kv.1,v)else kv)else ax++[(k,v)]
def Ij(ax:List (κ×V))(k:κ):List (κ×V):=ax.filter fun kv=>decide (kv.1≠k)
theorem kI{p:κ×V}{r:List (κ×V)}{k:κ}(e:p.1=k):lT (p::r) k=some p.2:=by simp[lT,dY,e]
theorem kJ{p:κ×V}{r:List (κ×V)}{k:κ}(e:¬p.1=k):lT (p::r) k=lT r k:=by simp[lT,dY,e]
theorem xh(k:κ):∀ax:List (κ×V),(ax.any fun kv=>decide (kv.1=k))=(lT ax k).isSome
 |[]=>rfl
 |p::r=>by
  rw[ja];by_cases e:p.1=k
  ·simp only[kI e,bj e,ng,Option.isSome_some]
  ·rw[kJ e,aX e,m_];exact xh k r
theorem kK(ax:List (κ×V))(k:κ)(v:V):(putK ax k v).length<=ax.length+1:=by
 unfold putK;split
 ·rw[ak];omega
 ·rw[aY,bb,dX];omega
theorem pO.ji {o:Option V}{u:Option Value}(r:pO o u):o.isSome=u.isSome:=by
 cases o with
 |none=>cases u with
  |none=>rfl
  |some _=>exact(show False from r).elim
 |some _=>cases u with
  |none=>exact(show False from r).elim
  |some _=>rfl
theorem pO.getD {o:Option V}{u:Option Value}{d:V}{d':Value}(r:pO o u)(rd:RelV d d'):RelV (o.getD d) (u.getD d'):=by
 cases o with
 |none=>cases u with
  |none=>exact rd
  |some _=>exact(show False from r).elim
 |some _=>cases u with
  |none=>exact(show False from r).elim
  |some _=>exact r
theorem KV.val {ax:List (κ×V)}{vs:List (κ×Value)}(r:KV ax vs)(k:κ):pO (lT ax k) (valueAt vs k):=by
 unfold KV at r
 induction r with
 |nil=>exact True.intro
 |@cons p q ps qs h t ih=>
  obtain⟨h1,h2⟩:=h;by_cases e:p.1=k
  ·have e':q.1=k:=h1.symm.trans e;have b:valueAt (q::qs) k=some q.2:=by simp[valueAt,dY,e']
   rw[kI e,b];exact h2
  ·have e':¬q.1=k:=fun z=>e (h1.trans z);have b:valueAt (q::qs) k=valueAt qs k:=by simp[valueAt,dY,e']
   rw[kJ e,b];exact ih
theorem KV.any {ax:List (κ×V)}{vs:List (κ×Value)}(r:KV ax vs)(k:κ):(ax.any fun kv=>decide (kv.1=k))=vs.any fun kv=>decide (kv.1=k):=by
 unfold KV at r
 induction r with
 |nil=>rfl
 |cons h t ih=>rw[ja,ja,ih,h.1]
theorem KV.JY {ax:List (κ×V)}{vs:List (κ×Value)}(r:KV ax vs)(k:κ){y:V}{u:Value}(ry:RelV y u):
  KV (ax.map fun kv=>if kv.1=k then(kv.1,y)else kv) (vs.map fun kv=>if kv.1=k then(kv.1,u)else kv):=by
 unfold KV at r⊢
 induction r with
 |nil=>exact .nil
 |@cons p q ps qs h t ih=>
  rw[aC,aC];refine .cons ?_ ih
  obtain⟨h1,h2⟩:=h;by_cases e:p.1=k
  ·rw[ab e,ab (h1.symm.trans e)];exact⟨h1,ry⟩
  ·rw[ae e,ae (fun z=>e (h1.trans z))];exact⟨h1,h2⟩
theorem KV.put {ax:List (κ×V)}{vs:List (κ×Value)}(r:KV ax vs)(k:κ){y:V}{u:Value}(ry:RelV y u):KV (putK ax k y) (stored vs k u):=by
 unfold putK stored;rw[r.any k];by_cases e:(vs.any fun kv=>decide (kv.1=k))=true
 ·rw[ab e,ab e];exact r.JY k ry
 ·rw[ae e,ae e];exact Paired.snoc r ⟨rfl,ry⟩
theorem KV.drop {ax:List (κ×V)}{vs:List (κ×Value)}(r:KV ax vs)(k:κ):KV (Ij ax k) (without vs k):=by
 unfold KV at r⊢;unfold Ij without
 induction r with
 |nil=>exact .nil
 |@cons p q ps qs h t ih=>
  obtain⟨h1,h2⟩:=h;rw[dJ,dJ];by_cases e:p.1=k
  ·have a:¬decide (p.1≠k)=true:=by simp[e]
   have b:¬decide (q.1≠k)=true:=by simp[h1.symm.trans e]
   rw[ae a,ae b];exact ih
  ·have e':¬q.1=k:=fun z=>e (h1.trans z);have a:decide (p.1≠k)=true:=by simp[e]
   have b:decide (q.1≠k)=true:=by simp[e']
   rw[ab a,ab b];exact .cons ⟨h1,h2⟩ ih
theorem KV.keys {ax:List (κ×V)}{vs:List (κ×Value)}(r:KV ax vs):ax.map (·.1)=vs.map (·.1):=by
 unfold KV at r
 induction r with
 |nil=>rfl
 |cons h t ih=>rw[aC,aC,ih,h.1]
theorem KV.length {ax:List (κ×V)}{vs:List (κ×Value)}(r:KV ax vs):ax.length=vs.length:=Paired.length r
end
theorem xi{P:Program}{w:World}{k:Key}{u:Value}(r:RelV (kV k) u):(aR P w).is k u=true:=by
 cases k with
 |inl i=>obtain⟨t,e⟩:=(show∃t,u=Value.int i t from r);subst e;exact wW P w i t
 |inr x=>obtain⟨t,e⟩:=(show∃t,u=Value.str x t from r);subst e;exact wX P w x t
theorem uC{P:Program}{w:World}:∀{ks:List Key} {us:List Value},Vals (ks.map kV) us->ItemsAre (aR P w) ks us
 |[],_,r=>by rw[nh]at r;cases r;exact .nil
 |k::ks,_,r=>by
  rw[aC]at r;cases r with
  |cons h t=>exact .cons (xi h) (uC t)
abbrev KT(H:Hp):List (List Key×V)->List (List Key×Addr×Value)->Prop:=Paired fun p q=>p.1=q.1/\H q.2.1=some (.tup (p.1.map kV))/\RelV p.2 q.2.2
theorem KT.val {H:Hp}{ax:List (List Key×V)}{xs:List (List Key×Addr×Value)}(r:KT H ax xs)(k:List Key):pO (lT ax k) ((atKey xs k).map (·.2)):=by
 induction r with
 |nil=>exact True.intro
 |@cons p q ps qs h t ih=>
  obtain⟨h1,_,h2⟩:=h;by_cases e:p.1=k
  ·have e':q.1=k:=h1.symm.trans e;have b:atKey (q::qs) k=some q.2:=by simp[atKey,dY,e']
   rw[kI e,b];exact h2
  ·have e':¬q.1=k:=fun z=>e (h1.trans z);have b:atKey (q::qs) k=atKey qs k:=by simp[atKey,dY,e']
   rw[kJ e,b];exact ih
theorem KT.JY {H:Hp}{ax:List (List Key×V)}{xs:List (List Key×Addr×Value)}(r:KT H ax xs)(k:List Key){y:V}{u:Value}(ry:RelV y u):
  KT H (ax.map fun kv=>if kv.1=k then(kv.1,y)else kv) (xs.map (putAt k u)):=by
 induction r with
 |nil=>exact .nil
 |@cons p q ps qs h t ih=>
  rw[aC,aC];refine .cons ?_ ih
  obtain⟨h1,h2,h3⟩:=h;unfold putAt;by_cases e:p.1=k
  ·rw[ab e,ab (h1.symm.trans e)];exact⟨h1,h2,ry⟩
  ·rw[ae e,ae (fun z=>e (h1.trans z))];exact⟨h1,h2,h3⟩
theorem KT.put {H:Hp}{ax:List (List Key×V)}{xs:List (List Key×Addr×Value)}(r:KT H ax xs)(k:List Key){b:Addr}{y:V}{u:Value}(hb:H b=some (.tup (k.map kV)))(ry:RelV y u):
  KT H (putK ax k y) (storedH xs k b u):=by
 have e:(ax.any fun kv=>decide (kv.1=k))=(atKey xs k).isSome:=by
  rw[xh,(r.val k).ji,rn]
 unfold putK storedH;rw[e];by_cases q:(atKey xs k).isSome=true
 ·rw[ab q,ab q];exact r.JY k ry
 ·rw[ae q,ae q];exact Paired.snoc r ⟨rfl,hb,ry⟩
theorem KT.keeps {H H':Hp}{ax:List (List Key×V)}{xs:List (List Key×Addr×Value)}(r:KT H ax xs)(ht:∀b ys,H b=some (.tup ys)->H' b=some (.tup ys)):KT H' ax xs:=
 Paired.Jl r fun _ _ z=>⟨z.1,ht _ _ z.2.1,z.2.2⟩
section
variable {P:Program}{w:World}{H:Hp}{h:Heap}{a:Addr}
theorem Ik{u:HO}(ok:md P w H h)(e:Rd H a u):bY P w H h a u:=e.ok ok
theorem uD{ax:List (Key×V)}(ok:md P w H h)(e:Rd H a (.dK ax)):ax.length<=sizeLine/\(a==sysModules)=false/\∃vs,KV ax vs/\h.DictOf (aR P w) a vs:=
 show bY P w H h a (.dK ax)from Ik ok e
theorem Nv{ax:List (Key×V)}(ok:md P w H h)(e:H a=some (.dK ax)):ax.length<=sizeLine/\(a==sysModules)=false/\∃vs,KV ax vs/\h.DictOf (aR P w) a vs:=uD ok (.inl e)
theorem mf{ks:List Key}(ok:md P w H h)(e:H a=some (.tup (ks.map kV))):(tupleKind (aR P w)).is h ks a:=by
 obtain⟨_,aV,r,o,h1,h2,n,h3,_⟩:=(show bY P w H h a (.tup (ks.map kV))from ok a _ e);exact⟨o,aV.toArray,n,h1,h2,h3,by simpa using uC r⟩
theorem uE{ax:List (List Key×V)}(ok:md P w H h)(e:Rd H a (.dT ax)):ax.length<=sizeLine/\(a==sysModules)=false/\
  ∃xs,KT H ax xs/\h.DictOfH (tupleKind (aR P w)) a xs:=by
 obtain⟨z,y,xs,r,o,es,ep,h1,h2,h3,h4,h5⟩:=(show bY P w H h a (.dT ax)from Ik ok e);refine⟨z,y,xs,r,o,es,ep,h1,h2,h3,h4,fun x hx=>?_,h5⟩;have all:∀{l:List (List Key×V)} {m:List (List Key×Addr×Value)},KT H l m->∀x∈m,(tupleKind (aR P w)).is h x.1 x.2.1:=by
  intro l m q
  induction q with
  |nil=>intro x hx;exact nomatch hx
  |@cons p q ps qs hq t ih=>
   intro x hx;rcases a8.mp hx with e|hx
   ·subst e;exact mf ok (by rw[<-hq.1];exact hq.2.1)
   ·exact ih x hx
 exact all r x hx
theorem Nw{ax:List (List Key×V)}(ok:md P w H h)(e:H a=some (.dT ax)):ax.length<=sizeLine/\(a==sysModules)=false/\
  ∃xs,KT H ax xs/\h.DictOfH (tupleKind (aR P w)) a xs:=uE ok (.inl e)
end
def pR(H:Hp)(a:Addr)(y:V)(r:Option V):Prop:=
 (∃ax k,Rd H a (.dK ax)/\y=kV k/\r=lT ax k)\/∃ax k b,Rd H a (.dT ax)/\y=.ref b/\H b=some (.tup (k.map kV))/\r=lT ax k
def vD(H:Hp)(a:Addr)(y v:V)(H':Hp):Prop:=
 (∃ax k,H a=some (.dK ax)/\y=kV k/\ax.length<sizeLine/\H'=upd H a (.dK (putK ax k v)))\/
 ∃ax k b,H a=some (.dT ax)/\y=.ref b/\H b=some (.tup (k.map kV))/\ax.length<sizeLine/\H'=upd H a (.dT (putK ax k v))
theorem pR.k {H:Hp}{a:Addr}{ax:List (Key×V)}{k:Key}(e:H a=some (.dK ax)):pR H a (kV k) (lT ax k):=.inl ⟨ax,k,.inl e,rfl,rfl⟩
theorem pR.t {H:Hp}{a b:Addr}{ax:List (List Key×V)}{k:List Key}(e:H a=some (.dT ax))(eb:H b=some (.tup (k.map kV))):pR H a (.ref b) (lT ax k):=.inr ⟨ax,k,b,.inl e,rfl,eb,rfl⟩
theorem vD.k {H:Hp}{a:Addr}{ax:List (Key×V)}{k:Key}{v:V}(e:H a=some (.dK ax))(hl:ax.length<sizeLine):vD H a (kV k) v (upd H a (.dK (putK ax k v))):=.inl ⟨ax,k,e,rfl,hl,rfl⟩
theorem vD.t {H:Hp}{a b:Addr}{ax:List (List Key×V)}{k:List Key}{v:V}(e:H a=some (.dT ax))(eb:H b=some (.tup (k.map kV)))(hl:ax.length<sizeLine):
  vD H a (.ref b) v (upd H a (.dT (putK ax k v))):=.inr ⟨ax,k,b,e,rfl,eb,hl,rfl⟩
section
variable {X:Cx}{pins:List (Addr×Obj)}{σ:St}{H:Hp}{s:Shared}{a:Addr}{y v:V}{u r:Value}{o:Option V}{A:Around}{E:Value->Shared->Prop}
theorem Inv.big (I:Inv X pins σ H s):sysModules<s.heap.objs.size:=by
 have h:mainGlobals<s.heap.objs.size:=(I.mod.glob.keeps I.bk).lt;exact kq (by decide) h
theorem oM{Q:Value->Shared->Prop}(hu:A.units+1<cLine)(I:Inv X pins σ H s)(g:pR H a y (some v))(ry:RelV y u)(h:∀w' s',Inv X pins σ H s'->RelV v w'->Q w' s'):
  wpAny (model X.prog X.w) A (getItem (.ref a) u) Q E s:=by
 rcases g with⟨ax,k,e,ey,l⟩|⟨ax,k,b,e,ey,eb,l⟩
 ·subst ey;obtain⟨z,hd,vs,rel,dd⟩:=uD I.bV e;obtain⟨w',hw,lS⟩:=pO.some_of (v:=v) (o:=valueAt vs k) (by rw[l];exact rel.val k);exact wpAny_getItem_of (xi ry) dd.mapOf hw (h w' _ (I.tok _) lS)
 ·subst ey;cases(show u=Value.ref b from ry);obtain⟨z,hd,xs,rel,dd⟩:=uE I.bV e;obtain⟨w',hw,lS⟩:=pO.some_of (v:=v) (o:=(atKey xs k).map (·.2)) (by rw[l];exact rel.val k);obtain⟨p,hp,Dt⟩:=Option.map_eq_some_iff.mp hw;refine wpAny_getItem_heap (i4 hu) (mf I.bV eb) dd hp ?_
  rw[Dt];exact h w' _ (I.tok _) lS
theorem SX{Q:Value->Shared->Prop}(hu:A.units+1<cLine)(I:Inv X pins σ H s)(g:pR H a y o)(ry:RelV y u)(h:∀s',Inv X pins σ H s'->Q (.bool o.isSome) s'):
  wpAny (model X.prog X.w) A (compareOp .In u (.ref a)) Q E s:=by
 rcases g with⟨ax,k,e,ey,l⟩|⟨ax,k,b,e,ey,eb,l⟩
 ·subst ey;obtain⟨z,hd,vs,rel,dd⟩:=uD I.bV e;refine wpAny_in_of (xi ry) hd dd.mapOf ?_
  rw[<-(rel.val k).ji,<-l];exact h _ (I.tok _)
 ·subst ey;cases(show u=Value.ref b from ry);obtain⟨z,hd,xs,rel,dd⟩:=uE I.bV e;refine wpAny_in_heap (i4 hu) (mf I.bV eb) hd dd ?_
  have q:=(rel.val k).ji;rw[rn]at q;rw[<-q,<-l];exact h _ (I.tok _)
theorem Gj{Q:Value->Shared->Prop}(hu:A.units+1<cLine)(I:Inv X pins σ H s)(g:pR H a y o)(ry:RelV y u)(h:∀s',Inv X pins σ H s'->Q (.bool (!o.isSome)) s'):
  wpAny (model X.prog X.w) A (compareOp .NotIn u (.ref a)) Q E s:=by
 rcases g with⟨ax,k,e,ey,l⟩|⟨ax,k,b,e,ey,eb,l⟩
 ·subst ey;obtain⟨z,hd,vs,rel,dd⟩:=uD I.bV e;refine wpAny_notIn_of (xi ry) hd dd.mapOf ?_
  rw[<-(rel.val k).ji,<-l];exact h _ (I.tok _)
 ·subst ey;cases(show u=Value.ref b from ry);obtain⟨z,hd,xs,rel,dd⟩:=uE I.bV e;refine wpAny_notIn_heap (i4 hu) (mf I.bV eb) hd dd ?_
  have q:=(rel.val k).ji;rw[rn]at q;rw[<-q,<-l];exact h _ (I.tok _)
theorem Aa{h':Heap}{t':Nat}{ob:HO}(I:Inv X pins σ H s)(mu:MY (H a))(hs:Heap.SameBut a s.heap h')(he:∃q,h'.get? a=some q)(new:bY X.prog X.w (upd H a ob) h' a ob):
  Inv X pins σ (upd H a ob) {s with heap:=h',toks:=t'}:=
 I.write (x:=a) (e:=a) mu (.inl rfl) (fun b q hb z=>(hs.2 b hb).trans z) he new
theorem JZ{P:Program}{w:World}{H':Hp}{h':Heap}{ax:List (Key×V)}{vs:List (Key×Value)}(z:ax.length<=sizeLine)(hd:(a==sysModules)=false)(rel:KV ax vs)(dd:h'.DictOf (aR P w) a vs):
  bY P w H' h' a (.dK ax):=⟨z,hd,vs,rel,dd⟩
theorem uF{H':Hp}{Q:Unit->Shared->Prop}(hu:A.units+1<cLine)(I:Inv X pins σ H s)(g:vD H a y v H')(ry:RelV y u)(rv:RelV v r)(h:∀s',Inv X pins σ H' s'->Q () s'):
  wpAny (model X.prog X.w) A (setItem (.ref a) u r) Q E s:=by
 rcases g with⟨ax,k,e,ey,l,eH⟩|⟨ax,k,b,e,ey,eb,l,eH⟩
 ·subst ey eH;obtain⟨z,hd,vs,rel,dd⟩:=Nv I.bV e;have hz:vs.length<=sizeLine:=by rw[<-rel.length];exact z
  have hl:(putK ax k v).length<=sizeLine:=by have:=kK ax k v;omega
  refine wpAny_setItem_pairs (hsz:=hz) (xi ry) dd fun h' Il hs=>h _ ?_
  have he:∃q,h'.get? a=some q:=let⟨q,_,_,hq,_⟩:=Il;⟨q,hq⟩
  exact Aa I (by rw[e];exact True.intro) hs he (JZ hl hd (rel.put k rv) Il)
 ·subst ey eH;cases(show u=Value.ref b from ry);obtain⟨z,hd,xs,rel,dd⟩:=Nw I.bV e;have hz:xs.length<=sizeLine:=by rw[<-Paired.length rel];exact z
  have hl:(putK ax k v).length<=sizeLine:=by have:=kK ax k v;omega
  refine wpAny_setItem_heap (hsz:=hz) (i4 hu) (mf I.bV eb) dd fun h' Il hs=>h _ ?_
  obtain⟨q,es,ep,hq,h2,h3,h4,_,h5⟩:=Il;refine Aa I (by rw[e];exact True.intro) hs ⟨q,hq⟩ ⟨hl,hd,_,(rel.put k eb rv).keeps fun c ys ec=>?_,q,es,ep,hq,h2,h3,h4,h5⟩;rw[au (MV ec e (fun z=>nomatch z))];exact ec
end
section
variable {X:Cx}{pins:List (Addr×Obj)}{σ:St}{H:Hp}{s:Shared}{a:Addr}{ax:List (Key×V)}{k:Key}{u:Value}{A:Around}{E:Value->Shared->Prop}
theorem Nx{Q:Value->Shared->Prop}(I:Inv X pins σ H s)(e:Rd H a (.dK ax))(h:∀t s',Inv X pins σ H s'->Q (.int ax.length t) s'):wpAny (model X.prog X.w) A (call (.builtin "len") [.ref a]) Q E s:=by
 obtain⟨z,hd,vs,rel,dd⟩:=uD I.bV e;refine call_len_dict hd dd (by rw[<-rel.length];rw[bT]at z;omega) ?_
 rw[<-rel.length];exact h _ _ (I.tok _)
end
theorem pA{X:Cx}{pins:List (Addr×Obj)}{σ:St}{H:Hp}{s:Shared}{a:Addr}{y:V}{o:Option V}(I:Inv X pins σ H s)(g:pR H a y o):s.TypeIs (.ref a) "dict":=by
 rcases g with⟨ax,k,e,_,_⟩|⟨ax,k,b,e,_,_,_⟩
 ·obtain⟨_,_,vs,_,dd⟩:=uD I.bV e;exact dd.typeIs
 ·obtain⟨_,_,xs,_,dd⟩:=uE I.bV e;exact dd.typeIs
def Ny(td ty tv:TE):TS:=fun D σ H=>tv σ H fun v H1=>td σ H1 fun x H2=>ty σ H2 fun y H3=>∃a H4,x=.ref a/\vD H3 a y v H4/\D.nx σ H4
def Nz(td ty tv:TE)(rd:V->V->Hp->VK->Prop):TS:=fun D σ H=>td σ H fun x H1=>ty σ H1 fun y H2=>∃a v,x=.ref a/\pR H2 a y (some v)/\
 tv σ H2 fun y2 H3=>rd v y2 H3 fun z H4=>∃H5,vD H4 a y z H5/\D.nx σ H5
section
variable {X:Cx}{o i e value:Expr}{pos pos' JG:Pos}{td ty tv:TE}
theorem Gk(hu:X.A.units+1<cLine)(ho:PE X o td)(hi:PE X i ty)(hv:PE X value tv)(hs:swapsWith value (some (.Subscript o i pos')) pos.line X.env=pure false):
  PS X (.Assign [.Subscript o i pos'] value pos) (Ny td ty tv):=by
 intro pins s σ H D I h;refine wpAny_Assign_Subscript (dN (hv pins s σ H _ I h) fun r s1 ⟨v,H1,I1,rv,q1⟩=>dN (ho pins s1 σ H1 _ I1 q1) fun u s2 ⟨x,H2,I2,rx,q2⟩=>dN (hi pins s2 σ H2 _ I2 q2) fun iv s3 ⟨y,H3,I3,ry,a,H4,ex,g,q3⟩=>?_) hs;subst ex;obtain rfl:u=Value.ref a:=rx;exact uF hu I3 g ry rv fun s4 I4=>⟨σ,H4,I4,q3⟩
theorem Gm{op:Operator}{rd:V->V->Hp->VK->Prop}(hu:X.A.units+1<cLine)(ho:PE X o td)(hi:PE X i ty)(hv:PE X value tv)(W3:JF X op rd)
  (ha:∀ov iv new,augStore i ov iv new=(do holding [new,ov,iv] (setItem ov iv new);release [new,ov,iv] [];pure .next)):PS X (.AugAssign (.Subscript o i JG) op value pos) (Nz td ty tv rd):=by
 intro pins s σ H D I h;refine wpAny_AugAssign_SubscriptAny (dN (ho pins s σ H _ I h) fun u s1 ⟨x,H1,I1,rx,q1⟩=>dN (hi pins s1 σ H1 _ I1 q1) fun iv s2 ⟨y,H2,I2,ry,a,v,ex,g,q2⟩=>?_) ha;subst ex;obtain rfl:u=Value.ref a:=rx;refine oM hu I2 g ry fun w' s3 I3 lS=>dN (hv pins s3 σ H2 _ I3 q2) fun w2 s4 ⟨y2,H3,I4,W4,q3⟩=>dN (W3 pins s4 σ H3 v y2 w' w2 _ I4 lS W4 q3) fun w3 s5 ⟨z,H4,I5,rz,H5,g5,q4⟩=>?_
 exact uF hu I5 g5 ry rz fun s6 I6=>⟨σ,H5,I6,q4⟩
end
theorem Du{P:Program}{w:World}{H:Hp}(h:Heap)(hb:sysModules<h.objs.size):bY P w H (h.push {cls:=.type "dict",data:=.dict #[]}) h.objs.size (.dT []):=
 ⟨bK _,beq_eq_false_iff_ne.mpr (cv (bo hb)),[],.nil,_,#[],0,aQ _ rfl,⟨rfl,rfl,rfl⟩,rfl,rfl,fQ⟩
def J0:TE:=fun _ H Q=>∀p,H p=none->Q (.ref p) (upd H p (.dT []))
section
variable {X:Cx}{pos:Pos}
theorem Dv:PE X (.Dict [] [] pos) J0:=fun pins s σ H Q I h=>
 wpAny_Dict_empty ⟨.ref s.heap.objs.size,_,I.laid (a:=s.heap.objs.size) (o:=.dT []) (t':=s.toks) (fun _ _ q=>aB _ q) (aq _) (Du s.heap I.big),rfl,h _ (I.bV.fresh (aq _))⟩
end
end L2
namespace VC
open PySem PySem.W PySem.Calls PyProof.Rows
theorem pS{P:Params}{h:Heap}:∀(ns:List Int) (vs:List Value),WellAll P h vs (ns.map WData.int)->IntsAre vs ns:=by
 intro ns
 induction ns with
 |nil=>
  intro vs w;rw[nh]at w;cases w;exact .nil
 |cons n ns ih=>
  intro vs w;rw[aC]at w;cases w with
  |cons a b=>
   cases a;exact .cons _ _ (ih _ b)
theorem BJ{l:OpenLaw}{n:Nat}(hn:l.most=some n){P:Params}{h:Heap}{args:List WData}{vals:List Value}
  (Gn:l.row.toRowW.claim.pre args=true) (SY:WellAll P h vals args):
  ∃a vs ns,vals=[Value.ref a]/\args=[WData.list (ns.map WData.int)]/\h.get? a=some {cls:=.type "list",data:=.seq vs.toArray}/\IntsAre vs ns/\ns.length<=n:=by
 have W5:WShape.hasAll [] args [.list .int]=true:=(pre_splitW Gn).1;have hc:l.pre.holds [] {args:=args}=true:=(pre_splitW Gn).2;obtain⟨d,r,rfl,h1,h2⟩:=hasAllW_cons W5;obtain rfl:=hasAllW_nil h2;obtain⟨xs,rfl,h3⟩:=hasW_list h1;obtain⟨ns,rfl⟩:=items_int h3;have hlen:ns.length<=n:=by
  unfold OpenLaw.pre at hc;have h4:(WTm.not (.lt (.lit (.int (n:Int))) (.len (.arg 0)))).holds [] {args:=[.list (ns.map .int)]}=true:=by
   have h4:=(holds_andW hc).1;rw[hn]at h4;exact h4
  have h5:=condW_of h4 (w_not (w_lt w_lit (w_len_list (w_arg rfl))));rw[ak]at h5;refine rE fun q=>?_
  have q':(n:Int)<((ns.length:Nat):Int):=by omega
  first
   |(rw[bj q']at h5;exact absurd h5 (by decide))
   |(simp at h5;omega)
 cases SY with
 |cons w1 w2=>
  cases w2;cases w1 with
  |list ho lU=>exact⟨_,_,ns,rfl,rfl,ho,pS ns _ lU,hlen⟩
theorem BK(l:OpenLaw)(args:List WData):l.row.toRowW.claim.post args (.bool true) args=true:=
 postW_of (r:=l.row.toRowW) (X:=(true==true))
  (show WShape.has [] (.bool true) .bool=true by first|rfl|decide|simp[WShape.has,WShape.arms,WShape.armsAll])
  (show(WTm.eq .res (.lit (.bool true))).value [] {args:=args,res:=some (.bool true),after:=args}=some (.bool (true==true))from w_eq_bool (w_res rfl) w_lit) rfl
theorem xk{l:OpenLaw}{n:Nat}{q:Program}{loose:List Str}{XP:(Str->Option Value)->Heap->Prop}{YP:World->Heap->Prop}{d:DefRec}
  (hn:l.most=some n) (NA:d.params.defaults=[])
  (call:∀(w:World) (fj bZ:Shared) (mg mb:Str->Option Value) (fa:Addr) (o:Obj) (pm cd doc:Value) (a:Addr) (vs:List Value) (ns:List Int),
   Ground q loose [] XP w fj mg mb bZ.heap->YP w bZ.heap->
   bZ.heap.get? fa=some o->o.data=.func (docDef d.name d.params d.body d.scope pm cd doc)->bZ.heap.CodeRec cd d.name->mg d.name=some (.ref fa)->
   bZ.heap.get? a=some {cls:=.type "list",data:=.seq vs.toArray}->IntsAre vs ns->ns.length<=n->bZ.gens=#[]->
   codeAny (model l.prog w) callerA (.call (.ref fa) ⟨[.ref a],[]⟩) (fun r s'=>r=.ok (.ret (.bool true))/\OldK bZ.heap s'.heap/\s'.os=bZ.os/\AllBare s'.gens) bZ):
  WalkO q loose XP YP l.row.toRowW d [] (fun f vs=>PySem.call f vs):=by
 intro w fj bZ mg mb G Y fa o pm cd doc dV kV ho hd pQ hD NC hg args vals as Gn W6 Zj SY Zk;obtain rfl:dV=.none:=Dflts.none hD NA;obtain rfl:kV=.none:=Dflts.noKw hD;obtain⟨a,vs,ns,rfl,rfl,J1,hints,hlen⟩:=BJ hn Gn SY;refine enter_call (g8 (call w fj bZ mg mb fa o pm cd doc a vs ns G Y ho (fd_plain hd) pQ NC J1 hints hlen hg) fun r s' hq=>?_);obtain⟨rfl,h2,h3,h4⟩:=hq;exact⟨.inl ⟨.bool true,.bool true,[],rfl,fun _=>rfl,.bool true,BK l _,fun _=>⟨List.Pairwise.nil,fun _ hm=>(nomatch hm)⟩⟩,h2,h3,h4⟩
end VC
namespace L2
open PySem PySem.Spec PyProof.Rows
theorem uG:∀{vs:List Value} {ns:List Int},IntsAre vs ns->Vals (ns.map V.int) vs
 |_,_,.nil=>.nil
 |_,_,.cons n t h=>.cons ⟨t,rfl⟩ (uG h)
theorem Dw{P:Program}{w:World}{K:PySem.W.Frag}{mg mb:Str->Option Value}{CX:yT}{k:Nat}{fa a:Addr}{fd:FuncData}{x:Str}{sp:Sp}{bZ:Shared}{vs:List Value}{ns:List Int}{tc tP:Addr}{tq:Str}
  (KX:K.In bZ.heap) (uH:bZ.heap.Ns mainGlobals mg) (hb:bZ.heap.Ns builtinsNs mb) (ND:∀x:Str,x≠"__name__"->mb x=bootBuiltins x) (J2:bZ.heap.NoLimit) (hg:bZ.gens=#[])
  (NF:∃bm ob,mg "__builtins__"=some (.ref bm)/\bm≠builtinsNs/\bm≠mainGlobals/\bZ.heap.get? bm=some ob/\ob.cls=.type "module"/\ob.dict=some builtinsNs/\ob.data=.plain) (hC:PySem.W.CodeHd bZ.heap tc tP) (hP:bZ.heap.get? tP=some (PySem.W.tabObj #[])) (J3:K.lookup tP=none)
  (ha:bZ.heap.get? a=some {cls:=.type "list",data:=.seq vs.toArray}) (hi:IntsAre vs ns) (hl:ns.length<=sizeLine) (hr:dC k callerA)
  (F:∀base:Heap,K.In base->base.Ns mainGlobals mg->hX P w K mg base CX k fa fd [x] sp) (xl:∀(s:Shared) (u:Value),BindsTo s fd ⟨[u],[]⟩ [(x,u)])
  (Ie:∀H:Hp,H tP=some (.wF #[.str tq 0])->iA K H a (ns.map V.int)->sp [.ref a] H (fun v _=>v=.bl true) fun _ _ _=>False)
  (S0:∀H e s',CX [] H bZ (fun _ _ _=>False) e s'->False):
  codeAny (model P w) callerA (.call (.ref fa) ⟨[.ref a],[]⟩) (fun r s'=>r=.ok (.ret (.bool true))/\OldK bZ.heap s'.heap/\s'.os=bZ.os/\AllBare s'.gens) bZ:=by
 have rv:=uG hi;have S3:=hi.length;have S4:a≠tP:=fun z=>by rw[z,hP]at ha;cases ha
 have NG:∀H:Hp,bY P w H bZ.heap tP (.wF #[.str tq 0]):=fun H=>⟨#[],hP,trivial,fun pos v e=>by cases e⟩;have core:∀H:Hp,H tP=some (.wF #[.str tq 0])->iA K H a (ns.map V.int)->md P w H bZ.heap->(∀b,H b≠none->b=a\/b=tP)->(H a≠none->K.lookup a=none)->(∀u,H a=some u->∃o xs,u=.gI o (.lst xs))->
   codeAny (model P w) callerA (.call (.ref fa) ⟨[.ref a],[]⟩) (fun r s'=>r=.ok (.ret (.bool true))/\OldK bZ.heap s'.heap/\s'.os=bZ.os/\AllBare s'.gens) bZ:=by
  intro H hT hS bV hA hK hF;have vE:∀{b:Addr} {o:Obj},bZ.heap.get? b=some o->H b=none->(vm bZ.heap H).get? b=some o:=fun e n=>C0 e n;have Mw:∀{b:Addr} {o:Obj},bZ.heap.get? b=some o->(∀xs n,o.data≠ .seq xs n)->(∀xs,o.data≠ .fields xs)->H b=none:=fun{b o} e d1 d2=>by
   cases q:H b with
   |none=>rfl
   |some u=>
    rcases hA b (by rw[q];simp)with e'|e'
    ·subst e';rw[ha]at e;cases e;exact absurd rfl (d1 _ _)
    ·subst e';rw[hP]at e;cases e;exact absurd rfl (d2 _)
  have Q9:∀{b:Addr} {m:Str->Option Value},bZ.heap.Ns b m->(vm bZ.heap H).Ns b m:=fun{b m} ⟨o,es,ep,e,d,r⟩=>⟨o,es,ep,vE e (Mw e (fun _ _ z=>by rw[d]at z;cases z) fun _ z=>by rw[d]at z;cases z),d,r⟩;have VD:K.In (vm bZ.heap H):=fun b o e=>vE (KX b o e) (by
   cases q:H b with
   |none=>rfl
   |some u=>
    rcases hA b (by rw[q];simp)with e'|e'
    ·subst e';rw[hK (by rw[q];simp)]at e;cases e
    ·subst e';rw[J3]at e;cases e)
  have hM:Mod K mg (vm bZ.heap H):=⟨VD,Q9 uH,⟨mb,Q9 hb,ND⟩,(let⟨mc,h1,h2⟩:=J2;⟨mc,Q9 h1,h2⟩),(let⟨bm,ob,b1,b2,b3,b4,b5,b6,b7⟩:=NF;⟨bm,ob,b1,b2,b3,vE b4 (Mw b4 (fun _ _ z=>by rw[b7]at z;cases z) fun _ z=>by rw[b7]at z;cases z),b5,b6,b7⟩)⟩;have e0:F9 P w K mg (vm bZ.heap H) callerA [] bZ H:=⟨rfl,hM,fun b o e=>FY e,Nat.le_of_eq (BD _ _),trivial,fun b hb=>absurd (show b∈([]:List Addr)from hb) (by simp),bV,.of_eq hg⟩;refine g8 ((F _ VD (Q9 uH)).run callerA [] bZ H ⟨[.ref a],[]⟩ [.ref a] [.ref a] _ _ hr e0 (xl bZ (.ref a)) (.cons rfl .nil) (Ie H hT hS)) fun r s' h=>?_
  cases r with
  |error e=>exact(S0 H e s' h).elim
  |ok fl=>
   cases fl with
   |next=>exact False.elim h
   |brk=>exact False.elim h
   |cont=>exact False.elim h
   |ret u=>
    obtain⟨v,H',os,bare,un,NH,r',q⟩:=h;have q':v=.bl true:=q;subst q';obtain rfl:u=Value.bool true:=r';have keep:∀b o,b≠tP->bZ.heap.get? b=some o->s'.heap.get? b=some o:=fun b o nb e=>by
     cases q:H b with
     |none=>exact un.keep b o e q (by intro z;exact absurd (show b∈([]:List Addr)from z) (by simp)) (by simp)
     |some u=>
      rcases hA b (by rw[q];simp)with e'|e'
      ·subst e';obtain⟨ob,xs,z⟩:=hF u q;subst z;have z2:=un.jZ b ob _ q;obtain⟨e1,_⟩:=bV b _ q;obtain⟨e2,_⟩:=NH b _ z2;rw[e]at e1;cases e1;exact e2
      ·exact absurd e' nb
    obtain⟨more,BL⟩:=un.kE tP _ hT;obtain⟨qs,hq,_⟩:=NH tP _ BL;refine⟨rfl,⟨fun b o e=>?_,fun b o e=>?_⟩,os,bare⟩
    ·by_cases nb:b=tP
     ·subst nb;rw[hP]at e;cases e;exact .inr (.inl ⟨(hC.tab hP).isCodeTable,rfl,#[],qs,rfl,by rw[Array.empty_append];exact hq⟩)
     ·exact .inl (keep b o nb e)
    ·by_cases nb:b=tP
     ·subst nb;exact⟨_,hq⟩
     ·exact⟨o,keep b o nb e⟩
 cases hk:K.lookup a with
 |some o=>
  have e:=KX a o hk;rw[ha]at e;cases e;refine core (fun b=>if b=tP then some (.wF #[.str tq 0])else none) (ab rfl) (.inr ⟨_,vs.toArray,_,hk,rfl,rfl,rfl,by rw[aS,S3];exact hl,by simpa using rv⟩) (fun b u z=>?_) (fun b z=>?_) (fun z=>absurd (ae S4) z) fun u z=>by rw[ae S4]at z;cases z
  ·by_cases hb:b=tP
   ·have z':=(ab hb).symm.trans z;cases z';rw[hb];exact NG _
   ·have z':=(ae hb).symm.trans z;cases z'
  ·by_cases hb:b=tP
   ·exact .inr hb
   ·exact absurd (ae hb) z
 |none=>
  refine core (fun b=>if b=a then some (.gI {cls:=.type "list",data:=.seq vs.toArray} (.lst (ns.map V.int)))else if b=tP then some (.wF #[.str tq 0])else none) ((ae (cv S4)).trans (ab rfl)) (.inl (.inr ⟨{cls:=.type "list",data:=.seq vs.toArray},ab rfl⟩)) (fun b u z=>?_) (fun b z=>?_) (fun _=>hk) fun u z=>?_
  ·by_cases hb:b=a
   ·have z':=(ab hb).symm.trans z;cases z';subst hb;exact⟨ha,by rw[ak];exact hl,vs,_,rv,ha⟩
   ·have z':=(ae hb).symm.trans z;by_cases Dx:b=tP
    ·have z2:=(ab Dx).symm.trans z';cases z2;rw[Dx];exact NG _
    ·have z2:=(ae Dx).symm.trans z';cases z2
  ·by_cases hb:b=a
   ·exact .inl hb
   ·by_cases Dx:b=tP
    ·exact .inr Dx
    ·exact absurd ((ae hb).trans (ae Dx)) z
  ·have z':=(ab rfl).symm.trans z;cases z';exact⟨_,_,rfl⟩
end L2
namespace L2
open PySem PySem.Spec PyProof.Rows
theorem Gp{l:PySem.W.OpenLaw}{n k:Nat}{q:Program}{loose:List Str}{XP:(Str->Option Value)->Heap->Prop}{YP:World->Heap->Prop}{d:DefRec}{K:Params->PySem.W.Frag}{CX:World->yT}{sp:World->Sp}{x:Str}{tc tP:Addr}{tq:Str}
  (hn:l.most=some n) (Q_:n<=sizeLine) (NA:d.params.defaults=[]) (hr:dC k callerA)
  (hY:∀(w:World) (h:Heap),YP w h->(K w.params).In h) (hC:∀(w:World) (h:Heap),YP w h->PySem.W.CodeHd h tc tP) (hP:∀(w:World) (h:Heap),YP w h->h.get? tP=some (PySem.W.tabObj #[])) (J3:∀w:World,(K w.params).lookup tP=none)
  (F:∀(w:World) (mg:Str->Option Value) (fa:Addr) (h:Heap),(K w.params).In h->h.Ns mainGlobals mg->mg d.name=some (.ref fa)->
   ∃fd:FuncData,(∀(s:Shared) (u:Value),BindsTo s fd ⟨[u],[]⟩ [(x,u)])/\
    ∀base:Heap,(K w.params).In base->base.Ns mainGlobals mg->hX l.prog w (K w.params) mg base (CX w) k fa fd [x] (sp w))
  (Ie:∀(w:World) (H:Hp) (a:Addr) (ns:List Int),ns.length<=n->H tP=some (.wF #[.str tq 0])->iA (K w.params) H a (ns.map V.int)->sp w [.ref a] H (fun v _=>v=.bl true) fun _ _ _=>False)
  (S0:∀(w:World) (H:Hp) (s:Shared) (e:Value) (s':Shared),CX w [] H s (fun _ _ _=>False) e s'->False):
  PySem.W.WalkO q loose XP YP l.row.toRowW d [] (fun f vs=>PySem.call f vs):=by
 refine VC.xk hn NA fun w fj bZ mg mb fa o pm cd doc a vs ns G Y ho hd pQ NC J1 hints hlen hg=>?_
 have KX:=hY w _ Y;obtain⟨fd,hb,hF⟩:=F w mg fa _ KX G.T.g NC;have NF:∃bm ob,mg "__builtins__"=some (.ref bm)/\bm≠builtinsNs/\bm≠mainGlobals/\bZ.heap.get? bm=some ob/\ob.cls=.type "module"/\ob.dict=some builtinsNs/\ob.data=.plain:=by
  obtain⟨bm,ob,b1,b2,b3,b4,b5,b6⟩:=G.T.bmain;refine⟨bm,ob,b1,b2,fun z=>?_,b3,b4,b5,b6⟩;obtain⟨o,es,ep,e,hd,_⟩:=G.T.g;rw[z,e]at b3;cases b3;rw[hd]at b6;cases b6
 exact Dw KX G.T.g G.T.b G.T.builtins G.T.nolimit hg NF (hC w _ Y) (hP w _ Y) (J3 w) J1 hints (aZ hlen Q_) hr hF hb (fun H hO hS=>Ie w H a ns hlen hO hS) fun H e s'=>S0 w H bZ e s'
end L2
namespace L2
open PySem PySem.Spec PyProof.Rows
def qe(s:Stmt):Arguments:=match s with
 |.FunctionDef _ a _ _ _ _ _ _ _ _=>a
 |_=>{posonlyargs:=[],args:=[],vararg:=none,kwonlyargs:=[],kw_defaults:=[],kwarg:=none,defaults:=[]}
def dy(s:Stmt):List Stmt:=match s with
 |.FunctionDef _ _ b _ _ _ _ _ _ _=>b
 |_=>[]
def aD(s:Stmt):Scope:=match s with
 |.FunctionDef _ _ _ _ _ _ sc _ _ _=>sc
 |_=>{kind:=.function,names:=[],isGenerator:=false,isCoroutine:=false}
abbrev qg:yT:=fun _ _ _ _ _ _=>False
abbrev E0:XK:=fun _ _ _=>False
theorem NI{X:Cx}:Passes qg X E0:=fun _ _ _ _ _ _ _ h=>h.elim
structure uh(K:PySem.W.Frag)(x qual:Str)(st:Stmt)(f:Addr)(fd:FuncData):Prop where
 ex:∃(oc:Value) (od:Option Addr) (kV doc pm:Value) (an:Option Addr) (dw ct:Value) (z6:Array (Option Value)),
  fd=PySem.W.fnOf x qual (qe st) (dy st) (aD st) .none kV doc pm an dw ct/\K.lookup f=some ⟨oc,od,.func fd,z6⟩/\PySem.W.codeIn K dw qual=true
 kp:PySem.W.keepIn K (.ref f)=true
section
variable {P:Program}{w:World}{K:PySem.W.Frag}{mg:Str->Option Value}{base:Heap}
theorem uh.ok {x qual:Str}{st:Stmt}{f:Addr}{fd:FuncData}{N ps:List Str}{k:Nat}{sp:Sp}(F:uh K x qual st f fd)(S:eB N ps (aD st))(len:∀vs H Q E,sp vs H Q E->vs.length=ps.length)
  (hZ:∀(dw:Value) (A:Around) (outer:List Env) (s:Shared) (H:Hp) (vs:List V) (Q:VK) (E:XK),dC k (A.deeper (envOfC qual (aD st) s.heap.objs.size f dw))->sp vs H Q E->
   ∃t,kF (j3 qg P w K mg base N qual (aD st) f dw A outer s H E).CN (dy st) t/\t {nx:=fun _ H'=>Q .dv H',rt:=Q} (start N vs) H):hX P w K mg base qg (k+1) f fd ps sp:=by
 obtain⟨oc,od,kV,doc,pm,an,dw,ct,z6,rfl,lk,pQ⟩:=F.ex;refine Dj lk pQ S len fun A outer s H vs Q E hr Ie=>?_
 obtain⟨t,h,q⟩:=hZ dw A outer s H vs Q E hr Ie;exact⟨t,h.CN,q⟩
theorem uh.binds {x qual:Str}{st:Stmt}{f:Addr}{fd:FuncData}{ps:List Str}(F:uh K x qual st f fd)
  (h:∀(kV doc pm:Value) (an:Option Addr) (dw ct:Value) (us:List Value),us.length=ps.length->bindArgs (PySem.W.fnOf x qual (qe st) (dy st) (aD st) .none kV doc pm an dw ct) ⟨us,[]⟩=pure (ps.zip us)):Binds K fd ps []:=by
 obtain⟨oc,od,kV,doc,pm,an,dw,ct,z6,rfl,lk,pQ⟩:=F.ex;exact .all (h kV doc pm an dw ct)
end
theorem cw{A:Around}{k:Nat}(hr:dC k A):A.units+1<cLine:=Nat.lt_of_le_of_lt (Nat.add_le_add_left (by decide:1<=64) _) hr.units
theorem Dy{A B:Prop}(h:B):if false=true then A else B:=by
 rw[ae cR];exact h
theorem J4{A B:Prop}(h:A):if true=true then A else B:=by
 rw[ab rfl];exact h
def aw(H H':Hp):Prop:=∀b o,H b=some o->H' b=some o
theorem aw.refl (H:Hp):aw H H:=fun _ _ h=>h
theorem aw.trans {H H1 H2:Hp}(a:aw H H1)(b:aw H1 H2):aw H H2:=fun c o h=>b c o (a c o h)
theorem aw.free {H H':Hp}(e:aw H H'){l:Addr}(h:H' l=Option.none):H l=Option.none:=by
 cases q:H l with
 |none=>rfl
 |some o=>
  rw[e l o q]at h;cases h
theorem aw.seq {K:PySem.W.Frag}{H H':Hp}{a:Addr}{xs:List V}(e:aw H H')(h:iA K H a xs):iA K H' a xs:=by
 rcases h with(h|⟨o,h⟩)|h
 ·exact .inl (.inl (e _ _ h))
 ·exact .inl (.inr ⟨o,e _ _ h⟩)
 ·exact .inr h
end L2
namespace L2
open PySem PySem.Spec PyProof.Rows
theorem sr{α β:Type}{f:α->β->Sem (ForInStep β)}{g:β->α->β}:∀(l:List α) (c:β),(∀x∈l,∀c,f x c=pure (.yield (g c x)))->forIn l c f=(pure (l.foldl g c):Sem β)
 |[],c,_=>rfl
 |x::l,c,h=>by
  rw[List.forIn_cons,h x aP,pure_bind];exact sr l _ fun y hy=>h y (aO _ hy)
def iK(env:Env)(cs:List (Str×Addr))(x:Str×NameKind):List (Str×Addr):=if x.2== .free then(x.1,(env.cells.lookup x.1).getD 0)::cs else cs
def vF(scope:Scope)(env:Env):List (Str×Addr):=scope.names.foldl (iK env) []
theorem jG{scope:Scope}{env:Env}(h:∀x∈scope.names,x.2=.free->∃c,env.cells.lookup x.1=some c):closureFor scope env=pure (vF scope env):=by
 simp only[closureFor];rw[sr (g:=iK env) scope.names [] (fun x hx c=>by
  obtain⟨n,k⟩:=x;by_cases hk:k=.free
  ·subst hk;obtain⟨a,ha⟩:=h _ hx rfl;have dz:env.cells.lookup n=some a:=ha;simp[cellOf,dz,iK]
  ·have e:(k==NameKind.free)=false:=by simpa using hk
   simp[e,iK])]
 rfl
theorem mh{env:Env}:∀(names:List (Str×NameKind)) (acc:List (Str×Addr)),(∀x∈names,x.2=.free->∃c,env.cells.lookup x.1=some c)->(∀x c,acc.lookup x=some c->env.cells.lookup x=some c)->
  ∀x c,(names.foldl (iK env) acc).lookup x=some c->env.cells.lookup x=some c
 |[],_,_,ha,x,c,e=>ha x c e
 |(n,k)::r,acc,hf,ha,x,c,e=>by
  refine mh r (iK env acc (n,k)) (fun y hy=>hf y (aO _ hy)) (fun y d ed=>?_) x c e;unfold iK at ed;by_cases hk:k=.free
  ·subst hk;obtain⟨a,hn⟩:=hf (n,.free) aP rfl;have HZ:env.cells.lookup n=some a:=hn;simp only[bD,f_,HZ,rG,dj]at ed;split at ed
   ·rename_i hy;have:y=n:=by simpa using hy
    subst this;rw[HZ];exact ed
   ·exact ha y d ed
  ·have e:(k==NameKind.free)=false:=by simpa using hk
   simp only[e,bS,bB]at ed;exact ha y d ed
theorem mj{env:Env}:∀(names:List (Str×NameKind)) (acc:List (Str×Addr)) (x:Str),((acc.lookup x).isSome=true\/(x,NameKind.free)∈names)->((names.foldl (iK env) acc).lookup x).isSome=true
 |[],_,_,h=>h.elim (fun z=>z) fun z=>absurd z (by simp)
 |(n,k)::r,acc,x,h=>by
  refine mj r (iK env acc (n,k)) x ?_
  unfold iK;rcases h with h|h
  ·left;split
   ·rw[dj];split<;>simp_all
   ·exact h
  ·rcases a8.mp h with h|h
   ·left;cases h;simp[dj]
   ·exact .inr h
theorem ml{env:Env}:∀{names:List (Str×NameKind)} {x:Str} {k:NameKind},(names.map fun(n,k)=>if(k==NameKind.free&&env.scope.kind== .function&&env.kindOf n==some .cell)then(n,NameKind.cell)else(n,k)).lookup x=some k->
  names.lookup x=some k\/names.lookup x=some .free
 |[],_,_,h=>by simp at h
 |(n,j)::r,x,k,h=>by
  simp only[aC]at h;by_cases hx:x=n
  ·subst hx;by_cases hc:(j==NameKind.free&&env.scope.kind== .function&&env.kindOf x==some .cell)=true
   ·rw[ab hc]at h;simp only[aE,g9]at hc;right;rw[dj,bD,hc.1.1]
   ·rw[ae hc]at h;left;rw[dj,bD]at h⊢;exact h
  ·have e:(x==n)=false:=by simpa using hx
   have h':(r.map fun(n,k)=>if(k==NameKind.free&&env.scope.kind== .function&&env.kindOf n==some .cell)then(n,NameKind.cell)else(n,k)).lookup x=some k:=by
    split at h<;>(rw[dj,e]at h;exact h)
   rcases ml h' with z|z
   ·left;rw[dj,e];exact z
   ·right;rw[dj,e];exact z
theorem nB{env:Env}:∀{names:List (Str×NameKind)} {x:Str},names.lookup x=some .free->
  (names.map fun(n,k)=>if(k==NameKind.free&&env.scope.kind== .function&&env.kindOf n==some .cell)then(n,NameKind.cell)else(n,k)).lookup x=some .cell\/
  (names.map fun(n,k)=>if(k==NameKind.free&&env.scope.kind== .function&&env.kindOf n==some .cell)then(n,NameKind.cell)else(n,k)).lookup x=some .free
 |[],_,h=>by simp at h
 |(n,j)::r,x,h=>by
  simp only[aC];by_cases hx:x=n
  ·subst hx;rw[dj,bD]at h;have hj:j=.free:=Option.some.inj h;by_cases hc:(j==NameKind.free&&env.scope.kind== .function&&env.kindOf x==some .cell)=true
   ·left;rw[ab hc,dj,bD]
   ·right;rw[ae hc,dj,bD,hj]
  ·have e:(x==n)=false:=by simpa using hx
   rw[dj,e]at h;rcases nB (env:=env) h with z|z
   ·left;split<;>(rw[dj,e];exact z)
   ·right;split<;>(rw[dj,e];exact z)
def kL(X:Cx)(scope:Scope)(N:List Str)(s:Shared)(H:Hp)(ex:List Addr):Cx where
 prog:=X.prog
 w:=X.w
 K:=X.K
 mg:=X.mg
 base:=X.base
 A:=X.A
 N:=N
 fj:=s
 wY:=H
 env:=compEnvC scope (vF scope X.env) s.heap.objs.size X.env
 outer:=X.stack
 stack:=X.stack
 ex:=ex
 fn:=fun _=>false
 calm:=X.calm
 pn:=[]
 xe:=fun _ _=>False
def NJ(N N':List Str)(ix:List (Option Nat))(sc scope:Scope):Bool:=
 decide (N'.length=ix.length)&&(N'.zip ix).all (fun p=>match p.2 with
  |none=>true
  |some j=>decide (N[j]?=some p.1)&&decide (scope.names.lookup p.1=some .free))&&
 scope.names.all (fun y=>y.2 != .cell&&(y.2 != .free||decide (sc.names.lookup y.1=some .cell))&&(y.2 != .local||decide (scope.names.lookup y.1=some .local)))&&(scope.kind== .function)
structure eQ(X:Cx)(N':List Str)(ix:List (Option Nat))(scope:Scope):Prop where
 len:N'.length=ix.length
 free:∀(i:Nat) (x:Str) (j:Nat),N'[i]?=some x->ix[i]?=some (some j)->X.N[j]?=some x/\scope.names.lookup x=some .free
 vG:∀y∈scope.names,y.2≠ .cell
 cell:∀y∈scope.names,y.2=.free->X.env.scope.names.lookup y.1=some .cell
 loc:∀y∈scope.names,y.2=.local->scope.names.lookup y.1=some .local
 kind:scope.kind=.function
theorem eQ.of {X:Cx}{N N':List Str}{ix:List (Option Nat)}{sc scope:Scope}(hN:X.N=N)(hs:X.env.scope=sc)(h:NJ N N' ix sc scope=true):eQ X N' ix scope:=by
 unfold NJ at h;simp only[aE,cp,bA]at h;obtain⟨⟨⟨h1,h2⟩,h3⟩,h4⟩:=h;refine⟨h1,fun i x j e1 e2=>?_,fun y hy z=>?_,fun y hy z=>?_,fun y hy z=>?_,by simpa using h4⟩
 ·have m:(x,some j)∈N'.zip ix:=bg (i:=i) (by rw[lA];exact⟨e1,e2⟩);have q:=h2 _ m;simp only[aE,cp]at q;rw[hN];exact q
 ·have q:=(h3 y hy).1.1;rw[z]at q;simp at q
 ·have q:=(h3 y hy).1.2;rw[z]at q;simp only[iZ,m_,cp]at q;rw[hs];exact q
 ·have q:=(h3 y hy).2;rw[z]at q;simp only[iZ,m_,cp]at q;exact q
def fv(ix:List (Option Nat))(σ:St):St:=ix.map fun o=>o.bind fun j=>(σ[j]?).join
theorem yY{X:Cx}{N':List Str}{ix:List (Option Nat)}{scope:Scope}{pins:List (Addr×Obj)}{σ:St}{H:Hp}{s:Shared}{fH:Heap}{fp:List Addr}{tk:Nat}(L:eQ X N' ix scope)(I:Inv X pins σ H s)
  (uH:fH.Ns s.heap.objs.size (fun _=>none)) (Dz:∀b o,s.heap.get? b=some o->fH.get? b=some o)
  (hf:∀b∈fp,lR X pins H b) (NK:∀b∈fp,b<s.heap.objs.size):Inv (kL X scope N' s H fp) [] (fv ix σ) H {s with heap:=fH,toks:=tk}:=by
 have kN:∀y∈scope.names,y.2=.free->∃c,X.env.cells.lookup y.1=some c:=fun y hy z=>I.ok.has y.1 (.inl (L.cell y hy z));have sub:∀x c,(vF scope X.env).lookup x=some c->X.env.cells.lookup x=some c:=mh scope.names [] kN (fun x c e=>by simp at e);have has:∀x,scope.names.lookup x=some .free->∃c,(vF scope X.env).lookup x=some c:=fun x e=>
  qQ.mp (mj scope.names [] x (.inr (gB e)))
 have Mp:∀b∈fp,b∉nr X.stack:=fun b hb z=>by
  obtain⟨_,f1,f2,_⟩:=hf b hb;rcases a8.mp (I.yM b z)with q|q
  ·exact f1 q
  ·exact f2 q
 refine⟨⟨I.ok.mod,L.kind,I.ok.glob,I.ok.blt,aq _,fun x y c e1 e2=>I.ok.inj x y c (sub x c e1) (sub y c e2),fun x hx=>?_,fun x c z=>absurd (show false=true from z) cR,I.ok.hd,I.ok.frames,.inl rfl,
   fun b hb=>⟨bo (NK b hb),fun x c e=>(hf b hb).2.2.2.2.1 x c (sub x c e)⟩,I.bs,aZ I.ok.HX I.sz,fun b o e hb=>?_,Mp,I.stack,I.vn⟩,
  rfl,I.bare,Un.kept Dz,⟨_,uH,fun i x v e1 e2 e3=>?_⟩,fun x c e=>?_,I.fresh,fun x c e=>I.gy x c (sub x c e),fun p hp=>absurd (show p∈([]:List (Addr×Obj))from hp) (by simp),I.bV.kept Dz,?_⟩
 ·have hx:(relabel scope X.env).names.lookup x=some .cell\/(relabel scope X.env).names.lookup x=some .free:=hx;have zY:scope.names.lookup x=some .free:=by
   rcases hx with z|z
   ·rcases ml z with q|q
    ·exact absurd rfl (L.vG _ (gB q))
    ·exact q
   ·rcases ml z with q|q
    ·exact q
    ·exact q
  exact has x zY
 ·obtain⟨_,_,_,q,_⟩:=hf b hb;rcases q with q|q
  ·exact I.ok.C1 b o e q
  ·exact absurd (bQ (az (I.ok.bs b o e).1) q) (du _)
 ·
  unfold fv at e2;rw[aL]at e2;cases eo:ix[i]? with
  |none=>rw[eo]at e2;cases e2
  |some o=>
   rw[eo]at e2;cases o with
   |none=>exact absurd (show(some none:Option (Option V))=some (some v)from e2) (by simp)
   |some j=>
    obtain⟨n1,n2⟩:=L.free i x j e1 eo;have Ra:(σ[j]?).join=some v:=Option.some.inj (show some ((σ[j]?).join)=some (some v)from e2);have e4:σ[j]?=some (some v):=by
     cases q:σ[j]? with
     |none=>rw[q]at Ra;cases Ra
     |some z=>
      rw[q]at Ra;have:z=some v:=Ra;rw[this]
    have yZ:X.env.scope.names.lookup x=some .cell:=L.cell _ (gB n2) rfl;obtain⟨m,hn,hl⟩:=I.loc;obtain⟨u,r,l⟩:=hl j x v n1 e4 (.inr (.inl yZ));refine⟨u,r,?_⟩;rcases l with⟨k,_⟩|⟨k,c,ec,z⟩
    ·have k':X.env.scope.names.lookup x=some .local:=k;rw[yZ]at k';cases k'
    ·obtain⟨c',M4⟩:=has x n2;have W7:c'=c:=by
      have q:=sub x c' M4;rw[ec]at q;exact(Option.some.inj q).symm
     subst W7;refine .inr ⟨?_,c',M4,?_⟩
     ·exact nB n2
     ·obtain⟨o',wZ,C4⟩:=z;exact⟨o',Dz _ _ wZ,C4⟩
 ·obtain⟨v,o,ho,hd⟩:=I.cell x c (sub x c e);exact⟨v,o,Dz _ _ ho,hd⟩
 ·show(fv ix σ).length=N'.length;unfold fv;rw[ak];exact L.len.symm
end L2
namespace L2
open PySem PySem.Spec PyProof.Rows
abbrev Ac(ifs:List Expr)(env:Env):Sem Bool:=forIn ifs true fun c r=>if r=true then do let ok<-isTrue c env (eval c env);pure (ForInStep.yield ok)else pure (ForInStep.yield r)
section
variable {prog:Program}{w:World}{A:Around}{R:Result->Shared->Prop}{s:Shared}
theorem Gq{elt target iter:Expr}{ifs:List Expr}{scope:Scope}{pos:Pos}{it acc:Value}{env:Env}(I:Nat->Shared->Prop)
  (turn:∀n s,I n s->wpAny (model prog w) A (pyNext it) (fun r bZ=>match r with
   |none=>R (.ok .next) bZ
   |some v=>wpAny (model prog w) A (letOwnedTupleGo target it v) (fun _ Im=>wpAny (model prog w) A (assign target env v) (fun _ oF=>
     wpAny (model prog w) A (Ac ifs env) (fun ok yN=>
      if ok=true then wpAny (model prog w) A (eval elt env) (fun x Gr=>
       wpAny (model prog w) A (call (.builtin "list.append") [acc,x]) (fun _ NL=>∃m,m<n/\I m NL) (fun _ _=>False) Gr) (fun _ _=>False) yN
      else∃m,m<n/\I m yN) (fun _ _=>False) oF) (fun _ _=>False) Im) (fun _ _=>False) bZ) (fun _ _=>False) s)
  (n:Nat) (h:I n s):codeAny (model prog w) A (.compLoop (.ListComp elt [⟨target,iter,ifs,0⟩] scope pos) 0 it acc env) R s:=by
 refine codeAny_loop rfl I (fun n s hI=>?_) n h;show wpAny _ A ((compTurn (.ListComp elt [⟨target,iter,ifs,0⟩] scope pos) 0 it acc env).onRaise (fun x=>do noteFrame x env;theTreesLotGoes x)) _ _ s;refine wpAny_noted ?_
 rw[compTurn_list];refine aa (wpAny_standAt (aa (cT (turn n s hI) (fun r bZ fH=>?_) fun _ _ f=>f.elim)));cases r with
 |none=>exact af fH
 |some v=>
  refine aa (cT fH (fun _ Im NM=>?_) fun _ _ f=>f.elim);refine aa (cT NM (fun _ oF Gs=>aa (cT Gs (fun ok yN NN=>?_) fun _ _ f=>f.elim)) fun _ _ f=>f.elim);cases ok with
  |false=>exact af ⟨rfl,NN⟩
  |true=>exact aa (aa (cT NN (fun x Gr S5=>aa (cT S5 (fun _ NL S6=>af (af ⟨rfl,S6⟩)) fun _ _ f=>f.elim)) fun _ _ f=>f.elim))
end
def PF(X:Cx)(ifs:List Expr)(t:TT):Prop:=
 ∀(pins:List (Addr×Obj)) (s:Shared) (σ:St) (H:Hp) (Q:Bool->Hp->Prop),Inv X pins σ H s->t σ H Q->wpAny (model X.prog X.w) X.A (Ac ifs X.env) (TP X pins σ Q) X.xe s
theorem DA{X:Cx}:PF X [] (fun _ H Q=>Q true H):=fun _ _ _ H _ I h=>wpAny_tests_nil ⟨H,I,h⟩
theorem DB{X:Cx}{c:Expr}{t:TT}(h:PT X c t):PF X [c] t:=fun pins s σ H Q I q=>wpAny_tests_one (h pins s σ H Q I q)
def S7(J:It)(D:Addr)(Rb:St)(H0:Hp)(g:TG)(tc:TT)(te:TE)(Q:Hp->Prop):Prop:=
 ∃W:Nat->Nat->St->Hp->Prop,(∃m,W 0 m Rb H0)/\∀i m σ H,W i m σ H->(J.stop i H/\Q H)\/
  (J.go i H/\∃N:St->Hp->Prop,(∀bM H',N bM H'->∃m',m'<m/\W (i+1) m' bM H')/\∀x H',J.yO i H x H'->g x σ H' fun mC H2=>tc mC H2 fun b H3=>
    if b=true then te mC H3 fun y H4=>∃ys,H4 D=some (.lst ys)/\ys.length<sizeLine/\N mC (upd H4 D (.lst (ys++[y])))else N mC H3)
def Gu(wi:TI)(ix:List (Option Nat))(g:TG)(tc:TT)(te:TE):TE:=fun σ H Q=>wi σ H fun J H1=>∀D,H1 D=none->S7 J D (fv ix σ) (upd H1 D (.lst [])) g tc te fun H'=>Q (.ref D) H'
section
variable {X:Cx}{scope:Scope}{N':List Str}{ix:List (Option Nat)}{tg iter elt:Expr}{ifs:List Expr}{pos:Pos}{g:TG}{tc:TT}{te:TE}
theorem Ad{use:Option (Value->Sem Unit)}{Qf:Value->Shared->Prop}{QD:Addr->Hp->Prop}{pins:List (Addr×Obj)}{s2:Shared}{σ:St}{H2:Hp}{it:Addr}{fp:List Addr}{tn:Nat->Heap->Prop}{J:It}
  (L:eQ X N' ix scope) (hc:X.calm=true) (iT:∀s H ex,PG (kL X scope N' s H ex) tg g/\PF (kL X scope N' s H ex) ifs tc/\PE (kL X scope N' s H ex) elt te)
  (I2:Inv X pins σ H2 s2) (T:Turn X.prog X.w X.K tg J fp it tn) (F6:tn 0 s2.heap) (f2:∀b∈fp,lR X pins H2 b)
  (hw:∀D,H2 D=none->S7 J D (fv ix σ) (upd H2 D (.lst [])) g tc te (QD D))
  (S8:∀D C H' s' m,Inv X pins σ H' s'->lR X pins H' C->s'.heap.Ns C m->QD D H'->compPost (model X.prog X.w) X.A X.xe use Qf (.ref D) C (.ok .next) s'):
  wpAny (model X.prog X.w) X.A (newList []) (fun acc yN=>wpAny (model X.prog X.w) X.A (newFunctionEnv scope X.env.globals (vF scope X.env) [] X.env.qual none .none (some X.env)) (fun NO Gr=>
   codeAny (model X.prog X.w) X.A (.compStart (.ListComp elt [⟨tg,iter,ifs,0⟩] scope pos) 0 (.ref it) acc {NO with scope:=relabel scope X.env}) (compPost (model X.prog X.w) X.A X.xe use Qf acc NO.locals) Gr) X.xe yN) X.xe s2:=by
 refine cB (wpAny_newFunctionEnv L.vG (by intro y hy;simp at hy) (fun fH y0 y3=>?_) L.kind);dsimp only at y0 y3⊢;have hD:H2 s2.heap.objs.size=none:=I2.fresh;have I3:Inv X pins σ (upd H2 s2.heap.objs.size (.lst [])) {s2 with heap:=s2.heap.push {cls:=.type "list",data:=.seq ([]:List Value).toArray},toks:=s2.toks}:=I2.JV (aV:=[]) .nil (bK _);generalize NP:({s2 with heap:=s2.heap.push {cls:=.type "list",data:=.seq ([]:List Value).toArray},toks:=s2.toks}:Shared)=s3 at I3;have e3:({s2 with heap:=s2.heap.push {cls:=.type "list",dict:=none,data:=.seq ([]:List Value).toArray}}:Shared)=s3:=NP;have eh:s2.heap.push {cls:=.type "list",dict:=none,data:=.seq ([]:List Value).toArray}=s3.heap:=b9 Shared.heap e3;have W8:s3.os=s2.os:=by rw[<-e3]
 have ek:∀b o,s2.heap.get? b=some o->s3.heap.get? b=some o:=fun b o e=>by rw[<-eh];exact aB _ e
 have J5:s2.heap.objs.size<=s3.heap.objs.size:=by rw[<-eh,Heap.size_push];exact kB _
 rw[eh]at y0 y3⊢;have f3:∀b∈fp,lR X pins (upd H2 s2.heap.objs.size (.lst [])) b:=fun b hb=>by
  obtain⟨o,eo,_⟩:=T.obj _ _ F6 b hb;refine⟨?_,(f2 b hb).2⟩;rw[au (bo (az eo))];exact(f2 b hb).1
 have MU:∀b∈fp,b<s3.heap.objs.size:=fun b hb=>by
  obtain⟨o,eo,_⟩:=T.obj _ _ F6 b hb;exact bQ (az eo) J5
 have k4:∀b o,s3.heap.get? b=some o->fH.get? b=some o:=fun b o e=>y3.extBut b o (bo (az e)) (aB _ e);have VE:tn 0 fH:=T.keep _ _ _ F6 fun b _ o e=>k4 b o (ek b o e);obtain⟨W,⟨m0,w0⟩,turn⟩:=hw s2.heap.objs.size hD;have I4:∀tk,Inv (kL X scope N' s3 (upd H2 s2.heap.objs.size (.lst [])) fp) [] (fv ix σ) (upd H2 s2.heap.objs.size (.lst [])) {s3 with heap:=fH,toks:=tk}:=fun tk=>
  yY L I3 y0 k4 f3 MU
 obtain⟨hg,hf,he⟩:=iT s3 (upd H2 s2.heap.objs.size (.lst [])) fp;have yQ:∀{H':Hp},(∀b∈fp,H' b=none)->∀b∈fp,lR (kL X scope N' s3 (upd H2 s2.heap.objs.size (.lst [])) fp) [] H' b:=fun{H'} hn b hb=>by
  have ok:=(I4 0).ok;obtain⟨x1,x2⟩:=ok.R7 b hb;exact⟨hn b hb,x1,ok.C2 b hb,.inl hb,x2,fun p hp=>absurd (show p∈([]:List (Addr×Obj))from hp) (by simp)⟩
 have loop:∀tk,codeAny (model X.prog X.w) X.A (.compLoop (.ListComp elt [⟨tg,iter,ifs,0⟩] scope pos) 0 (.ref it) (.ref s2.heap.objs.size) (compEnvC scope (vF scope X.env) s3.heap.objs.size X.env))
   (compPost (model X.prog X.w) X.A X.xe use Qf (.ref s2.heap.objs.size) s3.heap.objs.size) {s3 with heap:=fH,toks:=tk}:=fun tk=>by
  refine Gq (fun n s'=>∃i bM H',Inv (kL X scope N' s3 (upd H2 s2.heap.objs.size (.lst [])) fp) [] bM H' s'/\tn i s'.heap/\(∀b∈fp,H' b=none)/\W i n bM H') ?_ m0
   ⟨0,_,_,I4 tk,VE,fun b hb=>(f3 b hb).1,w0⟩
  rintro n s5 ⟨i,Rc,H5,I5,Mu,Q4,w5⟩
  rcases turn i n Rc H5 w5 with⟨stop,qn⟩|⟨go,N,hN,step⟩
  ·refine dN (T.done (kL X scope N' s3 (upd H2 s2.heap.objs.size (.lst [])) fp) rfl rfl rfl hc i [] s5 Rc H5 _ I5 (yQ Q4) Mu stop) fun r s6 ⟨hr,I6⟩=>?_
   subst hr;have u:Un (nr X.stack) fp H2 H5 s2.heap s6.heap:=(Un.laid (o:=.lst []) ek (aq _) hD).trans I6.base;have J6:Inv X pins σ H5 s6:=I2.M5 (ch:=fp) (I6.os.trans W8) u I6.bV I6.bare fun b hb=>by
    obtain⟨_,x1,_,x3,x4,x5⟩:=f2 b hb;exact⟨x3,x1,x4,x5⟩
   obtain⟨m,hm,_⟩:=I6.loc;exact S8 _ _ H5 s6 m J6 (I2.vt J5 I6.free) hm qn
  ·refine dN (T.item (kL X scope N' s3 (upd H2 s2.heap.objs.size (.lst [])) fp) rfl rfl rfl hc i [] s5 Rc H5 _ I5 (yQ Q4) Mu go) fun r s6 ⟨v,hr,h6⟩=>?_
   subst hr;refine dN h6 fun _ s7 ⟨x,H7,I7,r7,y7,S9,W9⟩=>?_
   have W_:=I7.pinned (yQ W9) (T.obj _ _ S9);refine dN (hg _ s7 Rc H7 x v _ W_ r7 (step x H7 y7)) fun _ s8 ⟨Rf,H8,I8,q8⟩=>?_
   have again:∀{NQ:St} {H9:Hp} {s9:Shared},Inv (kL X scope N' s3 (upd H2 s2.heap.objs.size (.lst [])) fp) ([]++sd fp s7.heap) NQ H9 s9->N NQ H9->
     ∃m,m<n/\∃i bM H',Inv (kL X scope N' s3 (upd H2 s2.heap.objs.size (.lst [])) fp) [] bM H' s9/\tn i s9.heap/\(∀b∈fp,H' b=none)/\W i m bM H':=fun{NQ H9 s9} I9 n9=>by
    obtain⟨m',hm,w9⟩:=hN NQ H9 n9;refine⟨m',hm,i+1,NQ,H9,I9.nv,T.keep _ _ _ S9 fun b hb o e=>(I9.pin (b,o) (dS _ (dS _ (jF hb e)))).1,fun b hb=>?_,w9⟩;obtain⟨o,e,d⟩:=T.obj _ _ S9 b hb;exact(I9.pin (b,o) (dS _ (dS _ (jF hb e)))).2.1
   refine dN (hf _ s8 Rf H8 _ I8 q8) fun ok s9 ⟨H9,I9,q9⟩=>?_
   cases ok with
   |false=>exact again I9 q9
   |true=>
    refine dN (he _ s9 Rf H9 _ I9 q9) fun y Xa ⟨v10,Xb,Xc,Xd,ys,hy,hz,Xe⟩=>?_
    refine dN (oK _ Xa Rf Xb (.ref s2.heap.objs.size) [v10] (.ref s2.heap.objs.size) [y] (fun _ H'=>N Rf H') Xc rfl (.cons Xd .nil) ⟨_,ys,v10,rfl,rfl,hy,hz,Xe⟩) fun _ Zl ⟨_,Zm,Xf,_,Xg⟩=>?_
    exact again Xf Xg
 have es:∀tk,({s2 with heap:=fH,toks:=tk}:Shared)={s3 with heap:=fH,toks:=tk}:=fun tk=>by rw[<-e3]
 have Io:∀tk,codeAny (model X.prog X.w) X.A (.compLoop (.ListComp elt [⟨tg,iter,ifs,0⟩] scope pos) 0 (.ref it) (.ref s2.heap.objs.size) (compEnvC scope (vF scope X.env) s3.heap.objs.size X.env))
   (compPost (model X.prog X.w) X.A X.xe use Qf (.ref s2.heap.objs.size) s3.heap.objs.size) {s2 with heap:=fH,toks:=tk}:=fun tk=>by
  rw[es tk];exact loop tk
 exact codeAny_compStart_list (Io _) (T.self _ 0 _ _ _ VE (Io _))
theorem sv{wi:TI}(L:eQ X N' ix scope)(hc:X.calm=true)(hi:PI X tg iter wi)(iT:∀s H ex,PG (kL X scope N' s H ex) tg g/\PF (kL X scope N' s H ex) ifs tc/\PE (kL X scope N' s H ex) elt te)
  (hs:∀x,foldedSetIterable iter X.env x=pure x:=by intro _;rfl):PE X (.ListComp elt [⟨tg,iter,ifs,0⟩] scope pos) (Gu wi ix g tc te):=by
 intro pins s σ H Q I h;have kN:∀y∈scope.names,y.2=.free->∃c,X.env.cells.lookup y.1=some c:=fun y hy z=>I.ok.has y.1 (.inl (L.cell y hy z));rw[eval_ListComp];refine wpAny_comprehension_free (use:=none) rfl hs (jG kN) L.kind L.loc (dN (hi pins s σ H _ I h) fun v s1 h1=>dN h1 fun Q1 s2 h2=>?_);obtain⟨it,fp,tn,J,H2,e,I2,T,F6,f2,hw⟩:=h2;subst e;refine Ad (QD:=fun D H'=>Q (.ref D) H') L hc iT I2 T F6 f2 hw fun D C H' s' m I' fC hm q=>⟨m,hm,fun h' Dz=>?_⟩;obtain⟨x0,x1,x2,x3,x4,x5⟩:=fC;exact⟨.ref D,H',I'.turned (t':=s'.toks) (fun b o hb e=>(Dz.2 b hb).trans e) x0 x1 x3 x4 x5,rfl,q⟩
theorem xm{wi:TI}{i:Nat}{x:Str}{px nC:Pos}(L:eQ X N' ix scope)(hc:X.calm=true)(hN:X.N.Nodup)(hi:X.N[i]?=some x)(hx:Loc X.env.scope x)(hit:PI X tg iter wi)
  (iT:∀s H ex,PG (kL X scope N' s H ex) tg g/\PF (kL X scope N' s H ex) ifs tc/\PE (kL X scope N' s H ex) elt te)
  (Gv:swapsWith (.ListComp elt [⟨tg,iter,ifs,0⟩] scope pos) (some (.Name x px)) nC.line X.env=pure true:=by rfl)
  (hs:∀x,foldedSetIterable iter X.env x=pure x:=by intro _;rfl) (hf:X.fn x=true\/X.env.scope.names.lookup x=some .local:=by first|exact .inl rfl|exact .inr rfl|assumption):
  PS X (.Assign [.Name x px] (.ListComp elt [⟨tg,iter,ifs,0⟩] scope pos) nC) (fun D σ H=>Gu wi ix g tc te σ H fun v H'=>D.nx (σ.set i (some v)) H'):=by
 intro pins s σ H D I h;have kN:∀y∈scope.names,y.2=.free->∃c,X.env.cells.lookup y.1=some c:=fun y hy z=>I.ok.has y.1 (.inl (L.cell y hy z));rw[exec_Assign_Name_used _ _ _ _ Gv];refine aa (wpAny_standAt (aa ?_));show wpAny _ X.A (do let _<-comprehension (.ListComp elt [⟨tg,iter,ifs,0⟩] scope pos) scope X.env _ (newList []) false (eval iter X.env) (some (assign (.Name x px) X.env))) _ _ s;refine aa (cT (wpAny_comprehension_free (use:=some (assign (.Name x px) X.env)) (Q:=fun _ s'=>SP X pins D .next s') rfl hs (jG kN) L.kind L.loc
  (dN (hit pins s σ H _ I h) fun v s1 h1=>dN h1 fun Q1 s2 h2=>?_)) (fun _ s' hq=>af (af hq)) fun _ _ e=>e)
 obtain⟨it,fp,tn,J,H2,e,I2,T,F6,f2,hw⟩:=h2;subst e;refine Ad (QD:=fun Dd H'=>D.nx (σ.set i (some (.ref Dd))) H') L hc iT I2 T F6 f2 hw fun Dd C H' s' m I' fC hm q=>?_
 obtain⟨x0,x1,x2,x3,x4,x5⟩:=fC;show wpAny _ X.A (assign (.Name x px) X.env (.ref Dd)) _ _ _;refine wpAny_assign_Name (uu I' hN hi hx (v:=.ref Dd) rfl (fun FI Xh CM=>?_) hf);obtain⟨a,Dz,ha⟩:=CM;have Xi:C≠a:=by
  rcases ha with ha|ha
  ·rw[ha];exact x1
  ·exact fun z=>x4 _ _ ha z.symm
 refine⟨m,hm.sameBut Dz Xi,fun h' S_=>?_⟩;exact⟨_,H',Xh.turned (t':=FI.toks) (fun b o hb e=>(S_.2 b hb).trans e) x0 x1 x3 x4 x5,q⟩
end
end L2
namespace L2
open PySem PySem.Spec PyProof.Rows
def Rg(z:Str):It:=⟨fun i _=>i<z.cps.size,fun i H x H'=>H'=H/\∃c,z.cps[i]?=some c/\x=.str ⟨#[c]⟩,fun i _=>i=z.cps.size⟩
theorem xn{P:Program}{w:World}{K:PySem.W.Frag}{tg:Expr}{z:Str}{t:Tok}{it:Addr}{n:String}(hn:["enumerate","zip","dict_itemiterator","dict_reverseitemiterator","odict_iterator","itertools.zip_longest","itertools.pairwise"].contains n=false)
  (W:∀A':Around,A'.handled=none->Walks P w A' it [it] [it] z.cps.size (SignAt z) (fun i h=>h.IsStrIter it n z t i))
  (self:∀(A:Around) (i:Nat) (s:Shared) (Q:Value->Shared->Prop) (E:Value->Shared->Prop),s.heap.IsStrIter it n z t i->Q (.ref it) s->wpAny (model P w) A (pyIter (.ref it)) Q E s):
  Turn P w K tg (Rg z) [it] it (fun i h=>h.IsStrIter it n z t i) where
 mem:=by simp
 obj:=fun i h st b hb=>by
  have e:b=it:=by simpa using hb
  subst e;obtain⟨o,e,c,d⟩:=st;exact⟨o,e,fun v q=>by rw[d]at q;cases q⟩
 keep:=fun i h h' st k=>by
  obtain⟨o,e,c,d⟩:=st;exact⟨o,k it (by simp) o e,c,d⟩
 item:=by
  intro X hP hw hK hc i pins s σ H E I hf st hg;subst hP hw hK;obtain⟨f0,f1,f2,f3,f4,f5⟩:=hf it (by simp);refine(W X.A (I.ok.hd hc)).item i s _ _ hg st fun v h' tk hv ud kk=>?_
  obtain⟨c,u,Xj,rfl⟩:=hv;have I1:Inv X pins σ H {s with heap:=h',toks:=tk}:=I.turned (fun b o hb e=>kk b o (by simpa using hb) e) f0 f1 f3 f4 f5;obtain⟨o,e,cl,d⟩:=id ud;exact⟨_,rfl,w8 (s:={s with heap:=h',toks:=tk}) e cl d hn ⟨.str ⟨#[c]⟩,H,I1,⟨u,rfl⟩,⟨rfl,c,Xj,rfl⟩,ud,fun b hb=>(hf b hb).1⟩⟩
 done:=by
  intro X hP hw hK hc i pins s σ H E I hf st hg;subst hP hw hK;obtain⟨f0,f1,f2,f3,f4,f5⟩:=hf it (by simp);have e:i=z.cps.size:=hg;subst e;exact(W X.A (I.ok.hd hc)).done s _ _ st fun h' tk kk=>⟨rfl,I.turned (fun b o hb e=>kk b o (by simpa using hb) e) f0 f1 f3 f4 f5⟩
 self:=self
theorem iA.upd {K:PySem.W.Frag}{H:Hp}{D a:Addr}{xs:List V}{o:HO}(hD:H D=none)(h:iA K H a xs):iA K (upd H D o) a xs:=by
 rcases h with(h|⟨ob,h⟩)|h
 ·exact .inl (.inl (by rw[au (br h hD)];exact h))
 ·exact .inl (.inr ⟨ob,by rw[au (br h hD)];exact h⟩)
 ·exact .inr h
theorem kG.upd {K:PySem.W.Frag}{H:Hp}{D a:Addr}{xs:List V}{o:HO}(hD:H D=none)(h:kG K H a xs):kG K (upd H D o) a xs:=by
 rcases h with(h|⟨ob,h⟩)|h
 ·exact .inl (.inl (by rw[au (br h hD)];exact h))
 ·exact .inl (.inr ⟨ob,by rw[au (br h hD)];exact h⟩)
 ·exact .inr h
section
variable {X:Cx}
theorem Gw:ux X (binaryOp .Mult) (fun x y H Q=>∃z n,x=.str z/\y=.int n/\MulOk z n/\Q (.str (Txt.mul z n)) H):=by
 intro pins s σ H x y v u Q I rx ry h;obtain⟨z,n,rfl,rfl,bV,q⟩:=h;obtain⟨t,rfl⟩:=rx;obtain⟨t',rfl⟩:=ry;exact SB.mul bV fun t' k=>⟨.str _,H,I.tok _,⟨_,rfl⟩,q⟩
theorem DC(hc:X.calm=true):jT X (.builtin "all") (fun xs H Q=>∃(p:Addr) (bs:List Bool),xs=[.ref p]/\iA X.K H p (bs.map V.bl)/\Q (.bl (bs.all id)) H):=by
 intro pins s σ H xs us Q I r h;obtain⟨p,bs,rfl,hl,q⟩:=h;obtain⟨u,rfl,ru⟩:=vals1 r;cases(show u=Value.ref p from ru);obtain⟨aV,rv,pl,hz⟩:=I.list hl;have hb:aV=bs.map Value.bool:=by
  clear hz pl hl q I
  induction bs generalizing aV with
  |nil=>cases rv;rfl
  |cons b r ih=>
   cases rv with
   |cons r1 r2=>
    rw[aC,<-ih _ (by exact r2)];cases(show _=Value.bool b from r1)
    rfl
 subst hb;have dO:p<s.heap.objs.size:=by obtain⟨o,n,e,_⟩:=pl;exact az e
 refine call_all_walk (m5 pl.isList ?_);refine⟨s.heap.objs.size,[s.heap.objs.size,p],[s.heap.objs.size],(bs.map Value.bool).toArray.size,_,_,fun i=>(bs[i]?).getD true,rfl,Walks.list (A:=X.A.in1) (I.ok.hd hc) _ p (bo dO) _,
  ⟨⟨_,aQ _ rfl,rfl,rfl⟩,pl.isList.push _⟩,fun i v s' Q' E' hP hQ=>?_,fun h' tk hk=>?_⟩
 ·have NR:(bs.map Value.bool)[i]?=some v:=by simpa using hP
  rw[aL]at NR;cases eb:bs[i]? with
  |none=>rw[eb]at NR;cases NR
  |some b=>
   rw[eb]at NR;cases NR;simp only[eb,rG]at hQ;exact m4 hQ
 ·have e:((List.range (bs.map Value.bool).toArray.size).all fun i=>(bs[i]?).getD true)=bs.all id:=by
   rw[aS,ak];exact LSm.range_all bs
  rw[e];exact⟨.bl _,H,I.kept (LSm.kept_iter hk),rfl,q⟩
end
end L2
namespace L2
open PySem PySem.Spec PyProof.Rows
theorem aw.tup {K:PySem.W.Frag}{H H':Hp}{a:Addr}{xs:List V}(e:aw H H')(h:kG K H a xs):kG K H' a xs:=by
 rcases h with(h|⟨o,h⟩)|h
 ·exact .inl (.inl (e _ _ h))
 ·exact .inl (.inr ⟨o,e _ _ h⟩)
 ·exact .inr h
theorem aw.upd {H:Hp}{D:Addr}{o:HO}(hD:H D=none):aw H (upd H D o):=fun b u e=>by rw[au (br e hD)];exact e
theorem aw.Gx {H H':Hp}{D:Addr}{o:HO}(s:aw H H')(hD:H D=none):aw H (L2.upd H' D o):=fun b u e=>by rw[au (br e hD)];exact s b u e
structure uI(K:PySem.W.Frag)(mg:Str->Option Value)(x:Str)(st:Stmt)(ps:List Str)(f:Addr)(fd:FuncData):Prop where
 fn:uh K x x st f fd
 bd:Binds K fd ps []
 mg:mg x=some (.ref f)
theorem J7{X:Cx}{x:Str}{st:Stmt}{ps:List Str}{f:Addr}{fd:FuncData}{k:Nat}{sp:Sp}{e:Expr}{es:List Expr}{t:TA}{p pos:Pos}(D:uI X.K X.mg x st ps f fd)(G:hX X.prog X.w X.K X.mg X.base qg k f fd ps sp)(hr:dC k X.A)
  (ha:PA X (e::es) t) (hg:Gl X x:=by rfl) (iS:(x==("__debug__":Str))=false:=by decide) (he:starEach (e::es) X.env=(false,eval e X.env)::starEach es X.env:=by rfl)
  (pq:(backTo pos (starEach es X.env)).any (·.1)=false:=by rfl):PE X (.Call (.Name x p) (e::es) [] pos) (Ib sp [] E0 t):=by
 have q:=vx (p:=p) (pos:=pos) G hr hg D.mg D.fn.kp D.bd .nil NI ha (iS:=iS) (he:=he) (pq:=pq);exact q
end L2
namespace L2
open PySem PySem.Spec PyProof.Rows
section
variable {X:Cx}
def Ta:V->Option Int->Option Int->Hp->VK->Prop:=fun x lo hi H Q=>∃z,x=.str z/\z.length<=sizeLine/\Q (.str (Txt.slice z lo hi)) H
theorem J8:Mz X Ta:=by
 intro pins s σ H x v vl vu lo hi sl Q I rx hs pl pu h;obtain⟨z,rfl,hz,q⟩:=h;obtain⟨t,rfl⟩:=rx;refine⟨"str",_,F.slot_str_getitem.lookup,typeIs_str _ _ _,?_⟩;have go:∀(l u:Option (Int×Tok)),s.heap.IsSlice sl l u none->lo=l.map (·.1)->hi=u.map (·.1)->wpAny (model X.prog X.w) X.A (getItem (.str z t) (.ref sl)) (EP X pins σ Q) X.xe s:=fun l u hh e1 e2=>by
  subst e1 e2;exact wpAny_getItem_str_slice hh rfl (post_val_or_str ⟨aZ (Txt.slice_le z _ _) hz,fun t' k=>⟨.str _,H,I.tok _,⟨_,rfl⟩,q⟩⟩)
 cases pl with
 |none=>
  cases pu with
  |none=>exact go none none hs rfl rfl
  |int j tj=>exact go none (some (j,tj)) hs rfl rfl
 |int i ti=>
  cases pu with
  |none=>exact go (some (i,ti)) none hs rfl rfl
  |int j tj=>exact go (some (i,ti)) (some (j,tj)) hs rfl rfl
end
end L2
namespace L2
open PySem PySem.Spec PyProof.Rows
section
variable {X:Cx}
theorem uJ{h:Heap}{p:Addr}{aV:Array Value}(ht:h.IsTuple p aV):∃dd n sl,h.get? p=some ⟨.type "tuple",dd,.seq aV n,sl⟩:=by
 obtain⟨⟨cls,dd,data,sl⟩,h1,h2,n,h3⟩:=ht;dsimp only at h2 h3;subst h2 h3;exact⟨dd,n,sl,h1⟩
end
end L2
namespace L2
open PySem PySem.Spec PyProof.Rows
section
variable {prog:Program}{w:World}{A:Around}{E:Value->Shared->Prop}{s:Shared}
theorem y4(n:Nat):Builtin.Slice.slicePlaces ((n:Int) - 1) (-1) (-1)=n:=by
 unfold Builtin.Slice.slicePlaces;rw[ae (by decide),show(-(-1):Int)=1 from rfl,Int.ediv_one];split<;>omega
theorem xo{sl:Addr}{u:Tok}{n:Nat}{Q:Int×Int×Nat->Shared->Prop}(hs:s.heap.IsSliceOf sl .none .none (.int (-1) u))(h:Q ((n:Int) - 1,-1,n) s):
  wpAny (model prog w) A (Builtin.Slice.sliceApplied (.ref sl) (pure (n:Int))) Q E s:=by
 obtain⟨os,BI,JN,FK⟩:=hs;unfold Builtin.Slice.sliceApplied Builtin.Slice.sliceFields;refine aa (aa (jf BI FK (x:=.none) rfl ?_));refine aa (jf BI FK (x:=.none) rfl ?_);refine aa (jf BI FK (x:=.int (-1) u) rfl (af ?_));refine aa (slicePart_int ?_);show wpAny _ _ (if((-1:Int)==0)=true then _ else _) _ _ s;rw[ae (by decide)];refine aa (slicePart_none ?_);refine aa (slicePart_none (aa (af ?_)));show wpAny _ _ (pure ((n:Int) - 1,(-1:Int),Builtin.Slice.slicePlaces ((n:Int) - 1) (-1) (-1))) _ _ s;rw[y4];exact af h
theorem Ae{α β:Type}{f:α->Option β}{g:α->β}:∀(l:List α),(∀m∈l,f m=some (g m))->l.filterMap f=l.map g
 |[],_=>rfl
 |x::l,h=>by
  rw[iw,h x aP,aC,Ae l fun m hm=>h m (aO _ hm)]
theorem DD(xs:Array Value):((List.range xs.size).filterMap fun(m:Nat)=>xs[(((xs.size:Int) - 1)+(m:Int)*(-1)).toNat]?)=xs.toList.reverse:=by
 have e:∀m∈List.range xs.size,xs[(((xs.size:Int) - 1)+(m:Int)*(-1)).toNat]?=some ((xs.toList.reverse)[m]?.getD .none):=fun m hm=>by
  have h:=cI.mp hm;have e1:(((xs.size:Int) - 1)+(m:Int)*(-1)).toNat=xs.size - 1 - m:=by omega
  have h2:m<xs.toList.reverse.length:=by rw[qZ,bc];exact h
  rw[e1,ay h2,List.getElem_reverse,rG,bP (by omega)];simp
 rw[Ae _ e];apply i5
 ·simp
 ·intro i h1 h2;rw[gG,List.getElem_range,ay h2]
  rfl
theorem xp{t sl:Addr}{items:Array Value}{u:Tok}{Q:Value->Shared->Prop}(ht:IsTup s.heap t items)(hs:s.heap.IsSliceOf sl .none .none (.int (-1) u))(hsz:items.size<=sizeLine)
  (h:Q (.ref s.heap.objs.size) {s with heap:=s.heap.push {cls:=.type "tuple",data:=.seq items.toList.reverse.toArray}}):wpAny (model prog w) A (getItem (.ref t) (.ref sl)) Q E s:=by
 have bV:sizeOk (.seq items.toList.reverse.toArray):=by
  show items.toList.reverse.toArray.size<=sizeLine;rw[aS,qZ,bc];exact hsz
 obtain⟨os,BI,JN,FK⟩:=id hs;have hT:s.TypeIs (.ref sl) "slice":=⟨os,BI,JN⟩;unfold getItem
 try with_reducible refine cu ?_
 first|refine aa (af ?_)|skip
 refine aa (rV ht.typeIs (by decide) ?_);refine aa (jD (name:=Str.ofString "__getitem__") ht.typeIs fN (dM fN ht.typeIs entry_tuple_getitem ?_ (args_tuple_getitem _ _)));show wpAny _ _ (Builtin.Tuple.tupleItemsOf (.ref t)>>=_) _ _ s;refine aa (tupleItemsOf_ ht ?_);refine aa (fo hT ?_);rw[ab (by decide)];refine aa (xo hs ?_);have JO:¬(((items.size:Int) - 1==0&&(-1:Int)==1&&items.size==items.size)=true):=by
  rw[show((-1:Int)==1)=false from rfl,i_,Bool.false_and];exact cR
 show wpAny _ _ (if((items.size:Int) - 1==0&&(-1:Int)==1&&items.size==items.size)=true then _ else _) _ _ s;rw[ae JO,DD]
 first
  |exact aa (m:=Builtin.Tuple.tupleExact _) (cB (af ⟨_,rfl,af h⟩) bV)
  |exact aa (aa (m:=Builtin.Tuple.tupleExact _) (cB (af (af ⟨_,rfl,af h⟩)) bV))
  |exact aa (m:=Builtin.Tuple.tupleExact _) (cB (aa (af (af ⟨_,rfl,af h⟩))) bV)
  |exact aa (aa (m:=Builtin.Tuple.tupleExact _) (cB (af ⟨_,rfl,af h⟩) bV))
end
theorem J9{X:Cx}{e k:Expr}{te tk:TE}{p2 pos:Pos}(he:PE X e te)(hk:PE X k tk):
  PE X (.Subscript e (.Slice none none (some k) p2) pos) (fun σ H Q=>te σ H fun x H1=>tk σ H1 fun y H2=>∃(a:Addr) (xs:List V),x=.ref a/\y=.int (-1)/\kG X.K H2 a xs/\∀r,H2 r=none->Q (.ref r) (upd H2 r (.tup xs.reverse))):=by
 intro pins s σ H Q I h;refine Subscript_ (dN (he pins s σ H _ I h) fun v s1 ⟨x,H1,I1,r1,q1⟩=>?_);refine wpAny_Slice ?_
 rw[evalPart_none,evalPart_some];refine af (af (dN (hk pins s1 σ H1 _ I1 q1) fun vk s3 ⟨y,H3,I3,r3,q3⟩=>?_));obtain⟨a,xs,rfl,rfl,ha,q⟩:=q3;cases(show v=Value.ref a from r1);obtain⟨u,rfl⟩:=(show∃t,vk=Value.int (-1) t from r3);have I4:Inv X pins σ H3 {s3 with heap:=s3.heap.push {cls:=.type "slice",data:=.fields #[.none,.none,.int (-1) u]}}:=I3.kept (t':=s3.toks) fun b ob q=>aB _ q;generalize Xk:({s3 with heap:=s3.heap.push {cls:=.type "slice",data:=.fields #[.none,.none,.int (-1) u]}}:Shared)=s4 at I4⊢;have VF:s4.heap.IsSliceOf s3.heap.objs.size .none .none (.int (-1) u):=by rw[<-Xk];exact Heap.IsSliceOf.new _ _ _ _
 obtain⟨aV,rv,p4,hz⟩:=I4.tuple ha;refine tail_any (ops:=[.ref a,.ref s3.heap.objs.size]) (T:="tuple") p4.typeIs fN.lookup (xp p4 VF (by rw[aS,<-rv.length];exact hz) ?_) (by with_unfolding_all rfl);refine⟨.ref s4.heap.objs.size,_,I4.laid (t':=s4.toks) (o:=.tup xs.reverse) (fun b ob q=>aB _ q) (aq _) ?_,rfl,q _ (I4.bV.fresh (aq _))⟩;exact⟨by rw[qZ];exact hz,aV.reverse,rv.reverse,iJ.new _ _⟩
end L2
namespace L2
open PySem PySem.Spec PyProof.Rows
inductive Tr where
 |dv|bl (b:Bool)|int (i:Int)|str (z:Str)|ty (n:String)
 |jz (ns:List Int)|tup (ts:List Tr)|lst (ts:List Tr)|lV (aA:List (Key×Tr))|at(i:Nat)
 |aI (aA:List (List Key×Tr))|ob (x:Str) (fs:List (Str×Tr))|DE (x:Str)
def iB:Nat:=1000000
def clsAt(K:PySem.W.Frag)(x:Str):Addr:=match PySem.W.nsIn K mainGlobals x with
 |some (some (.ref C))=>C
 |_=>0
structure Vw where
 H:Hp
 ix:Addr->Option Nat
instance:Coe Vw Hp:=⟨Vw.H⟩
instance:CoeFun Vw (fun _=>Addr->Option HO):=⟨Vw.H⟩
structure cD(W W':Vw):Prop where
 h:aw W.H W'.H
 x:∀a i,W.ix a=some i->W'.ix a=some i
theorem cD.refl (W:Vw):cD W W:=⟨aw.refl _,fun _ _ e=>e⟩
theorem cD.trans {W W1 W2:Vw}(a:cD W W1)(b:cD W1 W2):cD W W2:=⟨a.h.trans b.h,fun c i e=>b.x c i (a.x c i e)⟩
mutual
inductive Rep(K:PySem.W.Frag)(H:Vw):V->Tr->Prop where
 |dv:Rep K H .dv .dv
 |bl (b:Bool):Rep K H (.bl b) (.bl b)
 |int (i:Int):Rep K H (.int i) (.int i)
 |str (z:Str) (h:z.length<=iB):Rep K H (.str z) (.str z)
 |ty (n:String):Rep K H (.ty n) (.ty n)
 |jz {a:Addr} {ns:List Int} (h:iA K H.H a (ns.map V.int)):Rep K H (.ref a) (.jz ns)
 |tup {a:Addr} {vs:List V} {ts:List Tr} (h:H.H a=some (.tup vs)) (r:aJ K H vs ts):Rep K H (.ref a) (.tup ts)
 |lst {a:Addr} {vs:List V} {ts:List Tr} (h:H.H a=some (.lst vs)) (r:aJ K H vs ts):Rep K H (.ref a) (.lst ts)
 |lV {a:Addr} {ax:List (Key×V)} {aA:List (Key×Tr)} (h:Rd H.H a (.dK ax)) (e:ax.map (·.1)=aA.map (·.1)) (r:aJ K H (ax.map (·.2)) (aA.map (·.2))):Rep K H (.ref a) (.lV aA)
 |at{a:Addr} {i:Nat} (h:H.ix a=some i):Rep K H (.ref a) (.at i)
 |aI {a:Addr} {ax:List (List Key×V)} {aA:List (List Key×Tr)} (h:Rd H.H a (.dT ax)) (e:ax.map (·.1)=aA.map (·.1)) (r:aJ K H (ax.map (·.2)) (aA.map (·.2))):Rep K H (.ref a) (.aI aA)
 |ob {a dx:Addr} {x:Str} {wH:List (Str×V)} {fs:List (Str×Tr)} (h:H.H a=some (.ins (clsAt K x) dx wH)) (e:wH.map (·.1)=fs.map (·.1)) (r:aJ K H (wH.map (·.2)) (fs.map (·.2))):Rep K H (.ref a) (.ob x fs)
 |DE {a:Addr} {oe:Obj} {x:Str} (h:H.H a=some (.ext fun h=>h.get? a=some oe)) (c:oe.cls=.ref (clsAt K x)):Rep K H (.ref a) (.DE x)
inductive aJ(K:PySem.W.Frag)(H:Vw):List V->List Tr->Prop where
 |nil:aJ K H [] []
 |cons {v:V} {t:Tr} {vs:List V} {ts:List Tr} (h:Rep K H v t) (r:aJ K H vs ts):aJ K H (v::vs) (t::ts)
end
section
theorem Rd.same {H H':Hp}{a:Addr}{u:HO}(s:aw H H')(h:Rd H a u):Rd H' a u:=by
 rcases h with h|⟨o,h⟩
 ·exact .inl (s _ _ h)
 ·exact .inr ⟨o,s _ _ h⟩
variable {K:PySem.W.Frag}{H H':Vw}
theorem Rep.same (s:cD H H'){v:V}{t:Tr}(h:Rep K H v t):Rep K H' v t:=by
 refine Rep.rec (motive_1:=fun v t _=>Rep K H' v t) (motive_2:=fun vs ts _=>aJ K H' vs ts) ?_ ?_ ?_ ?_ ?_ ?_ ?_ ?_ ?_ ?_ ?_ ?_ ?_ ?_ ?_ h
 ·exact .dv
 ·exact fun b=>.bl b
 ·exact fun i=>.int i
 ·exact fun z h=>.str z h
 ·exact fun n=>.ty n
 ·exact fun h=>.jz (s.h.seq h)
 ·exact fun h _ r=>.tup (s.h _ _ h) r
 ·exact fun h _ r=>.lst (s.h _ _ h) r
 ·exact fun h e _ r=>.lV (Rd.same s.h h) e r
 ·exact fun h=>.at (s.x _ _ h)
 ·exact fun h e _ r=>.aI (Rd.same s.h h) e r
 ·exact fun h e _ r=>.ob (s.h _ _ h) e r
 ·exact fun h c=>.DE (s.h _ _ h) c
 ·exact .nil
 ·exact fun _ _ h r=>.cons h r
theorem aJ.same (s:cD H H'):∀{vs:List V} {ts:List Tr},aJ K H vs ts->aJ K H' vs ts
 |[],_,h=>by cases h;exact .nil
 |_::_,_,h=>by cases h with|cons h r=>exact .cons (h.same s) (aJ.same s r)
theorem aJ.length:∀{vs:List V} {ts:List Tr},aJ K H vs ts->vs.length=ts.length
 |[],_,h=>by cases h;rfl
 |_::_,_,h=>by cases h with|cons h r=>rw[bb,bb,aJ.length r]
theorem aJ.get:∀{vs:List V} {ts:List Tr} {i:Nat} {t:Tr},aJ K H vs ts->ts[i]?=some t->∃v,vs[i]?=some v/\Rep K H v t
 |[],_,i,t,h,e=>by cases h;simp at e
 |_::_,_,0,t,h,e=>by cases h with|cons h r=>simp at e;subst e;exact⟨_,rfl,h⟩
 |_::_,_,i+1,t,h,e=>by
  cases h with
  |cons h r=>
   obtain⟨v,e1,r1⟩:=aJ.get (i:=i) (t:=t) r (by simpa using e);exact⟨v,by simpa using e1,r1⟩
theorem aJ.BM:∀{vs:List V} {ts:List Tr} {i:Nat} {v:V},aJ K H vs ts->vs[i]?=some v->∃t,ts[i]?=some t/\Rep K H v t
 |[],_,i,t,h,e=>by simp at e
 |_::_,_,0,t,h,e=>by cases h with|cons h r=>simp at e;subst e;exact⟨_,rfl,h⟩
 |_::_,_,i+1,t,h,e=>by
  cases h with
  |cons h r=>
   obtain⟨v,e1,r1⟩:=aJ.BM (i:=i) r (by simpa using e);exact⟨v,by simpa using e1,r1⟩
theorem aJ.append:∀{vs ws:List V} {ts us:List Tr},aJ K H vs ts->aJ K H ws us->aJ K H (vs++ws) (ts++us)
 |[],_,_,_,h,q=>by cases h;exact q
 |_::_,_,_,_,h,q=>by cases h with|cons h r=>exact .cons h (aJ.append r q)
theorem aJ.take:∀{vs:List V} {ts:List Tr} (n:Nat),aJ K H vs ts->aJ K H (vs.take n) (ts.take n)
 |_,_,0,_=>by rw[List.take_zero,List.take_zero];exact .nil
 |[],_,_+1,h=>by cases h;exact .nil
 |_::_,_,n+1,h=>by cases h with|cons h r=>exact .cons h (aJ.take n r)
theorem aJ.drop:∀{vs:List V} {ts:List Tr} (n:Nat),aJ K H vs ts->aJ K H (vs.drop n) (ts.drop n)
 |_,_,0,h=>h
 |[],_,_+1,h=>by cases h;exact .nil
 |_::_,_,n+1,h=>by cases h with|cons h r=>exact aJ.drop n r
theorem aJ.reverse:∀{vs:List V} {ts:List Tr},aJ K H vs ts->aJ K H vs.reverse ts.reverse
 |[],_,h=>by cases h;exact .nil
 |_::_,_,h=>by
  cases h with
  |cons h r=>
   rw[mV,mV];exact(aJ.reverse r).append (.cons h .nil)
theorem aJ.rep {vs:List V}{ts:List Tr}(h:aJ K H vs ts):∀n:Nat,aJ K H (List.replicate n vs).flatten (List.replicate n ts).flatten
 |0=>.nil
 |n+1=>by
  rw[jE,jE,iY,iY];exact h.append (aJ.rep h n)
end
structure bN where
 hd:Addr->Bool
 ix:Addr->Option Nat
instance:CoeFun bN (fun _=>Addr->Bool):=⟨bN.hd⟩
def aN(B:bN)(H:Hp):Vw:=⟨fun b=>if B.hd b=true then none else H b,B.ix⟩
def HB(B:bN)(H:Hp):Prop:=∀b,B.hd b=true->∃o,H b=some o/\∀vs,o≠ .tup vs
section
variable {B B':bN}{H H':Hp}
theorem cV{b:Addr}(h:B.hd b=false):(aN B H).H b=H b:=by show(if B.hd b=true then none else H b)=_;rw[h,ae cR]
theorem aK:aw (aN B H).H H:=fun b o (e:(if B.hd b=true then none else H b)=some o)=>by
 split at e
 ·cases e
 ·exact e
theorem aT(s:aw H H'):cD (aN B H) (aN B H'):=⟨fun b o (e:(if B.hd b=true then none else H b)=some o)=>by
 show(if B.hd b=true then none else H' b)=some o;split at e
 ·cases e
 ·rw[ae (by assumption)];exact s b o e,fun _ _ e=>e⟩
def raw(B:bN)(H:Hp):Vw:=⟨H,B.ix⟩
theorem vH:cD (aN B H) (raw B H):=⟨aK,fun _ _ e=>e⟩
theorem HB.same (h:HB B H)(s:aw H H'):HB B H':=fun b e=>by obtain⟨o,q,n⟩:=h b e;exact⟨o,s b o q,n⟩
theorem HB.free {p:Addr}(h:HB B H)(hp:H p=none):B.hd p=false:=by
 cases e:B.hd p with
 |false=>rfl
 |true=>obtain⟨o,q,_⟩:=h p e;rw[hp]at q;cases q
theorem HB.tup {p:Addr}{vs:List V}(h:HB B H)(hp:H p=some (.tup vs)):(aN B H).H p=some (.tup vs):=by
 cases e:B.hd p with
 |false=>rw[cV e];exact hp
 |true=>obtain⟨o,q,n⟩:=h p e;rw[hp]at q;cases q;exact absurd rfl (n _)
theorem HB.new {p:Addr}{o:HO}(h:HB B H)(hp:H p=none):(aN B (upd H p o)).H p=some o:=by rw[cV (h.free hp)];exact aH
structure pB(B B':bN):Prop where
 hd:∀b,B.hd b=true->B'.hd b=true
 ix:∀b i,B'.ix b=some i->B.ix b=some i
theorem sx(h:pB B B'):cD (aN B' H) (aN B H):=⟨fun b o (e:(if B'.hd b=true then none else H b)=some o)=>by
 show(if B.hd b=true then none else H b)=some o;split at e
 ·cases e
 ·rename_i n;rw[ae fun z=>n (h.hd b z)];exact e,h.ix⟩
end
inductive Rs(α:Type) where
 |bad|ok (a:α)|exc (c:Tr)
def Rs.bind {α β:Type}(r:Rs α)(f:α->Rs β):Rs β:=match r with
 |.ok a=>f a
 |.exc c=>.exc c
 |.bad=>.bad
def XA(X:Cx)(c:Tr)(H:Hp):Prop:=False
def mD(xc:Tr->Prop){α:Type}(r:Rs α)(k:α->Prop):Prop:=match r with
 |.ok a=>k a
 |.exc c=>xc c
 |.bad=>False
def xP(X:Cx)(H:Hp):Tr->Prop:=fun c=>∀H',aw H H'->XA X c H'
def Fi(X:Cx)(H:Hp){α:Type}(r:Rs α)(k:α->Prop):Prop:=mD (xP X H) r k
section
variable {X:Cx}{H H':Hp}{α β:Type}{r:Rs α}{k k':α->Prop}{xc NS:Tr->Prop}
theorem mD.mono (h:mD xc r k)(w:∀a,k a->k' a):mD xc r k':=by
 cases r with
 |ok a=>exact w a h
 |_=>exact h
theorem mD.imp (h:mD xc r k)(w:∀c,xc c->NS c):mD NS r k:=by
 cases r with
 |ok a=>exact h
 |exc c=>exact w c h
 |bad=>exact h
theorem mD.bind {f:α->Rs β}{k:β->Prop}(h:mD xc (r.bind f) k):mD xc r fun a=>mD xc (f a) k:=by
 cases r with
 |_=>exact h
theorem Fi.mono (h:Fi X H r k)(w:∀a,k a->k' a):Fi X H r k':=mD.mono h w
theorem Fi.same (h:Fi X H r k)(s:aw H H'):Fi X H' r k:=mD.imp h fun _ q H2 s2=>q H2 (s.trans s2)
theorem Fi.bind {f:α->Rs β}{k:β->Prop}(h:Fi X H (r.bind f) k):Fi X H r fun a=>Fi X H (f a) k:=mD.bind h
end
inductive Cell where
 |no|sh (t:Tr)|ow (ts:List Tr)
abbrev av:=List Cell
structure a_(K:PySem.W.Frag)(B:bN)(H:Hp)(σ:St)(ρ:av):Prop where
 len:ρ.length=σ.length
 sh:∀(i:Nat) (t:Tr),ρ[i]?=some (.sh t)->∃v,σ[i]?=some (some v)/\Rep K (aN B H) v t
 ow:∀(i:Nat) (ts:List Tr),ρ[i]?=some (.ow ts)->∃D ys,σ[i]?=some (some (.ref D))/\B D=true/\H D=some (.lst ys)/\aJ K (aN B H) ys ts
 ap:∀(i j:Nat) (ts us:List Tr) (D:Addr),i≠j->ρ[i]?=some (.ow ts)->ρ[j]?=some (.ow us)->σ[i]?=some (some (.ref D))->σ[j]? ≠some (some (.ref D))
section
variable {K:PySem.W.Frag}{B B':bN}{H H':Hp}{σ:St}{ρ:av}
theorem a_.same (h:a_ K B H σ ρ)(s:aw H H'):a_ K B H' σ ρ:=
 ⟨h.len,fun i t e=>by obtain⟨v,e1,r⟩:=h.sh i t e;exact⟨v,e1,r.same (aT s)⟩,
   fun i ts e=>by obtain⟨D,ys,e1,e2,e3,r⟩:=h.ow i ts e;exact⟨D,ys,e1,e2,s _ _ e3,r.same (aT s)⟩,h.ap⟩
theorem gS{α:Type}{l:List α}{i j:Nat}{x y:α}(e:(l.set i x)[j]?=some y):(i=j/\i<l.length/\y=x)\/(i≠j/\l[j]?=some y):=by
 rw[i0]at e;by_cases t8:i=j
 ·rw[ab t8]at e;by_cases hl:i<l.length
  ·rw[ab hl]at e;exact .inl ⟨t8,hl,(Option.some.inj e).symm⟩
  ·rw[ae hl]at e;cases e
 ·rw[ae t8]at e;exact .inr ⟨t8,e⟩
theorem a_.set {v:V}{t:Tr}(h:a_ K B H σ ρ)(i:Nat)(r:Rep K (aN B H) v t):a_ K B H (σ.set i (some v)) (ρ.set i (.sh t)):=by
 refine⟨by rw[i9,i9];exact h.len,fun j u e=>?_,fun j us e=>?_,fun j k us ws D Xl e1 e2 e3=>?_⟩
 ·rcases gS e with⟨rfl,hl,q⟩|⟨t8,q⟩
  ·cases q;exact⟨v,by rw[i0,ab rfl,ab (by rw[<-h.len];exact hl)],r⟩
  ·obtain⟨w,e1,r1⟩:=h.sh j u q;exact⟨w,by rw[i0,ae t8];exact e1,r1⟩
 ·rcases gS e with⟨rfl,hl,q⟩|⟨t8,q⟩
  ·cases q
  ·obtain⟨D,ys,e1,r1⟩:=h.ow j us q;exact⟨D,ys,by rw[i0,ae t8];exact e1,r1⟩
 ·rcases gS e1 with⟨rfl,hl,q⟩|⟨t8,q⟩
  ·cases q
  ·rcases gS e2 with⟨rfl,hl,q2⟩|⟨NU,q2⟩
   ·cases q2
   ·rw[i0,ae t8]at e3;rw[i0,ae NU];exact h.ap j k us ws D Xl q q2 e3
end
def startT(n:Nat)(ts:List Tr):av:=ts.map Cell.sh++List.replicate (n - ts.length) .no
theorem lG{n i:Nat}{ts:List Tr}{c:Cell}(e:(startT n ts)[i]?=some c):c=.no\/∃t,ts[i]?=some t/\c=.sh t:=by
 unfold startT at e;by_cases hi:i<ts.length
 ·rw[b8 (by rw[ak];exact hi),aL]at e;cases q:ts[i]? with
  |none=>rw[q]at e;cases e
  |some u=>rw[q]at e;exact .inr ⟨u,rfl,(Option.some.inj e).symm⟩
 ·rw[dH (by rw[ak];omega),mL]at e;split at e
  ·exact .inl (Option.some.inj e).symm
  ·cases e
theorem a_.start {K:PySem.W.Frag}{B:bN}{H:Hp}{N:List Str}{vs:List V}{ts:List Tr}(h:aJ K (aN B H) vs ts):a_ K B H (start N vs) (startT N.length ts):=by
 have hl:=h.length;refine⟨by unfold L2.start startT;simp only[aY,ak,mP];omega,fun i t e=>?_,fun i us e=>?_,fun i j us ws D _ e _ _=>?_⟩
 ·rcases lG e with q|⟨u,q,q2⟩
  ·cases q
  ·cases q2;obtain⟨v,e1,r⟩:=h.get q;have hi:i<vs.length:=(cb.mp e1).1;refine⟨v,?_,r⟩;unfold L2.start;rw[b8 (by rw[ak];exact hi),aL,e1]
   rfl
 ·rcases lG e with q|⟨u,q,q2⟩
  ·cases q
  ·cases q2
 ·rcases lG e with q|⟨u,q,q2⟩
  ·cases q
  ·cases q2
def isStar:Expr->Bool
 |.Starred .. =>true
 |_=>false
theorem bC{e:Expr}(es:List Expr)(env:Env)(h:isStar e=false):starEach (e::es) env=(false,eval e env)::starEach es env:=by
 cases e<;>first|rfl|cases h
def bx(es:List Expr):Bool:=es.all fun e=>!isStar e
theorem cx{pos:Pos}{env:Env}:∀{es:List Expr},bx es=true->(backTo pos (starEach es env)).any (·.1)=false
 |[],_=>by rw[starEach];rfl
 |e::es,h=>by
  unfold bx at h;rw[d_,aE]at h;have h1:isStar e=false:=by simpa using h.1
  rw[bC es env h1];exact cx (es:=es) h.2
theorem sy{pos:Pos}{env:Env}:∀{es:List Expr},bx es=true->(backTo pos (starEach es env)).all (fun x=>!x.1)=true
 |[],_=>by rw[starEach];rfl
 |e::es,h=>by
  unfold bx at h;rw[d_,aE]at h;have h1:isStar e=false:=by simpa using h.1
  rw[bC es env h1];exact sy (es:=es) h.2
theorem aU{e:Expr}{es:List Expr}(h:bx (e::es)=true):isStar e=false/\bx es=true:=by
 unfold bx at h;rw[d_,aE]at h;exact⟨by simpa using h.1,h.2⟩
def mm:Expr->Bool
 |.ListComp .. =>true
 |.SetComp .. =>true
 |.DictComp .. =>true
 |_=>false
theorem sA{e:Expr}{t:Option Expr}{n:Nat}{env:Env}(h:mm e=false):swapsWith e t n env=pure false:=by
 cases e<;>first|rfl|cases h
def jj:Expr->Bool
 |.UnaryOp .. =>false
 |.BoolOp .. =>false
 |.IfExp .. =>false
 |.Compare .. =>false
 |_=>true
theorem sC{e:Expr}{env:Env}(h:jj e=true):∀whole,isTrue e env whole=(do let v<-whole;standAt e.pos;holding [v] (truthy v)):=by
 intro whole;cases e<;>first|rfl|cases h
def isSet:Expr->Bool
 |.Set .. =>true
 |_=>false
theorem cG{e:Expr}{env:Env}(h:isSet e=false):∀x,foldedSetIterable e env x=pure x:=by
 intro x;cases e<;>first|rfl|cases h
def isCall:Expr->Bool
 |.Call .. =>true
 |_=>false
theorem Af{o:Expr}{x:Str}{env:Env}{w:Sem Value}(h:isCall o=false):attributeBase o x env w=w:=by
 cases o<;>first|rfl|cases h
inductive tP(X:Cx)(F:av->Rs Tr)(σ:St)(H:Hp)(Q:VK):Prop
 |mk (B:bN) (ρ:av):HB B H->a_ X.K B H σ ρ->(Fi X H (F ρ) fun t=>∀v H',aw H H'->Rep X.K (aN B H') v t->Q v H')->tP X F σ H Q
inductive tQ(X:Cx)(F:av->Rs Bool)(σ:St)(H:Hp)(Q:Bool->Hp->Prop):Prop
 |mk (B:bN) (ρ:av):HB B H->a_ X.K B H σ ρ->(Fi X H (F ρ) fun b=>∀H',aw H H'->Q b H')->tQ X F σ H Q
inductive BN(X:Cx)(F:av->Rs (List Tr))(σ:St)(H:Hp)(Q:List V->Hp->Prop):Prop
 |mk (B:bN) (ρ:av):HB B H->a_ X.K B H σ ρ->(Fi X H (F ρ) fun ts=>∀vs H',aw H H'->aJ X.K (aN B H') vs ts->Q vs H')->BN X F σ H Q
inductive Out where
 |nx (ρ:av)|ret (t:Tr)|bk (ρ:av)|ct (ρ:av)
structure dg(C B0:bN)(H0:Hp)(B:bN)(H:Hp):Prop where
 kp:∀b o,C b=true->H0 b=some o->H b=some o
 eR:cD (aN B0 H0) (aN B H)
 sub:pB C B
 hb:HB B H
section
variable {C B0 B B1 B2:bN}{H0 H H' H1 H2:Hp}
theorem dg.go (h:dg C B0 H0 B H)(s:aw H H'):dg C B0 H0 B H':=⟨fun b o c e=>s _ _ (h.kp b o c e),h.eR.trans (aT s),h.sub,h.hb.same s⟩
theorem pB.refl:pB B B:=⟨fun _ e=>e,fun _ _ e=>e⟩
theorem dg.refl (h:HB B H)(c:pB C B):dg C B H B H:=⟨fun _ _ _ e=>e,cD.refl _,c,h⟩
theorem dg.trans (h:dg C B0 H0 B1 H1)(q:dg C B1 H1 B2 H2):dg C B0 H0 B2 H2:=⟨fun b o c e=>q.kp b o c (h.kp b o c e),h.eR.trans q.eR,q.sub,q.hb⟩
theorem dg.same (h:dg C C H0 B H):aw H0 H:=fun b o e=>by
 cases q:C b with
 |true=>exact h.kp b o q e
 |false=>exact aK _ _ (h.eR.h b o (by rw[cV q];exact e))
end
def J_(X:Cx)(D:Ends)(C B0:bN)(H0:Hp):Out->Prop
 |.nx ρ=>∀bM B' H',dg C B0 H0 B' H'->a_ X.K B' H' bM ρ->D.nx bM H'
 |.ret t=>∀v B' H',dg C B0 H0 B' H'->Rep X.K (aN C H') v t->D.rt v H'
 |.bk ρ=>∀bM B' H',dg C B0 H0 B' H'->a_ X.K B' H' bM ρ->D.bk bM H'
 |.ct ρ=>∀bM B' H',dg C B0 H0 B' H'->a_ X.K B' H' bM ρ->D.ct bM H'
def xS(X:Cx)(C B0:bN)(H0:Hp):Tr->Prop:=fun c=>∀B' H',dg C B0 H0 B' H'->XA X c H'
inductive tS(X:Cx)(G:av->Rs Out)(D:Ends)(σ:St)(H:Hp):Prop
 |mk (C:bN) (B0:bN) (H0:Hp) (B:bN) (ρ:av):dg C B0 H0 B H->a_ X.K B H σ ρ->mD (xS X C B0 H0) (G ρ) (J_ X D C B0 H0)->tS X G D σ H
theorem PE.weak {X:Cx}{e:Expr}{t t':TE}(h:PE X e t)(w:∀σ H Q,t' σ H Q->t σ H Q):PE X e t':=fun pins s σ H Q I q=>h pins s σ H Q I (w σ H Q q)
theorem PT.weak {X:Cx}{e:Expr}{t t':TT}(h:PT X e t)(w:∀σ H Q,t' σ H Q->t σ H Q):PT X e t':=fun pins s σ H Q I q=>h pins s σ H Q I (w σ H Q q)
theorem PW.weak {X:Cx}{e:Expr}{t t':TT}(h:PW X e t)(w:∀σ H Q,t' σ H Q->t σ H Q):PW X e t':=fun wh pins s σ H Q I q=>h wh pins s σ H Q I (w σ H Q q)
theorem PA.weak {X:Cx}{es:List Expr}{t t':TA}(h:PA X es t)(w:∀σ H Q,t' σ H Q->t σ H Q):PA X es t':=fun pos pins s σ H Q I q=>h pos pins s σ H Q I (w σ H Q q)
theorem PS.weak {X:Cx}{st:Stmt}{t t':TS}(h:PS X st t)(w:∀D σ H,t' D σ H->t D σ H):PS X st t':=fun pins s σ H D I q=>h pins s σ H D I (w D σ H q)
theorem kF.weak {X:Cx}{st:List Stmt}{t t':TS}(h:kF X st t)(w:∀D σ H,t' D σ H->t D σ H):kF X st t':=fun pins s σ H D I q=>h pins s σ H D I (w D σ H q)
def ar(ρ:av)(i:Nat):Rs Tr:=match ρ[i]? with
 |some (.sh t)=>.ok t
 |_=>.bad
theorem xq{X:Cx}{B:bN}{σ:St}{H:Hp}{ρ:av}{i:Nat}{k:Tr->Prop}(r:a_ X.K B H σ ρ)(h:Fi X H (ar ρ i) k):∃v t,σ[i]?=some (some v)/\Rep X.K (aN B H) v t/\k t:=by
 unfold ar at h;split at h
 ·rename_i t e;obtain⟨v,e1,r1⟩:=r.sh i t e;exact⟨v,t,e1,r1,h⟩
 ·exact h.elim
section
variable {X:Cx}{a b c:Expr}{pos:Pos}{F G E:av->Rs Tr}
theorem NW(i:Nat){x:Str}{pos:Pos}(hN:X.N[i]?=some x:=by rfl) (hv:Jn X.env.scope x:=by first|exact Or.inl rfl|exact Or.inr (Or.inl rfl)|exact Or.inr (Or.inr rfl)) (hd:(x==("__debug__":Str))=false:=by decide)
  (pQ:(x==("__classdict__":Str))=false:=by decide):PE X (.Name x pos) (tP X fun ρ=>ar ρ i):=
 (C5 hN hv hd pQ).weak fun σ H Q ⟨B,ρ,hb,r,q⟩=>by
  obtain⟨v,t,e,r1,k⟩:=xq r q;exact⟨v,e,k v H (aw.refl H) r1⟩
theorem Ip{v:V}{t:Tr}{e:Expr}(h:PE X e (tC v))(r:∀H,Rep X.K H v t):PE X e (tP X fun _=>.ok t):=
 h.weak fun σ H Q ⟨B,ρ,_,_,q⟩=>q v H (aw.refl H) (r _)
theorem NX{i:Int}{j pos}:PE X (.Constant (.int i) j pos) (tP X fun _=>.ok (.int i)):=Ip Jp fun H=>.int i
theorem Tb{b:Bool}{j pos}:PE X (.Constant (.bool b) j pos) (tP X fun _=>.ok (.bl b)):=Ip M6 fun H=>.bl b
def cM(h:Tr->Tr->Rs Tr)(a b:Rs Tr):Rs Tr:=a.bind fun x=>b.bind fun y=>h x y
inductive rT(X:Cx)(h:Tr->Tr->Rs Tr)(x:V)(y:V)(H:Hp)(Q:VK):Prop
 |mk (B:bN) (tx:Tr) (ty:Tr):HB B H->Rep X.K (aN B H) x tx->Rep X.K (aN B H) y ty->(Fi X H (h tx ty) fun t=>∀v H',aw H H'->Rep X.K (aN B H') v t->Q v H')->rT X h x y H Q
abbrev wI(X:Cx)(f:Value->Value->Sem Value)(h:Tr->Tr->Rs Tr):Prop:=ux X f (rT X h)
theorem kO{h:Tr->Tr->Rs Tr}{σ:St}{H:Hp}{Q:VK}(q:tP X (fun ρ=>cM h (F ρ) (G ρ)) σ H Q):Mv (rT X h) (tP X F) (tP X G) σ H Q:=by
 obtain⟨B,ρ,hb,r,q⟩:=q;refine⟨B,ρ,hb,r,q.bind.mono fun x qx v H1 s1 r1=>⟨B,ρ,hb.same s1,r.same s1,(qx.bind.same s1).mono fun y qy u H2 s2 r2=>⟨B,x,y,(hb.same s1).same s2,r1.same (aT s2),r2,?_⟩⟩⟩;exact(qy.same (s1.trans s2)).mono fun t qt w H3 s3 r3=>qt w H3 ((s1.trans s2).trans s3) r3
theorem NY{op:Operator}{h:Tr->Tr->Rs Tr}(ho:wI X (binaryOp op) h)(ha:PE X a (tP X F))(hb:PE X b (tP X G)):PE X (.BinOp a op b pos) (tP X fun ρ=>cM h (F ρ) (G ρ)):=
 (Nc ho ha hb).weak fun _ _ _ q=>kO q
theorem NZ{op:CmpOp}{h:Tr->Tr->Rs Tr}(ho:wI X (compareOp op) h)(ha:PE X a (tP X F))(hb:PE X b (tP X G))(hm:behindInMarks op b=false:=by first|exact oG _|rfl|with_unfolding_all rfl):PE X (.Compare a [op] [b] pos) (tP X fun ρ=>cM h (F ρ) (G ρ)):=
 (F7 ho ha hb hm).weak fun _ _ _ q=>kO q
def iL(r:Rs Tr):Rs Bool:=r.bind fun t=>match t with
 |.bl b=>.ok b
 |_=>.bad
theorem Rep.DF {K:PySem.W.Frag}{H:Vw}{v:V}{b:Bool}(h:Rep K H v (.bl b)):v=.bl b:=by cases h;rfl
theorem h8{K:PySem.W.Frag}{W:Vw}{xs:List V}{t:Tr}(r:aJ K W xs [t]):∃x,xs=[x]/\Rep K W x t:=by
 cases r with
 |cons a r=>cases r;exact⟨_,rfl,a⟩
theorem Ag{K:PySem.W.Frag}{W:Vw}{xs:List V}{t u:Tr}(r:aJ K W xs [t,u]):∃x y,xs=[x,y]/\Rep K W x t/\Rep K W y u:=by
 cases r with
 |cons a r=>
  obtain⟨y,rfl,b⟩:=h8 r;exact⟨_,_,rfl,a,b⟩
theorem Rep.Ah {K:PySem.W.Frag}{H:Vw}{v:V}{ns:List Int}(h:Rep K H v (.jz ns)):∃a,v=.ref a/\iA K H.H a (ns.map V.int):=by cases h;exact⟨_,rfl,by assumption⟩
theorem Rep.Gy {K:PySem.W.Frag}{H:Vw}{v:V}{aA:List (Key×Tr)}(h:Rep K H v (.lV aA)):∃a ax,v=.ref a/\Rd H.H a (.dK ax)/\ax.map (·.1)=aA.map (·.1)/\aJ K H (ax.map (·.2)) (aA.map (·.2)):=by cases h;exact⟨_,_,rfl,by assumption,by assumption,by assumption⟩
theorem Rep.sD {K:PySem.W.Frag}{H:Vw}{v:V}{i:Nat}(h:Rep K H v (.at i)):∃a,v=.ref a/\H.ix a=some i:=by cases h;exact⟨_,rfl,by assumption⟩
theorem Rep.int_inv {K:PySem.W.Frag}{H:Vw}{v:V}{i:Int}(h:Rep K H v (.int i)):v=.int i:=by cases h;rfl
theorem Rep.str_inv {K:PySem.W.Frag}{H:Vw}{v:V}{z:Str}(h:Rep K H v (.str z)):v=.str z/\z.length<=iB:=by cases h;exact⟨rfl,by assumption⟩
theorem Rep.eC {K:PySem.W.Frag}{H:Vw}{v:V}{ts:List Tr}(h:Rep K H v (.tup ts)):∃a vs,v=.ref a/\kG K H.H a vs/\aJ K H vs ts:=by cases h;exact⟨_,_,rfl,.inl (.inl (by assumption)),by assumption⟩
theorem Rep.fJ {K:PySem.W.Frag}{H:Vw}{v:V}{ts:List Tr}(h:Rep K H v (.tup ts)):∃a vs,v=.ref a/\H.H a=some (.tup vs)/\aJ K H vs ts:=by cases h;exact⟨_,_,rfl,by assumption,by assumption⟩
theorem Rh{K:PySem.W.Frag}{H:Hp}{a:Addr}{vs:List V}(h:H a=some (.tup vs)):kG K H a vs:=.inl (.inl h)
theorem Rep.lst_inv {K:PySem.W.Frag}{H:Vw}{v:V}{ts:List Tr}(h:Rep K H v (.lst ts)):∃a vs,v=.ref a/\H.H a=some (.lst vs)/\aJ K H vs ts:=by cases h;exact⟨_,_,rfl,by assumption,by assumption⟩
theorem Gz{H:Hp}{r:Rs Tr}{k:Bool->Prop}(h:Fi X H (iL r) k):Fi X H r fun t=>∃b,t=.bl b/\k b:=by
 refine h.bind.mono fun t q=>?_
 cases t with
 |bl b=>exact⟨b,rfl,q⟩
 |_=>exact q.elim
theorem N0{op:CmpOp}{h:Tr->Tr->Rs Tr}(ho:wI X (compareOp op) h)(ha:PE X a (tP X F))(hb:PE X b (tP X G))(hm:behindInMarks op b=false:=by first|exact oG _|rfl|with_unfolding_all rfl):PT X (.Compare a [op] [b] pos) (tQ X fun ρ=>iL (cM h (F ρ) (G ρ))):=
 (z5 ho ha hb hm).weak fun σ H Q ⟨B,ρ,hb,r,q⟩=>by
  refine kO (Q:=fun x H'=>∃k,x=.bl k/\Q k H') ⟨B,ρ,hb,r,(Gz q).mono fun t qt v H' s' r'=>?_⟩;obtain⟨b,rfl,k⟩:=qt;exact⟨b,r'.DF,k H' s'⟩
def pT:Tr->Rs Bool
 |.dv=>.ok false
 |.bl b=>.ok b
 |.int i=>.ok (i !=0)
 |.str z=>.ok ((z.length:Int) !=0)
 |.tup ts=>.ok (!ts.isEmpty)
 |.lst ts=>.ok (!ts.isEmpty)
 |.lV aA=>.ok (!aA.isEmpty)
 |_=>.bad
theorem aJ.isEmpty {K:PySem.W.Frag}{H:Vw}{vs:List V}{ts:List Tr}(h:aJ K H vs ts):vs.isEmpty=ts.isEmpty:=by cases h<;>rfl
theorem nE:iB<=sizeLine:=by rw[bT];decide
theorem GA{K:PySem.W.Frag}{H:Vw}{v:V}{t:Tr}{b:Bool}(r:Rep K H v t)(e:pT t=.ok b):F8 K v H b:=by
 cases r with
 |dv=>cases e;rfl
 |bl c=>cases e;rfl
 |int i=>cases e;rfl
 |str z h=>cases e;exact⟨aZ h nE,rfl⟩
 |ty n=>cases e
 |tup h r=>cases e;exact .inr (.inl ⟨_,.inl (.inl h),by rw[r.isEmpty]⟩)
 |lst h r=>cases e;exact .inl ⟨_,.of h,by rw[r.isEmpty]⟩
 |jz h=>cases e
 |«at» h=>cases e
 |aI h e1 rr=>cases e
 |ob h e1 rr=>cases e
 |DE h c=>cases e
 |lV h e1 r=>
  cases e;refine .inr (.inr ⟨_,h,?_⟩);rename_i ax aA;cases ax<;>cases aA<;>first|rfl|cases e1
theorem xr{H:Vw}{v:V}{t:Tr}{k:Bool->Prop}(r:Rep X.K H v t)(h:Fi X H (pT t) k):∃b,F8 X.K v H b/\k b:=by
 cases e:pT t with
 |ok b=>rw[e]at h;exact⟨b,GA r e,h⟩
 |exc c=>cases t<;>cases e
 |bad=>rw[e]at h;exact h.elim
theorem N1(ha:PE X a (tP X F))(he:jj a=true:=by rfl):PT X a (tQ X fun ρ=>(F ρ).bind pT):=
 (w_ ha (sC he)).weak fun σ H Q ⟨B,ρ,hb,r,q⟩=>⟨B,ρ,hb,r,q.bind.mono fun t qt v H' s' r'=>by
  obtain⟨b,h1,h2⟩:=xr (r'.same vH) (qt.same s');exact⟨b,h1,h2 H' s'⟩⟩
variable {A B:av->Rs Bool}{rest:List Expr}
variable {es:List Expr}{L:av->Rs (List Tr)}
def aF(a:Rs Tr)(l:Rs (List Tr)):Rs (List Tr):=a.bind fun x=>l.bind fun xs=>.ok (x::xs)
theorem Iq:PA X [] (BN X fun _=>.ok []):=oJ.weak fun σ H Q ⟨B,ρ,hb,r,q⟩=>q [] H (aw.refl H) .nil
theorem DG(ha:PE X a (tP X F))(hr:PA X es (BN X L))(hs:isStar a=false:=by rfl):PA X (a::es) (BN X fun ρ=>aF (F ρ) (L ρ)):=
 (lE ha hr (bC _ _ hs)).weak fun σ H Q ⟨B,ρ,hb,r,q⟩=>⟨B,ρ,hb,r,q.bind.mono fun x qx v H1 s1 r1=>⟨B,ρ,hb.same s1,r.same s1,(qx.bind.same s1).mono fun xs qs vs H2 s2 r2=>qs _ H2 (s1.trans s2) (.cons (r1.same (aT s2)) r2)⟩⟩
def ik:Nat:=16777216
theorem h9:ik=sizeLine:=bT.symm
def jk(l:Rs (List Tr)):Rs Tr:=l.bind fun ts=>if ts.length<=ik then .ok (.tup ts)else .bad
def DH(l:Rs (List Tr)):Rs Tr:=l.bind fun ts=>if ts.length<=ik then .ok (.lst ts)else .bad
theorem N2{x1}(h:PA X es (BN X L)):PE X (.Tuple es x1 pos) (tP X fun ρ=>jk (L ρ)):=
 (Dh h).weak fun σ H Q ⟨B,ρ,hb,r,q⟩=>⟨B,ρ,hb,r,q.bind.mono fun ts qt vs H1 s1 r1=>by
  by_cases hz:ts.length<=ik
  ·rw[ab hz]at qt;refine⟨by rw[r1.length,<-h9];exact hz,fun p hp=>qt (.ref p) _ (s1.Gx (s1.free hp)) (.tup ((hb.same s1).new hp) (r1.same (aT (aw.upd hp))))⟩
  ·rw[ae hz]at qt;exact qt.elim⟩
def ba(h:List Tr->Rs Tr)(l:Rs (List Tr)):Rs Tr:=l.bind h
inductive rC(X:Cx)(h:List Tr->Rs Tr)(xs:List V)(H:Hp)(Q:VK):Prop
 |mk (B:bN) (ts:List Tr):HB B H->aJ X.K (aN B H) xs ts->(Fi X H (h ts) fun t=>∀v H',aw H H'->Rep X.K (aN B H') v t->Q v H')->rC X h xs H Q
abbrev jl(X:Cx)(f:Value)(h:List Tr->Rs Tr):Prop:=jT X f (rC X h)
theorem uK{h:List Tr->Rs Tr}{σ:St}{H:Hp}{Q:VK}(q:tP X (fun ρ=>ba h (L ρ)) σ H Q):Q5 (rC X h) (BN X L) σ H Q:=by
 obtain⟨B,ρ,hb,r,q⟩:=q;exact⟨B,ρ,hb,r,q.bind.mono fun ts qt vs H1 s1 r1=>⟨B,ts,hb.same s1,r1,(qt.same s1).mono fun t qt v H2 s2 r2=>qt v H2 (s1.trans s2) r2⟩⟩
theorem GB{id:String}{x:Str}{p:Pos}{e:Expr}{h:List Tr->Rs Tr}(hc:jl X (.builtin id) h)(hm:X.mg x=none)(ha:PA X (e::es) (BN X L))(hv:bootBuiltins x=some (.builtin id):=by rfl) (hg:Gl X x:=by rfl) (hn:x≠"__name__":=by decide) (iS:(x==("__debug__":Str))=false:=by decide)
  (eJ:bx (e::es)=true:=by rfl):PE X (.Call (.Name x p) (e::es) [] pos) (tP X fun ρ=>ba h (L ρ)):=
 (xb hc hg hm hv ha hn iS (bC _ _ (aU eJ).1) (cx (aU eJ).2)).weak fun _ _ _ q=>uK q
theorem DI{T:String}{x:Str}{p:Pos}{e:Expr}{h:List Tr->Rs Tr}(hc:jl X (.type T) h)(hm:X.mg x=none)(ha:PA X (e::es) (BN X L))(hv:bootBuiltins x=some (.type T):=by rfl) (hg:Gl X x:=by rfl) (hn:x≠"__name__":=by decide) (iS:(x==("__debug__":Str))=false:=by decide)
  (eJ:bx (e::es)=true:=by rfl):PE X (.Call (.Name x p) (e::es) [] pos) (tP X fun ρ=>ba h (L ρ)):=
 (jg hc hg hm hv ha hn iS (bC _ _ (aU eJ).1) (cx (aU eJ).2)).weak fun _ _ _ q=>uK q
inductive spT(K:PySem.W.Frag)(f:List Tr->Rs Tr)(vs:List V)(H:Hp)(Q:VK)(_w3:XK):Prop
 |mk (B:bN) (ts:List Tr):HB B H->aJ K (aN B H) vs ts->(∃t,f ts=.ok t/\∀v H',aw H H'->Rep K (aN B H') v t->Q v H')->spT K f vs H Q _w3
theorem N3{x:Str}{st:Stmt}{ps:List Str}{f:Addr}{fd:FuncData}{k:Nat}{h:List Tr->Rs Tr}{e:Expr}{p:Pos}(D:uI X.K X.mg x st ps f fd)(G:hX X.prog X.w X.K X.mg X.base qg k f fd ps (spT X.K h))(hr:dC k X.A)
  (ha:PA X (e::es) (BN X L)) (hg:Gl X x:=by rfl) (iS:(x==("__debug__":Str))=false:=by decide) (eJ:bx (e::es)=true:=by rfl):PE X (.Call (.Name x p) (e::es) [] pos) (tP X fun ρ=>ba h (L ρ)):=
 (J7 D G hr ha hg iS (bC _ _ (aU eJ).1) (cx (aU eJ).2)).weak fun σ H Q ⟨B,ρ,hb,r,q⟩=>⟨B,ρ,hb,r,q.bind.mono fun ts qt vs H1 s1 r1=>by
  cases e:h ts with
  |ok t=>rw[e]at qt;exact⟨B,ts,hb.same s1,by rw[dq];exact r1,t,e,fun v H2 s2 r2=>qt v H2 (s1.trans s2) r2⟩
  |exc c=>rw[e]at qt;exact(qt _ (aw.refl _)).elim
  |bad=>rw[e]at qt;exact qt.elim⟩
end
end L2
namespace L2
open PySem PySem.Spec PyProof.Rows
section
variable {X:Cx}{a b c e:Expr}{pos:Pos}{F:av->Rs Tr}{G G':av->Rs Out}{A:av->Rs Bool}{st:Stmt}{rest N4:List Stmt}
def GC(r:Rs Out)(G:av->Rs Out):Rs Out:=r.bind fun o=>match o with
 |.nx ρ=>G ρ
 |.ret t=>.ok (.ret t)
 |.bk ρ=>.ok (.bk ρ)
 |.ct ρ=>.ok (.ct ρ)
theorem N5:kF X [] (tS X fun ρ=>.ok (.nx ρ)):=z3.weak fun D σ H ⟨C,B0,H0,B,ρ,si,r,q⟩=>q σ B H si r
theorem J'(h1:PS X st (tS X G))(h2:kF X rest (tS X G')):kF X (st::rest) (tS X fun ρ=>GC (G ρ) G'):=
 (w6 h1 h2).weak fun D σ H ⟨C,B0,H0,B,ρ,si,r,q⟩=>⟨C,B0,H0,B,ρ,si,r,q.bind.mono fun o qo=>by
  cases o with
  |nx dF=>exact fun bM B' H' Xm r'=>⟨C,B0,H0,B',dF,Xm,r',qo⟩
  |ret t=>exact qo
  |bk dF=>exact qo
  |ct dF=>exact qo⟩
theorem N6(h1:PS X st (tS X G)):kF X [st] (tS X G):=z4 h1
def Ka(i:Nat)(r:Rs Tr)(ρ:av):Rs Out:=r.bind fun t=>.ok (.nx (ρ.set i (.sh t)))
theorem mD.here {α:Type}{C B0 B:bN}{H0 H:Hp}{r:Rs α}{k:α->Prop}(h:mD (xS X C B0 H0) r k)(si:dg C B0 H0 B H):Fi X H r k:=h.imp fun _ q H' s'=>q B H' (si.go s')
theorem Ir{C B0 B:bN}{H0 H:Hp}{σ:St}{ρ:av}{k:Tr->Prop}(si:dg C B0 H0 B H)(r:a_ X.K B H σ ρ)(q:mD (xS X C B0 H0) (F ρ) k){Q:VK}(hq:∀t v H',k t->aw H H'->dg C B0 H0 B H'->a_ X.K B H' σ ρ->Rep X.K (aN B H') v t->Q v H'):tP X F σ H Q:=
 ⟨B,ρ,si.hb,r,(q.here si).mono fun t qt v H' s' r'=>hq t v H' qt s' (si.go s') (r.same s') r'⟩
theorem N7{C B0 B:bN}{H0 H:Hp}{σ:St}{ρ:av}{k:Bool->Prop}(si:dg C B0 H0 B H)(r:a_ X.K B H σ ρ)(q:mD (xS X C B0 H0) (A ρ) k){Q:Bool->Hp->Prop}(hq:∀b H',k b->aw H H'->dg C B0 H0 B H'->a_ X.K B H' σ ρ->Q b H'):tQ X A σ H Q:=
 ⟨B,ρ,si.hb,r,(q.here si).mono fun b qb H' s'=>hq b H' qb s' (si.go s') (r.same s')⟩
theorem Rep.out {K:PySem.W.Frag}{C B0 B:bN}{H0 H:Hp}{v:V}{t:Tr}(r:Rep K (aN B H) v t)(si:dg C B0 H0 B H):Rep K (aN C H) v t:=r.same (sx si.sub)
theorem N8{i:Nat}{x:Str}{pos':Pos}(he:PE X e (tP X F))(hN:X.N.Nodup:=by assumption) (hi:X.N[i]?=some x:=by rfl) (hx:Loc X.env.scope x:=by first|exact Or.inl rfl|exact Or.inr rfl) (hs:mm e=false:=by rfl) (hf:X.fn x=true\/X.env.scope.names.lookup x=some .local:=by first|exact .inl rfl|exact .inr rfl|assumption):
  PS X (.Assign [.Name x pos'] e pos) (tS X fun ρ=>Ka i (F ρ) ρ):=
 (C_ hN hi hx he (sA hs) hf).weak fun D σ H ⟨C,B0,H0,B,ρ,si,r,q⟩=>Ir si r q.bind fun t v H1 qt s1 Kb r1 rv=>qt _ B H1 Kb (r1.set i rv)
def BO(r:Rs Tr):Rs Out:=r.bind fun t=>.ok (.ret t)
theorem N9(he:PE X e (tP X F)):PS X (.Return (some e) pos) (tS X fun ρ=>BO (F ρ)):=
 (C7 he).weak fun D σ H ⟨C,B0,H0,B,ρ,si,r,q⟩=>Ir si r q.bind fun t v H1 qt s1 Kb r1 rv=>qt v B H1 Kb (rv.out Kb)
def Tc(c:Rs Bool)(a b:Rs Out):Rs Out:=c.bind fun k=>if k then a else b
theorem Td{ys ns:List Stmt}(hc:PT X c (tQ X A))(ha:kF X ys (tS X G))(hb:kF X ns (tS X G')):PS X (.If c ys ns pos) (tS X fun ρ=>Tc (A ρ) (G ρ) (G' ρ)):=
 (H_ hc ha hb).weak fun D σ H ⟨C,B0,H0,B,ρ,si,r,q⟩=>N7 si r q.bind fun k H1 qk s1 Kb r1=>by
  cases k with
  |true=>exact J4 ⟨C,B0,H0,B,ρ,Kb,r1,qk⟩
  |false=>exact Dy ⟨C,B0,H0,B,ρ,Kb,r1,qk⟩
abbrev iU:=Tr->av->Rs av
inductive tG(X:Cx)(T:iU)(v:V)(σ:St)(H:Hp)(Q:St->Hp->Prop):Prop
 |mk (B:bN) (ρ:av) (t:Tr):HB B H->a_ X.K B H σ ρ->Rep X.K (aN B H) v t->(Fi X H (T t ρ) fun dF=>∀bM H',aw H H'->a_ X.K B H' bM dF->Q bM H')->tG X T v σ H Q
def gN(i:Nat):iU:=fun t ρ=>.ok (ρ.set i (.sh t))
theorem Kc(i:Nat){x:Str}(hN:X.N.Nodup:=by assumption) (hi:X.N[i]?=some x:=by rfl) (hx:Loc X.env.scope x:=by first|exact Or.inl rfl|exact Or.inr rfl) (hf:X.fn x=true\/X.env.scope.names.lookup x=some .local:=by first|exact .inl rfl|exact .inr rfl|assumption):PG X (.Name x pos) (tG X (gN i)):=by
 intro pins s σ H v u Q I r ⟨B,ρ,t,hb,rs,rt,q⟩;exact vq hN hi hx hf pins s σ H v u Q I r (q _ H (aw.refl H) (rs.set i rt))
def y6:List Nat->List Tr->av->Rs av
 |[],[],ρ=>.ok ρ
 |i::is,t::ts,ρ=>y6 is ts (ρ.set i (.sh t))
 |_,_,_=>.bad
inductive MB(X:Cx)(T:List Tr->av->Rs av)(vs:List V)(σ:St)(H:Hp)(Q:St->Hp->Prop):Prop
 |mk (B:bN) (ρ:av) (ts:List Tr):HB B H->a_ X.K B H σ ρ->aJ X.K (aN B H) vs ts->(Fi X H (T ts ρ) fun dF=>∀bM H',aw H H'->a_ X.K B H' bM dF->Q bM H')->MB X T vs σ H Q
theorem N_:F4 X [] (MB X (y6 [])):=by
 intro pins s σ H vs us Q I r ⟨B,ρ,ts,hb,rs,rt,q⟩
 match ts,rt,q with
 |[],.nil,q=>exact F5 pins s σ H [] us Q I r ⟨rfl,q σ H (aw.refl H) rs⟩
 |_::_,_,q=>exact q.elim
theorem Kd{es:List Expr}{i:Nat}{is:List Nat}{x:Str}(h2:F4 X es (MB X (y6 is)))(hN:X.N.Nodup:=by assumption) (hi:X.N[i]?=some x:=by rfl) (hx:Loc X.env.scope x:=by first|exact Or.inl rfl|exact Or.inr rfl) (hf:X.fn x=true\/X.env.scope.names.lookup x=some .local:=by first|exact .inl rfl|exact .inr rfl|assumption)
  (hs:(assignEach (.Name x pos::es) X.env).map (·.2)=assign (.Name x pos) X.env::(assignEach es X.env).map (·.2):=by rfl):F4 X (.Name x pos::es) (MB X (y6 (i::is))):=by
 intro pins s σ H vs us Q I r ⟨B,ρ,ts,hb,rs,rt,q⟩
 match ts,rt,q with
 |[],_,q=>exact q.elim
 |t::ts,.cons r1 r2,q=>
  exact C9 (vq hN hi hx hf) h2 hs pins s σ H _ us Q I r ⟨_,_,rfl,⟨B,_,ts,hb,rs.set i r1,r2,q⟩⟩
def gT(is:List Nat):iU:=fun t ρ=>match t with
 |.tup ts=>y6 is ts ρ
 |_=>.bad
theorem Ai:∀{is:List Nat} {ts:List Tr} {ρ dF:av},y6 is ts ρ=.ok dF->ts.length=is.length
 |[],[],_,_,_=>rfl
 |[],_::_,_,_,h=>by cases h
 |_::_,[],_,_,h=>by cases h
 |_::is,_::ts,_,_,h=>by rw[bb,bb,Ai (is:=is) (ts:=ts) h]
theorem uL:∀{is:List Nat} {ts:List Tr} {ρ:av} {c:Tr},y6 is ts ρ≠ .exc c
 |[],[],_,_=>fun h=>by cases h
 |[],_::_,_,_=>fun h=>by cases h
 |_::_,[],_,_=>fun h=>by cases h
 |_::is,_::ts,_,_=>uL (is:=is) (ts:=ts)
theorem Oa{es:List Expr}{k:Nat}{is:List Nat}(h:F4 X es (MB X (y6 is)))(hc:X.calm=true:=by rfl) (hn:(assignEach es X.env).length=is.length:=by rfl) (eJ:(assignEach es X.env).findIdx? (·.1)=none:=by rfl):PG X (.Tuple es k pos) (tG X (gT is)):=by
 intro pins s σ H v u Q I r ⟨B,ρ,t,hb,rs,rt,q⟩;cases rt with
 |tup hq rv=>
  have hq:=Rh (K:=X.K) hq;refine Js hc h hn eJ pins s σ H _ u Q I r ⟨_,_,rfl,(aw.tup aK hq),?_,B,ρ,_,hb,rs,rv,q⟩;have q':Fi X H (y6 is _ ρ) _:=q;cases e:y6 is _ ρ with
  |ok dF=>rw[rv.length];exact Ai e
  |exc c=>exact(uL e).elim
  |bad=>rw[e]at q';exact q'.elim
 |_=>exact q.elim
structure kP(K:PySem.W.Frag)(B:bN)(J:It)(H:Hp)(ts:List Tr):Prop where
 go:∀i B' H',i<ts.length->cD (aN B H) (aN B' H')->HB B' H'->J.go i H'
 yO:∀i B' H' x Iu,i<ts.length->cD (aN B H) (aN B' H')->HB B' H'->J.yO i H' x Iu->aw H' Iu/\∃t,ts[i]?=some t/\Rep K (aN B' Iu) x t
 stop:∀B' H',cD (aN B H) (aN B' H')->J.stop ts.length H'
inductive tI(X:Cx)(W:av->Rs (List Tr))(σ:St)(H:Hp)(R:It->Hp->Prop):Prop
 |mk (B:bN) (ρ:av):HB B H->a_ X.K B H σ ρ->(Fi X H (W ρ) fun ts=>∀J H',aw H H'->kP X.K B J H' ts->R J H')->tI X W σ H R
def BP(z:Str):List Tr:=z.cps.toList.map fun c=>Tr.str ⟨#[c]⟩
def il(r:Rs Tr):Rs (List Tr):=r.bind fun t=>match t with
 |.tup ts=>.ok ts
 |.lst ts=>.ok ts
 |.str z=>.ok (BP z)
 |_=>.bad
theorem y8{K:PySem.W.Frag}{B:bN}{H:Hp}{a:Addr}{vs:List V}{ts:List Tr}(h:aN B H a=some (.lst vs))(r:aJ K (aN B H) vs ts):kP K B (Q2 K a) H ts where
 go:=fun i B' H' hi s hb=>by
  have hv:i<vs.length:=by rw[r.length];exact hi
  exact⟨vs,vs[i],iA.of (aK _ _ (s.h _ _ h)),by simp[hv]⟩
 yO:=fun i B' H' x Iu hi s hb ⟨e,y⟩=>by
  subst e;have q:=y vs (iA.of (aK _ _ (s.h _ _ h)));obtain⟨t,e1,r1⟩:=r.BM q;exact⟨aw.refl _,t,e1,r1.same s⟩
 stop:=fun B' H' s=>⟨vs,iA.of (aK _ _ (s.h _ _ h)),by rw[r.length];exact aq _⟩
theorem uM{K:PySem.W.Frag}{B:bN}{H:Hp}{a:Addr}{vs:List V}{ts:List Tr}(h:kG K (aN B H) a vs)(r:aJ K (aN B H) vs ts):kP K B (Sl K a) H ts where
 go:=fun i B' H' hi s hb=>by
  have hv:i<vs.length:=by rw[r.length];exact hi
  exact⟨vs,vs[i],aw.tup aK (s.h.tup h),by simp[hv]⟩
 yO:=fun i B' H' x Iu hi s hb ⟨e,y⟩=>by
  subst e;have q:=y vs (aw.tup aK (s.h.tup h));obtain⟨t,e1,r1⟩:=r.BM q;exact⟨aw.refl _,t,e1,r1.same s⟩
 stop:=fun B' H' s=>⟨vs,aw.tup aK (s.h.tup h),by rw[r.length];exact aq _⟩
theorem BQ{K:PySem.W.Frag}{B:bN}{H:Hp}(z:Str):kP K B (Rg z) H (BP z) where
 go:=fun i B' H' hi _ _=>by
  have h:i<z.cps.size:=by simpa[BP]using hi
  exact h
 yO:=fun i B' H' x Iu hi s hb ⟨e,c,hc,hx⟩=>by
  subst e;subst hx;refine⟨aw.refl _,.str ⟨#[c]⟩,?_,.str _ (by show 1<=iB;decide)⟩;unfold BP;rw[aL,cf,hc]
  rfl
 stop:=fun B' H' s=>by simp[BP,Rg]
theorem GD{pins:List (Addr×Obj)}{σ:St}{H1:Hp}{s1:Shared}{R:It->Hp->Prop}{tg:Expr}{z:Str}{t:Tok}(I1:Inv X pins σ H1 s1)(q:R (Rg z) H1):wpAny (model X.prog X.w) X.A (pyIter (.str z t)) (Q0 X pins σ tg R) X.xe s1:=by
 have fin:∀b∈[s1.heap.objs.size],lR X pins H1 b:=fun b hb=>by
  have e:b=s1.heap.objs.size:=by simpa using hb
  rw[e];exact I1.vt (aq _) (I1.bV.fresh (aq _))
 cases ha:z.cps.all (· <128)
 ·exact wpAny_pyIter_wide ha ⟨s1.heap.objs.size,[s1.heap.objs.size],_,_,H1,rfl,I1.kept (t':=s1.toks) fun b o e=>aB _ e,
   xn (n:="str_iterator") (t:=t) (by decide) (fun A' hA=>Walks.strWide hA _ z t) fun _ _ _ _ _ st hq=>wpAny_pyIter_striter_wide st hq,⟨_,aQ _ rfl,rfl,rfl⟩,fin,q⟩
 ·exact wpAny_pyIter_ascii ha ⟨s1.heap.objs.size,[s1.heap.objs.size],_,_,H1,rfl,I1.kept (t':=s1.toks) fun b o e=>aB _ e,
   xn (n:="str_ascii_iterator") (t:=t) (by decide) (fun A' hA=>Walks.strAscii hA _ z t) fun _ _ _ _ _ st hq=>wpAny_pyIter_striter_ascii st hq,⟨_,aQ _ rfl,rfl,rfl⟩,fin,q⟩
theorem Ob{tg l:Expr}(hl:PE X l (tP X F)):PI X tg l (tI X fun ρ=>il (F ρ)):=by
 intro pins s σ H R I ⟨B,ρ,hb,r,q⟩;refine dN (hl pins s σ H (fun x H1=>∃t,aw H H1/\Rep X.K (aN B H1) x t/\Fi X H (il (.ok t)) fun ts=>∀J H',aw H H'->kP X.K B J H' ts->R J H') I ⟨B,ρ,hb,r,q.bind.mono fun t qt v H1 s1 r1=>⟨t,s1,r1,qt⟩⟩) fun v s1 ⟨x,H1,I1,r1,t,sm,rt,k⟩=>?_
 have k:Fi X H (match t with
  |.tup ts=>.ok ts
  |.lst ts=>.ok ts
  |.str z=>.ok (BP z)
  |_=>.bad) _:=k
 have fin:∀b∈[s1.heap.objs.size],lR X pins H1 b:=fun b hb=>by
  rw[cn.mp hb];exact I1.vt (aq _) (I1.bV.fresh (aq _))
 split at k
 ·obtain⟨a,vs,rfl,h,rr⟩:=rt.eC;cases r1;obtain⟨aV,rv,p,hz⟩:=I1.tuple (aw.tup aK h);exact mZ (show s1.heap.IsTuple a aV.toArray from p) ⟨s1.heap.objs.size,[s1.heap.objs.size],_,_,H1,rfl,I1.kept (t':=s1.toks) fun b o e=>aB _ e,r_ a _,⟨_,aQ _ rfl,rfl,rfl⟩,fin,k _ H1 sm (uM h rr)⟩
 ·obtain⟨a,vs,rfl,h,rr⟩:=rt.lst_inv;cases r1;obtain⟨aV,rv,p,hz⟩:=I1.list (iA.of (aK _ _ h));exact m5 p.isList ⟨s1.heap.objs.size,[s1.heap.objs.size],_,_,H1,rfl,I1.kept (t':=s1.toks) fun b o e=>aB _ e,uw a _,⟨_,aQ _ rfl,rfl,rfl⟩,fin,k _ H1 sm (y8 h rr)⟩
 ·obtain⟨rfl,_⟩:=rt.str_inv;obtain⟨t,rfl⟩:=(show∃t,v=Value.str _ t from r1);exact GD I1 (k _ H1 sm (BQ _))
 ·exact k.elim
def xt(lo:Int)(n:Nat):List Tr:=(List.range n).map fun k=>Tr.int (lo+(k:Nat))
theorem kQ(lo:Int)(n:Nat):(xt lo n).length=n:=by simp[xt]
theorem xu{K:PySem.W.Frag}{B:bN}{H:Hp}(lo:Int)(n:Nat):kP K B (Q3 lo n) H (xt lo n) where
 go:=fun i B' H' hi _ _=>by rw[kQ]at hi;exact hi
 yO:=fun i B' H' x Iu hi s hb ⟨e,y⟩=>by
  subst e;subst y;rw[kQ]at hi;refine⟨aw.refl _,.int (lo+i),?_,.int _⟩;unfold xt;rw[aL,List.getElem?_range hi]
  rfl
 stop:=fun B' H' s=>by rw[kQ];exact aq _
def Aj(l:Rs (List Tr)):Rs (List Tr):=l.bind fun ts=>match ts with
 |[.int j]=>if-4611686018427387904<=j/\j<4611686018427387904 then .ok (xt 0 j.toNat)else .bad
 |_=>.bad
theorem PI.weak {tg iter:Expr}{t t':TI}(h:PI X tg iter t)(w:∀σ H R,t' σ H R->t σ H R):PI X tg iter t':=fun pins s σ H R I q=>h pins s σ H R I (w σ H R q)
variable {L:av->Rs (List Tr)}{tg:Expr}{p:Pos}
theorem DJ(hm:X.mg "range"=none)(ha:PA X [a] (BN X L))(hg:Gl X "range":=by rfl) (hs:bx [a]=true:=by rfl):PI X tg (.Call (.Name "range" p) [a] [] pos) (tI X fun ρ=>Aj (L ρ)):=
 (BE hg hm ha (by rw[bC _ _ (aU hs).1];rfl)).weak fun σ H R ⟨B,ρ,hb,r,q⟩=>⟨B,ρ,hb,r,q.bind.mono fun ts qt vs H1 s1 r1=>by
  split at qt
  ·rename_i j;cases r1 with
   |cons h1 r1=>
    cases h1;cases r1;split at qt
    ·rename_i hj;exact⟨j,rfl,by omega,by omega,qt _ H1 s1 (xu 0 _)⟩
    ·exact qt.elim
  ·exact qt.elim⟩
def DK{α:Type}(r:Rs α):Rs α:=match r with
 |.ok a=>.ok a
 |_=>.bad
def h_(ix:List (Option Nat))(ρ:av):av:=ix.map fun o=>match o with
 |none=>.no
 |some j=>match ρ[j]? with
  |some (.sh t)=>.sh t
  |_=>.no
theorem a_.comp {K:PySem.W.Frag}{B B':bN}{H H':Hp}{σ:St}{ρ:av}(ix:List (Option Nat))(h:a_ K B H σ ρ)(s:cD (aN B H) (aN B' H')):a_ K B' H' (fv ix σ) (h_ ix ρ):=by
 have no:∀(i:Nat) (c:Cell),(h_ ix ρ)[i]?=some c->c=.no\/∃j t,ix[i]?=some (some j)/\ρ[j]?=some (.sh t)/\c=.sh t:=fun i c e=>by
  unfold h_ at e;rw[aL]at e;cases q:ix[i]? with
  |none=>rw[q]at e;cases e
  |some o=>
   rw[q]at e;cases o with
   |none=>exact .inl (Option.some.inj e).symm
   |some j=>
    have e':(match ρ[j]? with|some (Cell.sh t)=>Cell.sh t|_=>Cell.no)=c:=Option.some.inj e;split at e'
    ·rename_i t q2;exact .inr ⟨j,t,rfl,q2,e'.symm⟩
    ·exact .inl e'.symm
 refine⟨by unfold h_ fv;rw[ak,ak],fun i t e=>?_,fun i ts e=>?_,fun i j ts us D _ e=>?_⟩
 ·rcases no i _ e with q|⟨j,u,q1,q2,q3⟩
  ·cases q
  ·cases q3;obtain⟨v,e1,r1⟩:=h.sh j t q2;refine⟨v,?_,r1.same s⟩;unfold fv;rw[aL,q1];show some ((σ[j]?).join)=_;rw[e1]
   rfl
 ·rcases no i _ e with q|⟨j,u,q1,q2,q3⟩
  ·cases q
  ·cases q3
 ·rcases no i _ e with q|⟨j,u,q1,q2,q3⟩
  ·cases q
  ·cases q3
def lH(T:iU)(A:av->Rs Bool)(F:av->Rs Tr):List Tr->av->Rs (List Tr)
 |[],_=>.ok []
 |t::ts,ρ=>(DK (T t ρ)).bind fun ρ1=>(DK (A ρ1)).bind fun k=>if k then(DK (F ρ1)).bind fun y=>(lH T A F ts ρ1).bind fun ys=>.ok (y::ys)else lH T A F ts ρ1
def ij(ix:List (Option Nat))(T:iU)(A:av->Rs Bool)(F:av->Rs Tr)(l:Rs (List Tr))(ρ:av):Rs Tr:=l.bind fun ts=>if ts.length<=ik then(lH T A F ts (h_ ix ρ)).bind fun ys=>.ok (.lst ys)else .bad
def fw(B:bN)(D:Addr):bN:=⟨fun b=>B.hd b||b==D,B.ix⟩
theorem ia{B:bN}{D:Addr}{H:Hp}{o:HO}(hD:H D=none):cD (aN B H) (aN (fw B D) (upd H D o)):=⟨fun b u e=>by
 have e1:=aK b u e;have f':b≠D:=br e1 hD;have hB:B.hd b=false:=by
  cases q:B.hd b with
  |false=>rfl
  |true=>
   have e2:(if B.hd b=true then none else H b)=some u:=e;rw[q,ab rfl]at e2;cases e2
 rw[cV (show(B.hd b||b==D)=false by rw[hB,e8 f'];rfl),au f'];exact e1,fun _ _ e=>e⟩
theorem Ak{B:bN}{D:Addr}{H:Hp}{o:HO}(h:HB B H)(hD:H D=none)(ho:∀vs,o≠ .tup vs:=by exact fun _ z=>by cases z):HB (fw B D) (upd H D o):=fun b e=>by
 by_cases q:b=D
 ·subst q;exact⟨o,aH,ho⟩
 ·have e':(B.hd b||b==D)=true:=e;rw[e8 q,m9]at e';rw[au q];exact h b e'
theorem uN{B:bN}{D:Addr}:(fw B D).hd D=true:=by show(B.hd D||D==D)=true;rw[bD,Bool.or_true]
theorem jm{B:bN}{D:Addr}{H:Hp}{o:HO}:aN (fw B D) (upd H D o)=aN (fw B D) H:=by
 unfold aN;congr 1;funext b;by_cases q:b=D
 ·subst q;rw[ab uN,ab uN]
 ·rw[au q]
theorem GF{B:bN}{D:Addr}:pB B (fw B D):=⟨fun b e=>by show(B.hd b||b==D)=true;rw[e,ng],fun _ _ e=>e⟩
theorem DL{B:bN}{D:Addr}{H:Hp}:cD (aN (fw B D) H) (aN B H):=sx GF
def cQ(ρ:av):Prop:=∀(i:Nat) (ts:List Tr),ρ[i]? ≠some (.ow ts)
def fx(T:iU):Prop:=∀t ρ dF,cQ ρ->T t ρ=.ok dF->cQ dF
theorem cQ.set {ρ:av}(h:cQ ρ)(i:Nat)(t:Tr):cQ (ρ.set i (.sh t)):=fun j ts e=>by
 rcases gS e with⟨_,_,q⟩|⟨_,q⟩
 ·cases q
 ·exact h j ts q
theorem cN(i:Nat):fx (gN i):=fun t ρ dF h e=>by cases e;exact h.set i t
theorem Al:∀{is:List Nat} {ts:List Tr} {ρ dF:av},cQ ρ->y6 is ts ρ=.ok dF->cQ dF
 |[],[],_,_,h,e=>by cases e;exact h
 |[],_::_,_,_,_,e=>by cases e
 |_::_,[],_,_,_,e=>by cases e
 |i::is,t::ts,_,_,h,e=>Al (is:=is) (ts:=ts) (h.set i t) e
theorem DM(is:List Nat):fx (gT is):=fun t ρ dF h e=>by
 cases t with
 |tup ts=>exact Al h e
 |_=>cases e
theorem jH(ix:List (Option Nat))(ρ:av):cQ (h_ ix ρ):=fun i ts e=>by
 unfold h_ at e;rw[aL]at e;cases q:ix[i]? with
 |none=>rw[q]at e;cases e
 |some o=>
  rw[q]at e;cases o with
  |none=>cases e
  |some j=>
   have e':(match ρ[j]? with|some (Cell.sh t)=>Cell.sh t|_=>Cell.no)=.ow ts:=Option.some.inj e;split at e'<;>cases e'
theorem mD.eq {α:Type}{xc:Tr->Prop}{r:Rs α}{k:α->Prop}(h:mD xc r k):mD xc r fun a=>r=.ok a/\k a:=by
 cases r with
 |ok a=>exact⟨rfl,h⟩
 |_=>exact h
theorem y9{α:Type}{xc:Tr->Prop}{r:Rs α}{k:α->Prop}(h:mD xc (DK r) k):∃a,r=.ok a/\k a:=by
 cases r with
 |ok a=>exact⟨a,rfl,h⟩
 |_=>exact h.elim
inductive GG(K:PySem.W.Frag)(F:av->Rs Tr)(σ:St)(H:Hp)(Q:VK):Prop
 |mk (B:bN) (ρ:av):HB B H->a_ K B H σ ρ->(∃t,F ρ=.ok t/\∀v H',aw H H'->Rep K (aN B H') v t->Q v H')->GG K F σ H Q
inductive GH(K:PySem.W.Frag)(F:av->Rs Bool)(σ:St)(H:Hp)(Q:Bool->Hp->Prop):Prop
 |mk (B:bN) (ρ:av):HB B H->a_ K B H σ ρ->(∃b,F ρ=.ok b/\∀H',aw H H'->Q b H')->GH K F σ H Q
inductive CO(K:PySem.W.Frag)(T:iU)(v:V)(σ:St)(H:Hp)(Q:St->Hp->Prop):Prop
 |mk (B:bN) (ρ:av) (t:Tr):HB B H->a_ K B H σ ρ->Rep K (aN B H) v t->(∃dF,T t ρ=.ok dF/\∀bM H',aw H H'->a_ K B H' bM dF->Q bM H')->CO K T v σ H Q
theorem Ke{X:Cx}{F:av->Rs Tr}{σ:St}{H:Hp}{Q:VK}:GG X.K F σ H Q->tP X F σ H Q:=fun⟨B,ρ,hb,r,t,e,q⟩=>⟨B,ρ,hb,r,by rw[e];exact q⟩
theorem Kf{X:Cx}{F:av->Rs Bool}{σ:St}{H:Hp}{Q:Bool->Hp->Prop}:GH X.K F σ H Q->tQ X F σ H Q:=fun⟨B,ρ,hb,r,t,e,q⟩=>⟨B,ρ,hb,r,by rw[e];exact q⟩
theorem DN{X:Cx}{T:iU}{v:V}{σ:St}{H:Hp}{Q:St->Hp->Prop}:CO X.K T v σ H Q->tG X T v σ H Q:=fun⟨B,ρ,t,hb,r,rt,dF,e,q⟩=>⟨B,ρ,t,hb,r,rt,by rw[e];exact q⟩
theorem nF{K:PySem.W.Frag}{J:It}{D:Addr}{B:bN}{H:Hp}{Rb:St}{Ri:av}{ts:List Tr}{T:iU}{A:av->Rs Bool}{F:av->Rs Tr}{Q:Hp->Prop}(hT:fx T)(h0:cQ Ri)(hb:HB B H)(gt:kP K B J H ts)(hz:ts.length<=ik)(r:a_ K (fw B D) (upd H D (.lst [])) Rb Ri)(hD:H D=none)
  {xc:Tr->Prop} {k:List Tr->Prop} (q:mD xc (lH T A F ts Ri) k) (hQ:∀ys H',k ys->aw H H'->Rep K (aN B H') (.ref D) (.lst ys)->Q H'):S7 J D Rb (upd H D (.lst [])) (CO K T) (GH K A) (GG K F) Q:=by
 refine⟨fun i m σ H'=>m=ts.length - i/\i<=ts.length/\aw H H'/\HB (fw B D) H'/\cD (aN B H) (aN (fw B D) H')/\∃ρ vs us,cQ ρ/\a_ K (fw B D) H' σ ρ/\H' D=some (.lst vs)/\vs.length<=i/\aJ K (aN (fw B D) H') vs us/\mD xc (lH T A F (ts.drop i) ρ) (fun ys=>k (us++ys)),
  ⟨_,rfl,bK _,aw.upd hD,Ak hb hD,ia hD,Ri,[],[],h0,r,aH,aq _,.nil,q⟩,?_⟩
 rintro i m σ H' ⟨rfl,hi,sm,lF,eR,ρ,vs,us,no,rs,hd,hl,rv,q'⟩
 by_cases dO:i<ts.length
 ·rw[jB dO]at q';refine .inr ⟨gt.go i _ H' dO eR lF,fun mC H2=>aw H H2/\HB (fw B D) H2/\cD (aN B H) (aN (fw B D) H2)/\∃ρ vs us,cQ ρ/\a_ K (fw B D) H2 mC ρ/\H2 D=some (.lst vs)/\vs.length<=i+1/\aJ K (aN (fw B D) H2) vs us/\mD xc (lH T A F (ts.drop (i+1)) ρ) (fun ys=>k (us++ys)),
   fun mC H2 h=>⟨ts.length - (i+1),by omega,rfl,dO,h⟩,fun x H2 hx=>?_⟩
  obtain⟨s2,t,et,rt⟩:=gt.yO i _ H' x H2 dO eR lF hx;have GI:ts[i]=t:=by rw[ay dO]at et;exact Option.some.inj et
  rw[GI]at q';obtain⟨ρ1,eT,q1⟩:=y9 (mD.bind q');have Te:=hT t ρ ρ1 no eT;refine⟨_,ρ,t,lF.same s2,rs.same s2,rt,ρ1,eT,fun wG H3 s3 r3=>?_⟩;have VG:=s2.trans s3;obtain⟨c,eA,qc⟩:=y9 (mD.bind q1);refine⟨_,ρ1,lF.same VG,r3,c,eA,fun H4 s4=>?_⟩;have Kg:=VG.trans s4;have g4:aw H H4:=sm.trans Kg;cases c with
  |false=>
   exact Dy ⟨g4,lF.same Kg,eR.trans (aT Kg),ρ1,vs,us,Te,r3.same s4,Kg _ _ hd,by omega,rv.same (aT Kg),qc⟩
  |true=>
   obtain⟨y,eF,qy⟩:=y9 (mD.bind qc);refine J4 ⟨_,ρ1,lF.same Kg,r3.same s4,y,eF,fun v H5 s5 r5=>?_⟩;have Oc:=Kg.trans s5;refine⟨vs,Oc _ _ hd,by rw[<-h9];omega,(sm.trans Oc).Gx hD,?_,?_,ρ1,vs++[v],us++[y],Te,?_,aH,by rw[aY];exact Nat.add_le_add_right hl 1,?_,?_⟩
   ·intro b e;by_cases q:b=D
    ·subst q;exact⟨_,aH,fun _ z=>by cases z⟩
    ·rw[au q];exact(lF.same Oc) b e
   ·rw[jm];exact eR.trans (aT Oc)
   ·have Tf:=(r3.same s4).same s5;refine⟨Tf.len,fun i t e=>?_,fun i ts e=>(Te i ts e).elim,Tf.ap⟩;rw[jm];exact Tf.sh i t e
   ·rw[jm];exact(rv.same (aT Oc)).append (.cons r5 .nil)
   ·exact(mD.bind qy).mono fun ys q=>by rw[gE];exact q
 ·have e:i=ts.length:=by omega
  subst e;rw[i6]at q';refine .inl ⟨gt.stop _ H' eR,hQ us H' (by have:=(show k (us++[])from q');rw[dq]at this;exact this) sm (.lst ?_ (rv.same DL))⟩;rw[cV (hb.free hD)];exact hd
variable {scope:Scope}{N':List Str}{ix:List (Option Nat)}{elt iter:Expr}{ifs:List Expr}{T:iU}{W:av->Rs (List Tr)}
theorem Od{X:Cx}:PF X [] (tQ X fun _=>.ok true):=fun pins s σ H Q I ⟨B,ρ,hb,r,q⟩=>DA pins s σ H Q I (q H (aw.refl H))
theorem Oe{X:Cx}{c:Expr}{A:av->Rs Bool}(h:PT X c (tQ X A)):PF X [c] (tQ X A):=DB h
theorem xw{σ:St}{H:Hp}{Q:VK}(hT:fx T)(q:tP X (fun ρ=>ij ix T A F (W ρ) ρ) σ H Q):Gu (tI X W) ix (CO X.K T) (GH X.K A) (GG X.K F) σ H Q:=by
 obtain⟨B,ρ,hb,r,q⟩:=q;refine⟨B,ρ,hb,r,q.bind.mono fun ts qt J H1 s1 gt D hD=>?_⟩;by_cases hz:ts.length<=ik
 ·rw[ab hz]at qt;exact nF hT (jH ix ρ) (hb.same s1) gt hz ((r.same s1).comp ix (ia hD)) hD (Fi.bind qt) fun ys H' k s' rp=>k _ H' (s1.trans s') rp
 ·rw[ae hz]at qt;exact qt.elim
structure Iv(X:Cx)(scope:Scope)(N':List Str)(tg elt:Expr)(ifs:List Expr)(T:iU)(A:av->Rs Bool)(F:av->Rs Tr):Prop where
 all:∀s H ex,PG (kL X scope N' s H ex) tg (tG (kL X scope N' s H ex) T)/\PF (kL X scope N' s H ex) ifs (tQ (kL X scope N' s H ex) A)/\PE (kL X scope N' s H ex) elt (tP (kL X scope N' s H ex) F)
theorem Iv.MC {X:Cx}{scope:Scope}{N':List Str}{tg elt:Expr}{ifs:List Expr}{T:iU}{A:av->Rs Bool}{F:av->Rs Tr}(h:Iv X scope N' tg elt ifs T A F):∀s H ex,PG (kL X scope N' s H ex) tg (CO X.K T)/\PF (kL X scope N' s H ex) ifs (GH X.K A)/\PE (kL X scope N' s H ex) elt (GG X.K F):=fun s H ex=>by
 obtain⟨h1,h2,h3⟩:=h.all s H ex;exact⟨fun pins s σ H v u Q I r q=>h1 pins s σ H v u Q I r (DN q),fun pins s σ H Q I q=>h2 pins s σ H Q I (Kf q),fun pins s σ H Q I q=>h3 pins s σ H Q I (Ke q)⟩
theorem Tg(Lk:eQ X N' ix scope)(hi:PI X tg iter (tI X W))(iT:Iv X scope N' tg elt ifs T A F)(hT:fx T)(hc:X.calm=true:=by rfl) (hs:isSet iter=false:=by rfl):
  PE X (.ListComp elt [⟨tg,iter,ifs,0⟩] scope pos) (tP X fun ρ=>ij ix T A F (W ρ) ρ):=
 (sv Lk hc hi iT.MC (cG hs)).weak fun σ H Q q=>xw hT q
def sE(r:Rs Out):Rs Tr:=r.bind fun o=>match o with
 |.nx _=>.ok .dv
 |.ret t=>.ok t
 |_=>.bad
theorem uh.Xn {P:Program}{w:World}{K:PySem.W.Frag}{mg:Str->Option Value}{base:Heap}{x qual:Str}{st:Stmt}{f:Addr}{fd:FuncData}{N ps:List Str}{k:Nat}{h:List Tr->Rs Tr}(Fn:uh K x qual st f fd)(S:eB N ps (aD st))(len:∀ts t,h ts=.ok t->ts.length=ps.length)
  (hZ:∀(dw:Value) (A:Around) (outer:List Env) (s:Shared) (H:Hp) (E:XK),dC k (A.deeper (envOfC qual (aD st) s.heap.objs.size f dw))->
   ∃G,kF (j3 qg P w K mg base N qual (aD st) f dw A outer s H E).CN (dy st) (tS (j3 qg P w K mg base N qual (aD st) f dw A outer s H E).CN G)/\∀ts t,h ts=.ok t->sE (G (startT N.length ts))=.ok t):hX P w K mg base qg (k+1) f fd ps (spT K h):=by
 refine Fn.ok S (fun vs H Q E q=>?_) (fun dw A outer s H vs Q E hr q=>?_)
 ·obtain⟨B,ts,hb,r,t,e,_⟩:=q;rw[r.length];exact len ts t e
 ·obtain⟨B,ts,hb,r,t,e,q⟩:=q;obtain⟨G,hG,hE⟩:=hZ dw A outer s H E hr;refine⟨_,hG,B,B,H,B,startT N.length ts,dg.refl hb pB.refl,a_.start r,?_⟩;have e1:=hE ts t e;cases eo:G (startT N.length ts)with
  |ok o=>
   rw[eo]at e1;cases o with
   |nx ρ=>cases e1;exact fun bM B' H' si r'=>q .dv H' si.same .dv
   |ret u=>cases e1;exact fun v B' H' si r'=>q v H' si.same r'
   |_=>cases e1
  |_=>rw[eo]at e1;cases e1
end
end L2
namespace L2
open PySem PySem.Spec PyProof.Rows
section
variable {X:Cx}
theorem GJ:ux X (binaryOp .Add) (fun x y H Q=>∃(a b:Addr) (xs ys:List V),x=.ref a/\y=.ref b/\kG X.K H a xs/\kG X.K H b ys/\xs.length+ys.length<=sizeLine/\(xs=[]->Q (.ref b) H)/\(ys=[]->Q (.ref a) H)/\∀p,H p=none->Q (.ref p) (upd H p (.tup (xs++ys)))):=by
 intro pins s σ H x y v u Q I rx ry h;obtain⟨a,b,xs,ys,rfl,rfl,ha,hb,hz,q1,q2,q3⟩:=h;by_cases hx:xs=[]
 ·subst hx;cases(show v=Value.ref a from rx);cases(show u=Value.ref b from ry);obtain⟨i1,r1,p1,_⟩:=I.tuple ha;obtain⟨i2,r2,p2,_⟩:=I.tuple hb;cases r1;obtain⟨dd,n,sl,h1⟩:=uJ p1;obtain⟨FJ,n2,Ig,h2⟩:=uJ p2;exact concat_meets ⟨_,h1,rfl⟩ ⟨_,h2,rfl⟩ noFill_tuple_add seq_tuple_add qT qS (qR _ _) (tuple_addW0 a b _ _ n n2 dd FJ sl Ig rfl) ⟨h1,h2,⟨.ref b,H,I,rfl,q1 rfl⟩⟩
 ·exact Gf pins s σ H _ _ v u Q I rx ry ⟨a,b,xs,ys,rfl,rfl,ha,hb,hx,hz,q2,fun _ p hp=>q3 p hp⟩
theorem Rep.up {K:PySem.W.Frag}{B:bN}{H:Hp}{v:V}{t:Tr}(r:Rep K (aN B H) v t):Rep K (raw B H) v t:=r.same vH
theorem kG.up {K:PySem.W.Frag}{B:bN}{H:Hp}{a:Addr}{xs:List V}(h:kG K (aN B H) a xs):kG K H a xs:=aw.tup aK h
theorem gm{B:bN}{H:Hp}{a:Addr}{o:HO}(h:aN B H a=some o):H a=some o:=aK _ _ h
theorem Rep.DO {K:PySem.W.Frag}{B:bN}{H:Hp}{p:Addr}{vs:List V}{ts:List Tr}(hb:HB B H)(hp:H p=none)(r:aJ K (aN B H) vs ts):Rep K (aN B (upd H p (.tup vs))) (.ref p) (.tup ts):=.tup (hb.new hp) (r.same (aT (aw.upd hp)))
theorem Rep.vI {K:PySem.W.Frag}{B:bN}{H:Hp}{p:Addr}{vs:List V}{ts:List Tr}(hb:HB B H)(hp:H p=none)(r:aJ K (aN B H) vs ts):Rep K (aN B (upd H p (.lst vs))) (.ref p) (.lst ts):=.lst (hb.new hp) (r.same (aT (aw.upd hp)))
theorem xx{K:PySem.W.Frag}{H:Vw}{ts:List Tr}(h:aJ K H [] ts):ts=[]:=by cases h;rfl
theorem Kh{a b:Str}(h:a.length+b.length<=iB):(a++b).length<=iB:=by rw[PySem.Str.length_append];exact h
def xy:Tr->Tr->Rs Tr
 |.int i,.int j=>.ok (.int (i+j))
 |.str a,.str b=>if a.length+b.length<=iB then .ok (.str (a++b))else .bad
 |.tup a,.tup b=>if a.length+b.length<=ik then .ok (.tup (a++b))else .bad
 |.lst a,.lst b=>if a.length+b.length<=ik then .ok (.lst (a++b))else .bad
 |_,_=>.bad
theorem eV{α:Type}{H:Hp}{c:Prop}[Decidable c]{t:α}{k:α->Prop}(h:Fi X H (if c then Rs.ok t else .bad) k):c/\k t:=by
 by_cases hc:c
 ·rw[ab hc]at h;exact⟨hc,h⟩
 ·rw[ae hc]at h;exact h.elim
theorem Am:wI X (binaryOp .Add) xy:=by
 intro pins s σ H x y v u Q I rx ry ⟨B,tx,ty,hb,r1,r2,q⟩;unfold xy at q;split at q
 ·exact Jy pins s σ H _ _ v u Q I rx ry ⟨_,_,r1.int_inv,r2.int_inv,q _ H (aw.refl H) (.int _)⟩
 ·have f:=eV q;exact yS pins s σ H _ _ v u Q I rx ry ⟨_,_,r1.str_inv.1,r2.str_inv.1,aZ f.1 nE,f.2 _ H (aw.refl H) (.str _ (Kh f.1))⟩
 ·have f:=eV q;obtain⟨a,as,e1,h1,GK⟩:=r1.eC;obtain⟨b,bs,e2,h2,MD⟩:=r2.eC;exact GJ pins s σ H _ _ v u Q I rx ry ⟨_,_,_,_,e1,e2,h1.up,h2.up,by rw[GK.length,MD.length,<-h9];exact f.1,fun e=>f.2 _ H (aw.refl H) (by subst e;rw[xx GK,<-e2];exact r2),fun e=>f.2 _ H (aw.refl H) (by subst e;rw[xx MD,dq,<-e1];exact r1),fun p hp=>f.2 _ _ (aw.upd hp) (.DO hb hp (GK.append MD))⟩
 ·have f:=eV q;obtain⟨a,as,e1,h1,GK⟩:=r1.lst_inv;obtain⟨b,bs,e2,h2,MD⟩:=r2.lst_inv;exact JW pins s σ H _ _ v u Q I rx ry ⟨_,_,_,_,e1,e2,gm h1,gm h2,by rw[GK.length,MD.length,<-h9];exact f.1,fun p hp=>f.2 _ _ (aw.upd hp) (.vI hb hp (GK.append MD))⟩
 ·exact(show False from q).elim
def nG:Tr->Tr->Rs Tr
 |.int i,.int j=>if 0<j then .ok (.int (i % j))else .bad
 |_,_=>.bad
theorem uO:wI X (binaryOp .Mod) nG:=by
 intro pins s σ H x y v u Q I rx ry ⟨B,tx,ty,hb,r1,r2,q⟩;unfold nG at q;split at q
 ·have f:=eV q;exact JA pins s σ H _ _ v u Q I rx ry ⟨_,_,r1.int_inv,r2.int_inv,f.1,f.2 _ H (aw.refl H) (.int _)⟩
 ·exact(show False from q).elim
def pC(i j:Int):Prop:=(-18446744073709551616<i/\i<18446744073709551616)\/(-18446744073709551616<j/\j<18446744073709551616)
theorem pC.cm {i j:Int}(h:pC i j):Dg i j:=by
 unfold pC at h;unfold Dg;omega
instance (i j:Int):Decidable (pC i j):=by unfold pC;infer_instance
def ui:Tr->Tr->Rs Tr
 |.int i,.int j=>if pC i j then .ok (.int (i*j))else .bad
 |.str z,.int n=>if 0<=n/\n<=1000/\z.length<=1000 then .ok (.str (Txt.mul z n))else .bad
 |.lst ts,.int n=>if 0<=n/\n<=1000/\ts.length*n.toNat<=ik then .ok (.lst (List.replicate n.toNat ts).flatten)else .bad
 |_,_=>.bad
theorem GL:ux X (binaryOp .Mult) (fun x y H Q=>∃(l:Addr) (k:Int) (xs:List V),x=.ref l/\y=.int k/\H l=some (.lst xs)/\-(2 ^63)<=k/\k<2 ^63/\xs.length*k.toNat<=sizeLine/\∀p,H p=none->Q (.ref p) (upd H p (.lst (List.replicate k.toNat xs).flatten))):=JX
theorem GN{z:Str}{n:Int}(h0:0<=n)(h1:n<=1000)(hz:z.length<=1000):(Txt.mul z n).length<=iB:=by
 have e:=PyProof.Rows.len_mul z n;split at e
 ·have:((Txt.mul z n).length:Int)=0:=e;unfold iB;omega
 ·have h2:(z.length:Int)*n<=1000*1000:=Int.mul_le_mul (by omega) h1 h0 (by decide);have e':((Txt.mul z n).length:Int)=(z.length:Int)*n:=e;unfold iB;omega
theorem DP:wI X (binaryOp .Mult) ui:=by
 intro pins s σ H x y v u Q I rx ry ⟨B,tx,ty,hb,r1,r2,q⟩;unfold ui at q;split at q
 ·have f:=eV q;exact Jz pins s σ H _ _ v u Q I rx ry ⟨_,_,r1.int_inv,r2.int_inv,f.1.cm,f.2 _ H (aw.refl H) (.int _)⟩
 ·have f:=eV q;exact Gw pins s σ H _ _ v u Q I rx ry ⟨_,_,r1.str_inv.1,r2.int_inv,PyProof.Rows.mulOk_of 1000 1000 f.1.2.2 f.1.2.1 (Int.le_trans (by decide) f.1.1) (by decide) (by decide),f.2 _ H (aw.refl H) (.str _ (GN f.1.1 f.1.2.1 f.1.2.2))⟩
 ·have f:=eV q;obtain⟨a,as,e1,h1,GK⟩:=r1.lst_inv;exact GL pins s σ H _ _ v u Q I rx ry ⟨_,_,_,e1,r2.int_inv,gm h1,Int.le_trans (by decide) f.1.1,Int.lt_of_le_of_lt f.1.2.1 (by decide),by rw[GK.length,<-h9];exact f.1.2.2,fun p hp=>f.2 _ _ (aw.upd hp) (.vI hb hp (GK.rep _))⟩
 ·exact(show False from q).elim
end
end L2
namespace L2
open PySem PySem.Spec PyProof.Rows
mutual
def eqT:Tr->Tr->Bool
 |.dv,.dv=>true
 |.bl a,.bl b=>a==b
 |.bl a,.int b=>(if a then 1 else 0)==b
 |.int a,.bl b=>a==(if b then 1 else 0)
 |.int a,.int b=>a==b
 |.str a,.str b=>a==b
 |.tup a,.tup b=>pU a b
 |.lst a,.lst b=>pU a b
 |_,_=>false
def pU:List Tr->List Tr->Bool
 |[],[]=>true
 |x::xs,y::ys=>eqT x y&&pU xs ys
 |_,_=>false
end
mutual
def kR:Tr->Bool
 |.dv=>true
 |.bl _=>true
 |.int _=>true
 |.str _=>true
 |.tup ts=>ip ts
 |.lst ts=>ip ts
 |_=>false
def ip:List Tr->Bool
 |[]=>true
 |t::ts=>kR t&&ip ts
end
mutual
def dT:Tr->Nat
 |.tup ts=>t9 ts+1
 |.lst ts=>t9 ts+1
 |_=>0
def t9:List Tr->Nat
 |[]=>0
 |t::ts=>max (dT t) (t9 ts)
end
theorem gb:∀{ts:List Tr},ip ts=true->∀t∈ts,kR t=true
 |[],_,t,h=>nomatch h
 |u::us,h,t,m=>by
  rw[ip,aE]at h;rcases a8.mp m with rfl|m
  ·exact h.1
  ·exact gb h.2 t m
theorem nH:∀{ts:List Tr},∀t∈ts,dT t<=t9 ts
 |[],t,h=>nomatch h
 |u::us,t,m=>by
  rw[t9];rcases a8.mp m with rfl|m
  ·exact Nat.le_max_left _ _
  ·exact aZ (nH t m) (Nat.le_max_right _ _)
theorem nJ:∀(xs ys:List Tr),((List.range (min xs.length ys.length)).all (fun j=>eqT (xs.getD j .dv) (ys.getD j .dv))&&xs.length==ys.length)=pU xs ys
 |[],[]=>rfl
 |[],y::ys=>rfl
 |x::xs,[]=>rfl
 |x::xs,y::ys=>by
  have ih:=nJ xs ys;rw[pU,<-ih,bb,bb,Nat.succ_min_succ,List.range_succ_eq_map,d_,List.all_map,Bool.and_assoc];congr 1;have e1:(xs.length+1==ys.length+1)=(xs.length==ys.length):=by rw[m6,g9,g9];omega
  rw[e1]
  rfl
section
variable {A:Around}{s:Shared}
theorem An{v u:Value}{k:Bool}(hv:∀b t,v≠Value.float b t)(hs:v=u->k=true)(h:SeqAt.RcAt A s v u k):SeqAt.EqAt A s v u k:=fun prog w E Q hq=>by
 unfold eqBool;refine cu ?_
 refine fV (fun uj=>?_) (fun _=>?_)
 ·rw[hs (eq_of_beq uj)]at hq;exact aa (hW (af hq))
 ·cases v with
  |float b t=>exact absurd rfl (hv b t)
  |_=>exact aa (h prog w E _ (m4 hq))
end
section
variable {X:Cx}{pins:List (Addr×Obj)}{σ:St}{H:Hp}{y_:Addr->Option Nat}{s:Shared}
theorem pF(I:Inv X pins σ H s){a:Addr}{vs ws:List V}(h1:kG X.K H a vs)(h2:H a=some (.lst ws)):False:=by
 obtain⟨_,_,⟨o,e,c,_⟩,_⟩:=I.tuple h1;obtain⟨_,aV,n,_,e2⟩:=I.bV a _ h2;rw[e]at e2;cases e2;exact absurd c (by show¬(Value.type "list"=.type "tuple");decide+kernel)
def vT:V->Tr
 |.dv=>.dv
 |.bl b=>.bl b
 |.int i=>.int i
 |.str z=>.str z
 |_=>.at 0
theorem kT{K:PySem.W.Frag}{W:Vw}{x:V}{t:Tr}(r:Rep K W x t)(p:kR t=true):(∃ts,t=.tup ts)\/(∃ts,t=.lst ts)\/t=vT x:=by
 cases r<;>first|(cases p;done)|exact .inr (.inr rfl)|exact .inl ⟨_,rfl⟩|exact .inr (.inl ⟨_,rfl⟩)
theorem nK{K:PySem.W.Frag}{W:Vw}{x:V}{t t':Tr}(e:t=vT x)(p:kR t=true)(p':kR t'=true)(r':Rep K W x t'):t=t':=by
 rcases kT r' p' with⟨ts,rfl⟩|⟨ts,rfl⟩|e'
 ·obtain⟨a,_,rfl,_⟩:=r'.eC;rw[e]at p;cases p
 ·obtain⟨a,_,rfl,_⟩:=r'.lst_inv;rw[e]at p;cases p
 ·rw[e,e']
theorem Ap(I:Inv X pins σ H s):∀(n:Nat) {x:V} {t t':Tr},dT t<=n->kR t=true->kR t'=true->Rep X.K (⟨H,y_⟩:Vw) x t->Rep X.K (⟨H,y_⟩:Vw) x t'->t=t':=by
 intro n
 induction n with
 |zero=>
  intro x t t' hd p p' r r';rcases kT r p with⟨ts,rfl⟩|⟨ts,rfl⟩|e
  ·exact absurd hd (Nat.not_succ_le_zero _)
  ·exact absurd hd (Nat.not_succ_le_zero _)
  ·exact nK e p p' r'
 |succ n ih=>
  intro x t t' hd p p' r r';have go:∀{vs:List V} {ts oN:List Tr},t9 ts<=n->ip ts=true->ip oN=true->aJ X.K (⟨H,y_⟩:Vw) vs ts->aJ X.K (⟨H,y_⟩:Vw) vs oN->ts=oN:=by
   intro vs ts oN k1 k2 k3;have h1:=fun t m=>aZ (nH (ts:=ts) t m) k1;have h2:=gb k2;have h3:=gb k3
   clear hd p p' r r' k1 k2 k3
   induction vs generalizing ts oN with
   |nil=>intro q q';cases q;cases q';rfl
   |cons v vs Xo=>
    intro(.cons qh qr) (.cons Xp Xq);rw[List.forall_mem_cons]at h1 h2 h3;rw[ih h1.1 h2.1 h3.1 qh Xp,Xo h1.2 h2.2 h3.2 qr Xq]
  rcases kT r p with⟨ts,rfl⟩|⟨ts,rfl⟩|e
  ·rcases kT r' p' with⟨oN,rfl⟩|⟨oN,rfl⟩|e
   ·obtain⟨a,vs,rfl,h,rr⟩:=r.eC;obtain⟨_,GO,e,h',zc⟩:=r'.eC;cases e;cases I.uv h h';rw[go (Nat.le_of_succ_le_succ hd) p p' rr zc]
   ·obtain⟨a,vs,rfl,h,rr⟩:=r.eC;obtain⟨_,GO,e,h',zc⟩:=r'.lst_inv;cases e;exact(pF I h h').elim
   ·exact(nK e p' p r).symm
  ·rcases kT r' p' with⟨oN,rfl⟩|⟨oN,rfl⟩|e
   ·obtain⟨a,vs,rfl,h,rr⟩:=r.lst_inv;obtain⟨_,GO,e,h',zc⟩:=r'.eC;cases e;exact(pF I h' h).elim
   ·obtain⟨a,vs,rfl,h,rr⟩:=r.lst_inv;obtain⟨_,GO,e,h',zc⟩:=r'.lst_inv;cases e;cases h.symm.trans h';rw[go (Nat.le_of_succ_le_succ hd) p p' rr zc]
   ·exact(nK e p' p r).symm
  ·exact nK e p p' r'
mutual
theorem kU:∀{t:Tr},kR t=true->eqT t t=true
 |.dv,_=>rfl
 |.bl b,_=>by rw[eqT];exact bD b
 |.int i,_=>by rw[eqT];exact bD i
 |.str z,_=>by rw[eqT];exact bD z
 |.tup ts,h=>by rw[eqT];rw[kR]at h;exact oO h
 |.lst ts,h=>by rw[eqT];rw[kR]at h;exact oO h
 |.ty _,h=>by cases h
 |.jz _,h=>by cases h
 |.lV _,h=>by cases h
 |.at _,h=>by cases h
 |.aI _,h=>by cases h
 |.ob _ _,h=>by cases h
 |.DE _,h=>by cases h
theorem oO:∀{ts:List Tr},ip ts=true->pU ts ts=true
 |[],_=>rfl
 |t::ts,h=>by
  rw[ip,aE]at h;rw[pU,kU h.1,oO h.2]
  rfl
end
theorem lI{α:Type}{l:List α}{j:Nat}{x d:α}(h:l[j]?=some x):l.getD j d=x:=by rw[bz,h];rfl
inductive Sh(K:PySem.W.Frag)(G:Vw)(h:Heap):Tr->Value->Prop
 |dv:Sh K G h .dv .none
 |bl (b:Bool):Sh K G h (.bl b) (.bool b)
 |int (b:Int) (w:Tok):Sh K G h (.int b) (.int b w)
 |str (b:Str) (w:Tok):Sh K G h (.str b) (.str b w)
 |tup {a:Addr} {vs:List V} {ts:List Tr} {us:List Value} (q:h.IsTuple a us.toArray) (rr:aJ K G vs ts) (rv:Vals vs us):Sh K G h (.tup ts) (.ref a)
 |lst {a:Addr} {vs:List V} {ts:List Tr} {us:List Value} (q:h.IsList a us.toArray) (rr:aJ K G vs ts) (rv:Vals vs us):Sh K G h (.lst ts) (.ref a)
theorem vJ(I:Inv X pins σ H s){x:V}{v:Value}{t:Tr}(p:kR t=true)(r:Rep X.K (⟨H,y_⟩:Vw) x t)(rx:RelV x v):Sh X.K ⟨H,y_⟩ s.heap t v:=by
 cases r with
 |dv=>cases(show v=Value.none from rx);exact .dv
 |bl b=>cases(show v=Value.bool b from rx);exact .bl b
 |int b=>obtain⟨w,rfl⟩:=(show∃t,v=Value.int b t from rx);exact .int b w
 |str b _=>obtain⟨w,rfl⟩:=(show∃t,v=Value.str b t from rx);exact .str b w
 |@tup a _ _ h rr=>cases(show v=Value.ref a from rx);obtain⟨_,rv,q,_⟩:=I.tuple (Rh h);exact .tup q rr rv
 |@lst a _ _ h rr=>cases(show v=Value.ref a from rx);obtain⟨_,rv,q,_⟩:=I.list (.of h);exact .lst q.isList rr rv
 |_=>cases p
theorem Aq(I:Inv X pins σ H s)(n:Nat){A:Around}{x y:V}{v u:Value}{t t':Tr}(hd:dT t<=n)(p:kR t=true)(p':kR t'=true)(r:Rep X.K (⟨H,y_⟩:Vw) x t)(r':Rep X.K (⟨H,y_⟩:Vw) y t')(rx:RelV x v)(ry:RelV y u)(q:SeqAt.RcAt A s v u (eqT t t')):SeqAt.EqAt A s v u (eqT t t'):=by
 refine An (fun b t e=>?_) (fun e=>?_) q
 ·subst e;cases r<;>first|(obtain⟨_,z⟩:=rx;cases z;done)|(cases rx;done)
 subst e;rw[rx.inj ry]at r;rw[<-Ap I n hd p p' r r'];exact kU p
theorem Ar{K:PySem.W.Frag}{G:Vw}{A:Around}{v u:Value}{t t':Tr}(S:Sh K G s.heap t v)(S':Sh K G s.heap t' u)(hu:A.units<cLine):(SeqAt.RcAt A s v u (eqT t t')/\SeqAt.RcNeAt A s v u (!eqT t t'))\/∃ts oN,(t=.tup ts/\t'=.tup oN)\/(t=.lst ts/\t'=.lst oN):=by
 cases S<;>cases S'<;>first|exact .inr ⟨_,_,.inl ⟨rfl,rfl⟩⟩|exact .inr ⟨_,_,.inr ⟨rfl,rfl⟩⟩|(refine .inl ⟨?_,?_⟩<;>simp only[eqT,rX,fW]<;>with_reducible first|exact .none_none|exact .none_bool _|exact .none_int _ _|exact .none_str _ _|exact .none_tuple ‹_› hu|exact .none_list ‹_› hu|exact .bool_none _|exact .bool_bool _ _|exact .bool_int _ _ _|exact .bool_str _ _ _|exact .bool_tuple _ ‹_› hu|exact .bool_list _ ‹_› hu|exact .int_none _ _|exact .int_bool _ _ _|exact .int_int _ _ _ _|exact .int_str _ _ _ _|exact .int_tuple _ _ ‹_› hu|exact .int_list _ _ ‹_› hu|exact .str_none _ _|exact .str_bool _ _ _|exact .str_int _ _ _ _|exact .str_str _ _ _ _|exact .str_tuple _ _ ‹_› hu|exact .str_list _ _ ‹_› hu|exact .tuple_none ‹_› hu|exact .tuple_bool _ ‹_› hu|exact .tuple_int _ _ ‹_› hu|exact .tuple_str _ _ ‹_› hu|exact .tuple_list ‹_› ‹_› hu|exact .list_none ‹_› hu|exact .list_bool _ ‹_› hu|exact .list_int _ _ ‹_› hu|exact .list_str _ _ ‹_› hu|exact .list_tuple ‹_› ‹_› hu)
theorem Ki(I:Inv X pins σ H s):∀(n:Nat) {A:Around} {x y:V} {v u:Value} {t t':Tr},dT t<=n->kR t=true->kR t'=true->Rep X.K (⟨H,y_⟩:Vw) x t->Rep X.K (⟨H,y_⟩:Vw) y t'->RelV x v->RelV y u->A.units+n<cLine->SeqAt.RcAt A s v u (eqT t t')/\SeqAt.RcNeAt A s v u (!eqT t t'):=by
 intro n
 induction n with
 |zero=>
  intro A x y v u t t' hd p p' r r' rx ry hu;rcases Ar (vJ I p r rx) (vJ I p' r' ry) (A:=A) (by omega)with h|⟨_,_,⟨rfl,_⟩|⟨rfl,_⟩⟩
  ·exact h
  all_goals exact absurd hd (by rw[dT];omega)
 |succ n ih=>
  intro A x y v u t t' hd p p' r r' rx ry hu;have hv:A.units<cLine:=by omega
  have items:∀{vs GO:List V} {us oC:List Value} {ts oN:List Tr},t9 ts<=n->ip ts=true->ip oN=true->aJ X.K (⟨H,y_⟩:Vw) vs ts->aJ X.K (⟨H,y_⟩:Vw) GO oN->Vals vs us->Vals GO oC->∀(j:Nat) (h1:j<us.toArray.size) (h2:j<oC.toArray.size),
    SeqAt.EqAt A.in1 s us.toArray[j] oC.toArray[j] (eqT (ts.getD j .dv) (oN.getD j .dv)):=by
   intro vs GO us oC ts oN d1 q1 q2 rr zc rv FL j h1 h2;replace h1:j<us.length:=h1;replace h2:j<oC.length:=h2;have k1:=ay (Nat.lt_of_lt_of_eq h1 rv.length.symm);have k2:=ay (Nat.lt_of_lt_of_eq h2 FL.length.symm);obtain⟨t1,e1,p1⟩:=rr.BM k1;obtain⟨t2,e2,p2⟩:=zc.BM k2;obtain⟨w1,f1,g1⟩:=rv.get k1;obtain⟨w2,f2,g2⟩:=FL.get k2;rw[ay h1]at f1;rw[ay h2]at f2;rw[List.getElem_toArray,List.getElem_toArray,Option.some.inj f1,Option.some.inj f2,lI e1,lI e2];have m1:=bg e1;have q2:=gb q2 _ (bg e2);have q1:=gb q1 _ m1;have d:=aZ (nH _ m1) d1;exact Aq I n d q1 q2 p1 p2 g1 g2 (ih d q1 q2 p1 p2 g1 g2 (by show A.units+1+n<cLine;omega)).1
  have S:=vJ I p r rx;have S':=vJ I p' r' ry;rcases Ar S S' hv with h|⟨ts,oN,⟨rfl,rfl⟩|⟨rfl,rfl⟩⟩
  ·exact h
  all_goals
   rw[dT]at hd;have it:=fun{vs GO us oC}=>@items vs GO us oC _ _ (Nat.le_of_add_le_add_right hd) p p';have e:=nJ ts oN;rw[eqT]
  ·cases S with|tup q rr rv=>
   cases S' with|tup q' zc FL=>
   rw[<-e,<-rr.length,<-zc.length,rv.length,FL.length];exact⟨.tuples q q' hv (it rr zc rv FL),.tuples q q' hv (it rr zc rv FL)⟩
  cases S with|lst q rr rv=>
  cases S' with|lst q' zc FL=>
  have l:=rr.length;have l':=zc.length;rw[rv.length]at l;rw[FL.length]at l';by_cases hz:ts.length=oN.length
  ·rw[hz,Nat.min_self,bD,Bool.and_true,<-hz,<-l]at e;rw[<-e];exact⟨.lists q q' (by simp;omega) hv (it rr zc rv FL),.lists q q' (by simp;omega) hv (it rr zc rv FL)⟩
  ·rw[e8 hz,i_]at e;rw[<-e];exact⟨.lists_lengths q q' (by simp;omega) hv,.lists_lengths q q' (by simp;omega) hv⟩
end
section
variable {X:Cx}
def BR(a b:Tr):Rs Tr:=if kR a=true/\kR b=true/\dT a<=40 then .ok (.bl (eqT a b))else .bad
theorem DQ(hu:X.A.units+40<cLine):wI X (compareOp .Eq) BR:=by
 intro pins s σ H x y v u Q I rx ry ⟨B,tx,ty,hb,r1,r2,q⟩;obtain⟨⟨p1,p2,hd⟩,k⟩:=eV q;exact(Ki I 40 hd p1 p2 r1.up r2.up rx ry hu).1 _ _ _ _ ⟨.bl _,H,I,rfl,k _ H (aw.refl H) (.bl _)⟩
end
end L2
namespace L2
open PySem PySem.Spec PyProof.Rows
section
variable {X:Cx}{pins:List (Addr×Obj)}{σ:St}{H:Hp}{y_:Addr->Option Nat}{s:Shared}
theorem xA(I:Inv X pins σ H s)(n:Nat){A:Around}{x y:V}{v u:Value}{t t':Tr}(hd:dT t<=n)(p:kR t=true)(p':kR t'=true)(r:Rep X.K (⟨H,y_⟩:Vw) x t)(r':Rep X.K (⟨H,y_⟩:Vw) y t')(rx:RelV x v)(ry:RelV y u)(hu:A.units+n<cLine):SeqAt.EqAt A s v u (eqT t t'):=
 Aq I n hd p p' r r' rx ry (Ki I n hd p p' r r' rx ry hu).1
end
section
variable {X:Cx}
def j5(a b:Tr):Rs Tr:=if kR a=true/\kR b=true/\dT a<=40 then .ok (.bl (!eqT a b))else .bad
theorem BS(hu:X.A.units+40<cLine):wI X (compareOp .NotEq) j5:=by
 intro pins s σ H x y v u Q I rx ry ⟨B,tx,ty,hb,r1,r2,q⟩;obtain⟨⟨p1,p2,hd⟩,k⟩:=eV q;exact(Ki I 40 hd p1 p2 r1.up r2.up rx ry hu).2 _ _ _ _ ⟨.bl _,H,I,rfl,k _ H (aw.refl H) (.bl _)⟩
def VH:Tr->Tr->Rs Tr
 |.int i,.int j=>.ok (.bl (decide (i<j)))
 |.str a,.str b=>.ok (.bl (decide (a.cps.toList<b.cps.toList)))
 |_,_=>.bad
def ME:Tr->Tr->Rs Tr
 |.int i,.int j=>.ok (.bl (decide (j<i)))
 |_,_=>.bad
theorem Th:wI X (compareOp .Lt) VH:=by
 intro pins s σ H x y v u Q I rx ry ⟨B,tx,ty,hb,r1,r2,q⟩;unfold VH at q;split at q
 ·exact Ng pins s σ H _ _ v u Q I rx ry ⟨_,_,r1.int_inv,r2.int_inv,q _ H (aw.refl H) (.bl _)⟩
 ·exact BG pins s σ H _ _ v u Q I rx ry ⟨_,_,r1.str_inv.1,r2.str_inv.1,q _ H (aw.refl H) (.bl _)⟩
 ·exact(show False from q).elim
theorem Of:wI X (compareOp .Gt) ME:=by
 intro pins s σ H x y v u Q I rx ry ⟨B,tx,ty,hb,r1,r2,q⟩;unfold ME at q;split at q
 ·exact Nh pins s σ H _ _ v u Q I rx ry ⟨_,_,r1.int_inv,r2.int_inv,q _ H (aw.refl H) (.bl _)⟩
 ·exact(show False from q).elim
def xB(aA:List (Key×Tr))(k:Key):Option Tr:=(aA.find? fun kv=>decide (kv.1=k)).map (·.2)
def GP:Tr->Option Key
 |.int i=>some (.inl i)
 |.str z=>some (.inr z)
 |_=>none
theorem As{K:PySem.W.Frag}{H:Vw}{x:V}{t:Tr}{k:Key}(r:Rep K H x t)(e:GP t=some k):x=kV k:=by
 cases r with
 |int i=>cases e;rfl
 |str z h=>cases e;rfl
 |_=>cases e
theorem Au{K:PySem.W.Frag}{H:Vw}(k:Key):∀{ax:List (Key×V)} {aA:List (Key×Tr)},ax.map (·.1)=aA.map (·.1)->aJ K H (ax.map (·.2)) (aA.map (·.2))->(xB aA k=none/\lT ax k=none)\/∃t v,xB aA k=some t/\lT ax k=some v/\Rep K H v t
 |[],[],_,_=>.inl ⟨rfl,rfl⟩
 |[],_::_,e,_=>by cases e
 |_::_,[],e,_=>by cases e
 |(k1,v1)::ax,(k2,t2)::aA,e,r=>by
  rw[aC,aC]at e;injection e with e1 e2
  have qj:k1=k2:=e1;subst qj;cases r with
  |cons h r=>
   by_cases q:k1=k
   ·refine .inr ⟨t2,v1,?_,kI q,h⟩;unfold xB;rw[dY,bj (show(k1,t2).1=k from q)]
    rfl
   ·rw[kJ q];have e3:xB ((k1,t2)::aA) k=xB aA k:=by
     unfold xB;rw[dY,aX (show¬(k1,t2).1=k from q)]
    rw[e3];exact Au k e2 r
end
end L2
namespace L2
open PySem PySem.Spec PyProof.Rows
def BU{α:Type}:Option α->Rs α
 |some a=>.ok a
 |none=>.bad
def ze:Tr->Tr->Rs Tr
 |.tup ts,.int i=>BU (t7 ts i)
 |.lst ts,.int i=>BU (t7 ts i)
 |.str z,.int i=>(BU (t7 z.cps.toList i)).bind fun c=>.ok (.str ⟨#[c]⟩)
 |.jz ns,.int i=>(BU (t7 ns i)).bind fun n=>.ok (.int n)
 |.lV aA,t=>(BU (GP t)).bind fun k=>BU (xB aA k)
 |_,_=>.bad
theorem aJ.t7 {K:PySem.W.Frag}{H:Vw}{vs:List V}{ts:List Tr}{i:Int}{t:Tr}(r:aJ K H vs ts)(e:L2.t7 ts i=some t):∃v,L2.t7 vs i=some v/\Rep K H v t:=by
 unfold L2.t7 at e⊢;rw[r.length];cases q:yI ts.length i with
 |none=>rw[q]at e;cases e
 |some j=>
  rw[q]at e;obtain⟨v,e1,r1⟩:=r.get (show ts[j]?=some t from e);exact⟨v,e1,r1⟩
theorem fR{X:Cx}{H:Hp}{α:Type}{o:Option α}{k:α->Prop}(h:Fi X H (BU o) k):∃a,o=some a/\k a:=by
 cases o with
 |none=>exact h.elim
 |some a=>exact⟨a,rfl,h⟩
section
variable {X:Cx}{a b e:Expr}{pos:Pos}{F G:av->Rs Tr}
theorem GQ{α β:Type}(f:α->β)(xs:List α)(i:Int):L2.t7 (xs.map f) i=(L2.t7 xs i).map f:=by
 unfold L2.t7;rw[ak];cases yI xs.length i with
 |none=>rfl
 |some j=>show(xs.map f)[j]?=_;rw[aL];rfl
theorem GR(c:Nat):(⟨#[c]⟩:Str).length<=iB:=by show 1<=iB;decide
theorem GS{K:PySem.W.Frag}{B:bN}{H:Hp}{x y:V}{ty t:Tr}{aA:List (Key×Tr)}{k:Key}(r:Rep K (aN B H) x (.lV aA))(r2:Rep K (aN B H) y ty)(ek:GP ty=some k)(et:xB aA k=some t):∃a w,x=.ref a/\pR H a y (some w)/\Rep K (aN B H) w t:=by
 obtain⟨a,ax,e0,h,e,rr⟩:=r.Gy;refine⟨a,?_⟩;rcases Au k e rr with⟨h1,_⟩|⟨t',w,h1,h2,h3⟩
 ·cases et.symm.trans h1
 ·cases et.symm.trans h1;exact⟨w,e0,.inl ⟨ax,k,h.same aK,As r2 ek,h2.symm⟩,h3⟩
theorem Ti(hu:X.A.units+1<cLine):MA X (rT X ze):=by
 intro value slice pins s σ H x y v u Q I rx ry ⟨B,tx,ty,hb,r1,r2,q⟩ hs;unfold ze at q;split at q
 ·obtain⟨a,vs,e,h,rr⟩:=r1.eC;obtain⟨t,et,k⟩:=fR q;obtain⟨w,ew,lS⟩:=rr.t7 et;exact JQ value slice pins s σ H _ _ v u Q I rx ry ⟨_,_,_,w,e,r2.int_inv,h.up,ew,k w H (aw.refl H) lS⟩ hs
 ·obtain⟨a,vs,e,h,rr⟩:=r1.lst_inv;obtain⟨t,et,k⟩:=fR q;obtain⟨w,ew,lS⟩:=rr.t7 et;exact z9 value slice pins s σ H _ _ v u Q I rx ry ⟨_,_,_,w,e,r2.int_inv,.of (gm h),ew,k w H (aw.refl H) lS⟩ hs
 ·obtain⟨c,et,k⟩:=fR (Fi.bind q);exact JR value slice pins s σ H _ _ v u Q I rx ry ⟨_,_,c,r1.str_inv.1,r2.int_inv,aZ r1.str_inv.2 nE,et,k _ H (aw.refl H) (.str _ (GR c))⟩ hs
 ·obtain⟨n,et,k⟩:=fR (Fi.bind q);obtain⟨a,e,h⟩:=r1.Ah;exact z9 value slice pins s σ H _ _ v u Q I rx ry ⟨_,_,_,.int n,e,r2.int_inv,aw.seq aK h,by rw[GQ,et];rfl,k _ H (aw.refl H) (.int n)⟩ hs
 ·obtain⟨k,ek,qk⟩:=fR (Fi.bind q);obtain⟨t,et,qt⟩:=fR qk;obtain⟨a,w,rfl,g,lS⟩:=GS r1 r2 ek et;cases(show v=Value.ref a from rx);exact tail_any (pA I g) qO.lookup (oM hu I g ry fun w' s' I' rv=>⟨w,H,I',rv,qt w H (aw.refl H) lS⟩) hs
 ·exact(show False from q).elim
theorem Tj(hu:X.A.units+1<cLine)(ha:PE X a (tP X F))(hb:PE X b (tP X G))(hs:qd b:=by exact fun _ _=>rfl):PE X (.Subscript a b pos) (tP X fun ρ=>cM ze (F ρ) (G ρ)):=
 (Ih (Ti hu) ha hb hs).weak fun _ _ _ q=>kO q
inductive tO(X:Cx)(P:av->Rs (Option Int))(σ:St)(H:Hp)(Q:Option Int->Hp->Prop):Prop
 |mk (B:bN) (ρ:av):HB B H->a_ X.K B H σ ρ->(Fi X H (P ρ) fun o=>∀H',aw H H'->Q o H')->tO X P σ H Q
def Og(r:Rs Tr):Rs (Option Int):=r.bind fun t=>match t with
 |.int i=>.ok (some i)
 |_=>.bad
theorem Kj:PO X none (tO X fun _=>.ok none):=fun pins s σ H Q I ⟨B,ρ,hb,r,q⟩=>Gd pins s σ H Q I (q H (aw.refl H))
theorem Kk(h:PE X e (tP X F)):PO X (some e) (tO X fun ρ=>Og (F ρ)):=fun pins s σ H Q I ⟨B,ρ,hb,r,q⟩=>
 Ge h pins s σ H Q I ⟨B,ρ,hb,r,q.bind.mono fun t qt v H' s' r'=>by
  split at qt
  ·exact⟨_,r'.int_inv,qt H' s'⟩
  ·exact qt.elim⟩
def vK{α:Type}(xs:List α)(lo hi:Option Int):List α:=(xs.drop (HT.fb xs.length 0 lo)).take (HT.fb xs.length xs.length hi - HT.fb xs.length 0 lo)
theorem aJ.cut {K:PySem.W.Frag}{H:Vw}{vs:List V}{ts:List Tr}(r:aJ K H vs ts)(lo hi:Option Int):aJ K H (xf vs lo hi) (vK ts lo hi):=by
 unfold xf vK;rw[r.length];exact(r.drop _).take _
def jI(n:Nat)(lo hi:Option Int):Bool:=HT.fb n 0 lo==0&&HT.fb n n hi==n
def Tn:Tr->Option Int->Option Int->Rs Tr
 |.tup ts,lo,hi=>if jI ts.length lo hi=true then .bad else .ok (.tup (vK ts lo hi))
 |.lst ts,lo,hi=>.ok (.lst (vK ts lo hi))
 |.str z,lo,hi=>if(Txt.slice z lo hi).length<=iB then .ok (.str (Txt.slice z lo hi))else .bad
 |_,_,_=>.bad
inductive VI(X:Cx)(x:V)(lo:Option Int)(hi:Option Int)(H:Hp)(Q:VK):Prop
 |mk (B:bN) (t:Tr):HB B H->Rep X.K (aN B H) x t->(Fi X H (Tn t lo hi) fun t=>∀v H',aw H H'->Rep X.K (aN B H') v t->Q v H')->VI X x lo hi H Q
theorem To:Mz X (VI X):=by
 intro pins s σ H x v vl vu lo hi sl Q I rx hs pl pu ⟨B,t,hb,r,q⟩;cases r with
 |tup h rr=>
  rename_i a vs ts;have h:=Rh (K:=X.K) h;have q':Fi X H (if jI ts.length lo hi=true then Rs.bad else .ok (Tr.tup (vK ts lo hi))) _:=q;by_cases hw:jI ts.length lo hi=true
  ·rw[ab hw]at q';exact(show False from q').elim
  ·rw[ae hw]at q';refine JP pins s σ H _ v vl vu lo hi sl Q I rx hs pl pu ⟨_,_,rfl,h.up,fun z=>hw ?_,fun p hp=>q' _ _ (aw.upd hp) (.DO hb hp (rr.cut lo hi))⟩;rw[rr.length]at z;unfold jI;rw[z.1,z.2,bD,bD];rfl
 |lst h rr=>exact Gh pins s σ H _ v vl vu lo hi sl Q I rx hs pl pu ⟨_,_,rfl,.of (gm h),fun p hp=>q _ _ (aw.upd hp) (.vI hb hp (rr.cut lo hi))⟩
 |str z hz=>
  obtain⟨h1,k⟩:=eV q;exact J8 pins s σ H _ v vl vu lo hi sl Q I rx hs pl pu ⟨z,rfl,aZ hz nE,k _ H (aw.refl H) (.str _ h1)⟩
 |_=>exact(show False from q).elim
variable {P1 P2:av->Rs (Option Int)}{lo hi:Option Expr}{p2:Pos}
def GU:Tr->Tr->Rs Tr
 |.tup ts,.int i=>if i=-1 then .ok (.tup ts.reverse)else .bad
 |_,_=>.bad
theorem Oh{k:Expr}(he:PE X e (tP X F))(hk:PE X k (tP X G)):PE X (.Subscript e (.Slice none none (some k) p2) pos) (tP X fun ρ=>cM GU (F ρ) (G ρ)):=
 (J9 he hk).weak fun σ H Q ⟨B,ρ,hb,r,q⟩=>⟨B,ρ,hb,r,q.bind.mono fun x qx v H1 s1 r1=>⟨B,ρ,hb.same s1,r.same s1,(qx.bind.same s1).mono fun y qy u H2 s2 r2=>by
  unfold GU at qy;split at qy
  ·have f:=eV qy;obtain⟨_,_,e,h,rr⟩:=(r1.same (aT s2)).eC;exact⟨_,_,e,by rw[r2.int_inv,f.1],h.up,fun p hp=>f.2 _ _ ((s1.trans s2).Gx ((s1.trans s2).free hp)) (.DO (hb.same (s1.trans s2)) hp rr.reverse)⟩
  ·exact qy.elim⟩⟩
variable {es:List Expr}{L:av->Rs (List Tr)}
def GV:List Tr->Rs Tr
 |[.str z]=>.ok (.int (z.length:Int))
 |[.tup ts]=>.ok (.int (ts.length:Int))
 |[.lst ts]=>.ok (.int (ts.length:Int))
 |[.jz ns]=>.ok (.int (ns.length:Int))
 |_=>.bad
theorem Oi:jl X (.builtin "len") GV:=by
 intro pins s σ H xs us Q I rv ⟨B,ts,hb,r,q⟩;unfold GV at q;split at q
 ·obtain⟨x,e,r⟩:=h8 r;exact ny pins s σ H _ us Q I rv ⟨_,_,e,by rw[r.str_inv.1];exact⟨aZ r.str_inv.2 nE,rfl⟩,q _ H (aw.refl H) (.int _)⟩
 ·obtain⟨x,e,r⟩:=h8 r;obtain⟨a,vs,rfl,h,rr⟩:=r.eC;exact ny pins s σ H _ us Q I rv ⟨_,_,e,.inr ⟨_,h.up,rfl⟩,q _ H (aw.refl H) (by rw[rr.length];exact .int _)⟩
 ·obtain⟨x,e,r⟩:=h8 r;obtain⟨a,vs,rfl,h,rr⟩:=r.lst_inv;exact ny pins s σ H _ us Q I rv ⟨_,_,e,.inl ⟨_,.of (gm h),rfl⟩,q _ H (aw.refl H) (by rw[rr.length];exact .int _)⟩
 ·obtain⟨x,e,r⟩:=h8 r;obtain⟨a,rfl,h⟩:=r.Ah;exact ny pins s σ H _ us Q I rv ⟨_,_,e,.inl ⟨_,aw.seq aK h,rfl⟩,q _ H (aw.refl H) (by rw[ak];exact .int _)⟩
 ·exact(show False from q).elim
def cX:List Tr->Rs Tr
 |[.tup ts]=>.ok (.tup ts)
 |[.lst ts]=>.ok (.tup ts)
 |_=>.bad
theorem lJ:jl X (.type "tuple") cX:=by
 intro pins s σ H xs us Q I rv ⟨B,ts,hb,r,q⟩;unfold cX at q;split at q
 ·obtain⟨x,e,r⟩:=h8 r;obtain⟨a,vs,rfl,h,rr⟩:=r.fJ;exact lZ pins s σ H _ us Q I rv ⟨_,_,e,.inr ⟨.inl (.inl (gm h)),q _ H (aw.refl H) (.tup h rr)⟩⟩
 ·obtain⟨x,e,r⟩:=h8 r;obtain⟨a,vs,rfl,h,rr⟩:=r.lst_inv;exact lZ pins s σ H _ us Q I rv ⟨_,_,e,.inl ⟨.of (gm h),fun p hp=>q _ _ (aw.upd hp) (.DO hb hp rr)⟩⟩
 ·exact q.elim
variable {o:Expr}{name:Str}{apos gk:Pos}{id:String}{h:Str->List Tr->Rs Tr}
end
end L2
namespace L2
open PySem PySem.Spec PyProof.Rows
section
variable {X:Cx}{a e:Expr}{pos:Pos}{F:av->Rs Tr}
def Kl:Tr->Rs Tr
 |.int i=>.ok (.int (-i))
 |_=>.bad
theorem Oj(ha:PE X a (tP X F)):PE X (.UnaryOp .USub a pos) (tP X fun ρ=>(F ρ).bind Kl):=
 (Nd JB ha).weak fun σ H Q ⟨B,ρ,hb,r,q⟩=>⟨B,ρ,hb,r,q.bind.mono fun t qt v H' s' r'=>by
  cases r' with
  |int i=>exact⟨i,rfl,qt _ H' s' (.int _)⟩
  |_=>exact(show False from qt).elim⟩
end
theorem pV{k:Nat}{A:Around}(hr:dC k A):A.units+40<cLine:=by have:=hr.units;omega
def Iw(n m:Nat)(G:av->Rs Out)(ts:List Tr):Rs Tr:=if ts.length=n then sE (G (startT m ts))else .bad
theorem GW{n m:Nat}{G:av->Rs Out}{ts:List Tr}{t:Tr}(h:Iw n m G ts=.ok t):ts.length=n:=by
 unfold Iw at h;split at h
 ·assumption
 ·cases h
theorem Km{n m:Nat}{G:av->Rs Out}{ts:List Tr}{t:Tr}(h:Iw n m G ts=.ok t):sE (G (startT m ts))=.ok t:=by
 unfold Iw at h;split at h
 ·exact h
 ·cases h
end L2
namespace L2
open PySem PySem.Spec PyProof.Rows
structure BV(K:PySem.W.Frag)(H:Vw)(ax:List (Key×V))(aA:List (Key×Tr)):Prop where
 keys:ax.map (·.1)=aA.map (·.1)
 vals:aJ K H (ax.map (·.2)) (aA.map (·.2))
section
variable {K:PySem.W.Frag}{H H':Vw}
theorem BV.nil:BV K H [] []:=⟨rfl,.nil⟩
theorem BV.same {ax:List (Key×V)}{aA:List (Key×Tr)}(s:cD H H')(h:BV K H ax aA):BV K H' ax aA:=⟨h.keys,h.vals.same s⟩
end
section
variable {X:Cx}{a e o f:Expr}{pos apos gk:Pos}{F G E:av->Rs Tr}{keys:List (Option Expr)}{vals:List Expr}{P:av->Rs (List (Tr×Tr))}
variable {x:Str}{aA:List (Str×Tr)}{p:Pos}
def BW:List Tr->Rs (List Bool)
 |[]=>.ok []
 |.bl b::ts=>(BW ts).bind fun zs=>.ok (b::zs)
 |_=>.bad
theorem Av{K:PySem.W.Frag}{H:Vw}{H0:Hp}{k:List Bool->Prop}:∀{ts:List Tr} {vs:List V},aJ K H vs ts->Fi X H0 (BW ts) k->∃bs,k bs/\vs=bs.map V.bl
 |[],_,r,q=>by cases r;exact⟨[],q,rfl⟩
 |t::ts,_,r,q=>by
  cases r with
  |cons h r=>
   cases h with
   |bl b=>
    obtain⟨bs,k1,e⟩:=Av (k:=fun zs=>k (b::zs)) r (Fi.bind q);exact⟨b::bs,k1,by rw[e];rfl⟩
   |_=>exact(show False from q).elim
def xC:List Tr->Rs Tr
 |[.lst ts]=>(BW ts).bind fun bs=>.ok (.bl (bs.all id))
 |_=>.bad
theorem Ol(hc:X.calm=true):jl X (.builtin "all") xC:=by
 intro pins s σ H xs us Q I rv ⟨B,ts,hb,r,q⟩;unfold xC at q;split at q
 ·obtain⟨x,rfl,h⟩:=h8 r;obtain⟨a,vs,rfl,hl,rr⟩:=h.lst_inv;obtain⟨bs,k,rfl⟩:=Av rr (Fi.bind q);exact DC hc pins s σ H _ us Q I rv ⟨_,bs,rfl,.of (gm hl),k _ H (aw.refl H) (.bl _)⟩
 ·exact(show False from q).elim
end
end L2
namespace L2
open PySem
variable {K:PySem.W.Frag}{w:World}{es:List DictEntry}{ax:List (Str×Value)}{aA:List (Str×Tr)}
end L2
namespace L2
open PySem PySem.Spec PyProof.Rows
inductive Ao where
 |lst (ts:List Tr)|lV (aA:List (Key×Tr))|ins (x:Str) (fs:List (Str×Tr))|aI (aA:List (List Key×Tr))|GX (x:Str)|tb (x q:Str)
abbrev Ab:=List Ao
def nM(K:PySem.W.Frag)(B:bN)(H:Hp)(a:Addr):Ao->Prop
 |.lst ts=>B.hd a=true/\∃vs,H a=some (.lst vs)/\aJ K (aN B H) vs ts
 |.lV aA=>B.hd a=true/\∃ax,H a=some (.dK ax)/\BV K (aN B H) ax aA
 |.aI aA=>B.hd a=true/\∃ax,H a=some (.dT ax)/\ax.map (·.1)=aA.map (·.1)/\aJ K (aN B H) (ax.map (·.2)) (aA.map (·.2))
 |.ins x fs=>B.hd a=true/\∃dx wH,H a=some (.ins (clsAt K x) dx wH)/\H dx=some (.own a)/\B.ix dx=none/\wH.map (·.1)=fs.map (·.1)/\aJ K (aN B H) (wH.map (·.2)) (fs.map (·.2))
 |.tb x q=>B.hd a=true/\(∃c,PySem.W.tabIn K x=some (c,a))/\H a=some (.wF #[.str q 0])
 |.GX x=>B.hd a=true/\∃oe:Obj,H a=some (.ext fun h=>h.get? a=some oe)/\oe.cls=.ref (clsAt K x)
structure HA(K:PySem.W.Frag)(B:bN)(A:Ab)(H:Hp):Prop where
 hb:HB B H
 ob:∀i o,A[i]?=some o->∃a,B.ix a=some i/\nM K B H a o
 inj:∀a b i,B.ix a=some i->B.ix b=some i->a=b
 lt:∀a i,B.ix a=some i->i<A.length
structure Grows(B:bN)(H:Hp)(B':bN)(H':Hp):Prop where
 eR:cD (aN B H) (aN B' H')
 kp:∀b o,B.ix b=none->H b=some o->H' b=some o
 hd:∀b,B.ix b=none->B.hd b=true->B'.hd b=true
 nw:∀b i,B'.ix b=some i->B.ix b=none->H b=none
section
variable {K:PySem.W.Frag}{B B' B1 B2:bN}{H H' H1 H2:Hp}{A:Ab}
theorem nM.same {a:Addr}{o:Ao}(h:nM K B H a o)(s:aw H H'):nM K B H' a o:=by
 cases o with
 |lst ts=>obtain⟨h0,vs,h1,h2⟩:=h;exact⟨h0,vs,s _ _ h1,h2.same (aT s)⟩
 |lV aA=>obtain⟨h0,vs,h1,h2⟩:=h;exact⟨h0,vs,s _ _ h1,h2.same (aT s)⟩
 |aI aA=>obtain⟨h0,vs,h1,h2,h3⟩:=h;exact⟨h0,vs,s _ _ h1,h2,h3.same (aT s)⟩
 |GX x=>obtain⟨h0,oe,h1,h2⟩:=h;exact⟨h0,oe,s _ _ h1,h2⟩
 |tb x q=>obtain⟨h0,h1,h2⟩:=h;exact⟨h0,h1,s _ _ h2⟩
 |ins c fs=>obtain⟨h0,dx,wH,h1,h2,h3,h4,h5⟩:=h;exact⟨h0,dx,wH,s _ _ h1,s _ _ h2,h3,h4,h5.same (aT s)⟩
theorem nM.hd {a:Addr}{o:Ao}(h:nM K B H a o):B.hd a=true:=by cases o<;>exact h.1
theorem nM.mem {a:Addr}{o:Ao}(h:nM K B H a o):∃x,H a=some x/\(∀vs,x≠ .tup vs)/\∀ob u,x≠ .gI ob u:=by
 cases o with
 |lst ts=>obtain⟨h0,vs,h1,h2⟩:=h;exact⟨_,h1,(fun _ e=>by cases e),(fun _ _ e=>by cases e)⟩
 |lV aA=>obtain⟨h0,vs,h1,h2⟩:=h;exact⟨_,h1,(fun _ e=>by cases e),(fun _ _ e=>by cases e)⟩
 |aI aA=>obtain⟨h0,vs,h1,h2⟩:=h;exact⟨_,h1,(fun _ e=>by cases e),(fun _ _ e=>by cases e)⟩
 |GX x=>obtain⟨h0,oe,h1,h2⟩:=h;exact⟨_,h1,(fun _ e=>by cases e),(fun _ _ e=>by cases e)⟩
 |tb x q=>obtain⟨h0,h1,h2⟩:=h;exact⟨_,h2,(fun _ e=>by cases e),(fun _ _ e=>by cases e)⟩
 |ins c fs=>obtain⟨h0,dx,wH,h1,h2⟩:=h;exact⟨_,h1,(fun _ e=>by cases e),(fun _ _ e=>by cases e)⟩
theorem HA.same (h:HA K B A H)(s:aw H H'):HA K B A H':=
 ⟨h.hb.same s,fun i o e=>by obtain⟨a,h1,h2⟩:=h.ob i o e;exact⟨a,h1,h2.same s⟩,h.inj,h.lt⟩
theorem HA.get (h:HA K B A H){a:Addr}{i:Nat}{o:Ao}(e:B.ix a=some i)(q:A[i]?=some o):nM K B H a o:=by
 obtain⟨b,h1,h2⟩:=h.ob i o q;rw[h.inj a b i e h1];exact h2
theorem HA.ex (h:HA K B A H){a:Addr}{i:Nat}(e:B.ix a=some i):∃o,A[i]?=some o/\nM K B H a o:=by
 have l:=h.lt a i e;exact⟨A[i],ay l,h.get e (ay l)⟩
theorem HA.free (h:HA K B A H){p:Addr}(hp:H p=none):B.ix p=none:=by
 cases e:B.ix p with
 |none=>rfl
 |some i=>
  obtain⟨o,_,q⟩:=h.ex e;obtain⟨x,e2,_⟩:=q.mem;rw[hp]at e2;cases e2
theorem Grows.of (s:aw H H'):Grows B H B H':=⟨aT s,fun b o _ e=>s b o e,fun _ _ e=>e,fun b i e n=>by rw[n]at e;cases e⟩
theorem Grows.refl:Grows B H B H:=.of (aw.refl H)
theorem Grows.trans (hb:HB B H)(a:Grows B H B1 H1)(b:Grows B1 H1 B2 H2):Grows B H B2 H2:=by
 have key:∀c,B.ix c=none->(∃o,H c=some o)->B1.ix c=none:=fun c n ⟨o,e⟩=>by
  cases q:B1.ix c with
  |none=>rfl
  |some i=>have:=a.nw c i q n;rw[e]at this;cases this
 refine⟨a.eR.trans b.eR,fun c o n e=>b.kp c o (key c n ⟨o,e⟩) (a.kp c o n e),fun c n e=>?_,fun c i e n=>?_⟩
 ·exact b.hd c (key c n (let⟨o,q,_⟩:=hb c e;⟨o,q⟩)) (a.hd c n e)
 ·cases q:B1.ix c with
  |none=>
   have:=b.nw c i e q;cases q2:H c with
   |none=>rfl
   |some o=>rw[a.kp c o n q2]at this;cases this
  |some j=>exact a.nw c j q n
def nN(B:bN)(p:Addr)(i:Nat):bN:=⟨fun b=>B.hd b||b==p,fun b=>if b=p then some i else B.ix b⟩
theorem qm{p:Addr}{i:Nat}:(nN B p i).hd p=true:=by show(B.hd p||p==p)=true;rw[bD,Bool.or_true]
theorem iC{p:Addr}{i:Nat}:(nN B p i).ix p=some i:=ab rfl
theorem fS{p b:Addr}{i:Nat}(h:b≠p):(nN B p i).ix b=B.ix b:=ae h
theorem kX{p b:Addr}{i:Nat}(h:b≠p):(nN B p i).hd b=B.hd b:=by show(B.hd b||b==p)=_;rw[e8 h,m9]
theorem DR{p:Addr}{i:Nat}(hp:H p=none)(hx:B.ix p=none)(s:aw H H'):cD (aN B H) (aN (nN B p i) H'):=⟨fun b u e=>by
 have e1:=aK b u e;have f':b≠p:=br e1 hp;have hB:B.hd b=false:=by
  cases q:B.hd b with
  |false=>rfl
  |true=>
   have e2:(if B.hd b=true then none else H b)=some u:=e;rw[q,ab rfl]at e2;cases e2
 rw[cV (by rw[kX f'];exact hB)];exact s b u e1,fun b j e=>by
 have f':b≠p:=fun z=>by rw[z]at e;rw[show(aN B H).ix p=B.ix p from rfl,hx]at e;cases e
 show(nN B p i).ix b=some j;rw[fS f'];exact e⟩
theorem HA.push {p:Addr}{o:Ao}(h:HA K B A H)(hp:H p=none)(s:aw H H')(ho:nM K (nN B p A.length) H' p o):Grows B H (nN B p A.length) H'/\HA K (nN B p A.length) (A++[o]) H':=by
 have hx:=h.free hp;have eR:cD (aN B H) (aN (nN B p A.length) H'):=DR hp hx s;have up:∀{a:Addr} {u:Ao},a≠p->nM K B H a u->nM K (nN B p A.length) H' a u:=fun{a u} f' q=>by
  have e0:(nN B p A.length).hd a=true:=by rw[kX f'];exact q.hd
  cases u with
  |lst ts=>obtain⟨h0,vs,h1,h2⟩:=q;exact⟨e0,vs,s _ _ h1,h2.same eR⟩
  |lV aA=>obtain⟨h0,vs,h1,h2⟩:=q;exact⟨e0,vs,s _ _ h1,h2.same eR⟩
  |aI aA=>obtain⟨h0,vs,h1,h2,h3⟩:=q;exact⟨e0,vs,s _ _ h1,h2,h3.same eR⟩
  |GX x=>obtain⟨h0,oe,h1,h2⟩:=q;exact⟨e0,oe,s _ _ h1,h2⟩
  |tb x q=>obtain⟨h0,h1,h2⟩:=q;exact⟨e0,h1,s _ _ h2⟩
  |ins c fs=>
   obtain⟨h0,dx,wH,h1,h2,h3,h4,h5⟩:=q;exact⟨e0,dx,wH,s _ _ h1,s _ _ h2,by rw[fS (br h2 hp)];exact h3,h4,h5.same eR⟩
 refine⟨⟨eR,fun b u _ e=>s b u e,fun b _ e=>?_,fun b i e n=>?_⟩,⟨fun b e=>?_,fun i u e=>?_,fun a b i e1 e2=>?_,fun a i e=>?_⟩⟩
 ·show(B.hd b||b==p)=true;rw[e,ng]
 ·by_cases q:b=p
  ·rw[q];exact hp
  ·rw[fS q,n]at e;cases e
 ·by_cases q:b=p
  ·rw[q];obtain⟨x,e2,n,_⟩:=ho.mem;exact⟨x,e2,n⟩
  ·rw[kX q]at e;obtain⟨x,e2,n⟩:=h.hb b e;exact⟨x,s _ _ e2,n⟩
 ·by_cases q:i<A.length
  ·rw[b8 q]at e;obtain⟨a,e1,e2⟩:=h.ob i u e;have f':a≠p:=fun z=>by rw[z,hx]at e1;cases e1
   exact⟨a,by rw[fS f'];exact e1,up f' e2⟩
  ·rw[dH (rE q)]at e;have hi:i - A.length=0:=by
    cases z:i - A.length with
    |zero=>rfl
    |succ k=>rw[z]at e;cases e
   rw[hi]at e;cases e;have:i=A.length:=by omega
   subst this;exact⟨p,iC,ho⟩
 ·by_cases q1:a=p
  ·by_cases q2:b=p
   ·rw[q1,q2]
   ·rw[q1,iC]at e1;cases e1;rw[fS q2]at e2;exact absurd (h.lt b _ e2) (du _)
  ·by_cases q2:b=p
   ·rw[q2,iC]at e2;cases e2;rw[fS q1]at e1;exact absurd (h.lt a _ e1) (du _)
   ·rw[fS q1]at e1;rw[fS q2]at e2;exact h.inj a b i e1 e2
 ·rw[aY,eY];by_cases q:a=p
  ·rw[q,iC]at e;cases e;exact i7 _
  ·rw[fS q]at e;exact i3 (h.lt a i e)
theorem lK{a:Addr}{u:HO}(h:B.hd a=true):aN B (upd H a u)=aN B H:=by
 unfold aN;congr 1;funext b;by_cases q:b=a
 ·subst q;rw[ab h,ab h]
 ·rw[au q]
theorem HA.write {a:Addr}{i:Nat}{o:Ao}{u:HO}(h:HA K B A H)(e:B.ix a=some i)(ho:nM K B (upd H a u) a o):Grows B H B (upd H a u)/\HA K B (A.set i o) (upd H a u):=by
 have hd:B.hd a=true:=ho.hd;have hv:aN B (upd H a u)=aN B H:=lK hd;refine⟨⟨by rw[hv];exact cD.refl _,fun b x n q=>?_,fun _ _ q=>q,fun b j q n=>by rw[n]at q;cases q⟩,⟨fun b q=>?_,fun j x q=>?_,h.inj,fun b j q=>by rw[i9];exact h.lt b j q⟩⟩
 ·have f':b≠a:=fun z=>by rw[z,e]at n;cases n
  rw[au f'];exact q
 ·by_cases z:b=a
  ·subst z;obtain⟨x,e2,n,_⟩:=ho.mem;exact⟨x,e2,n⟩
  ·rw[au z];exact h.hb b q
 ·rcases gS q with⟨rfl,_,rfl⟩|⟨t8,q⟩
  ·exact⟨a,e,ho⟩
  ·obtain⟨b,e1,e2⟩:=h.ob j x q;have f':b≠a:=fun z=>by rw[z,e]at e1;cases e1;exact t8 rfl
   refine⟨b,e1,?_⟩;cases x with
   |lst ts=>obtain⟨h0,vs,h1,h2⟩:=e2;exact⟨h0,vs,by rw[au f'];exact h1,by rw[hv];exact h2⟩
   |lV aA=>obtain⟨h0,vs,h1,h2⟩:=e2;exact⟨h0,vs,by rw[au f'];exact h1,by rw[hv];exact h2⟩
   |aI aA=>obtain⟨h0,vs,h1,h2,h3⟩:=e2;exact⟨h0,vs,by rw[au f'];exact h1,h2,by rw[hv];exact h3⟩
   |GX x=>obtain⟨h0,oe,h1,h2⟩:=e2;exact⟨h0,oe,by rw[au f'];exact h1,h2⟩
   |tb x q=>obtain⟨h0,h1,h2⟩:=e2;exact⟨h0,h1,by rw[au f'];exact h2⟩
   |ins c fs=>
    obtain⟨h0,dx,wH,h1,h2,h3,h4,h5⟩:=e2;have Xr:dx≠a:=fun z=>by rw[z,e]at h3;cases h3
    exact⟨h0,dx,wH,by rw[au f'];exact h1,by rw[au Xr];exact h2,h3,h4,by rw[hv];exact h5⟩
end
mutual
def iM:Tr->Bool
 |.at _=>false
 |.tup ts=>dh ts
 |.lst ts=>dh ts
 |.lV aA=>Aw aA
 |.aI aA=>uP aA
 |.ob _ fs=>Ax fs
 |_=>true
def dh:List Tr->Bool
 |[]=>true
 |t::ts=>iM t&&dh ts
def Aw:List (Key×Tr)->Bool
 |[]=>true
 |p::r=>Iy p&&Aw r
def Iy:Key×Tr->Bool
 |(_,t)=>iM t
def uP:List (List Key×Tr)->Bool
 |[]=>true
 |p::r=>Iz p&&uP r
def Iz:List Key×Tr->Bool
 |(_,t)=>iM t
def Ax:List (Str×Tr)->Bool
 |[]=>true
 |p::r=>IA p&&Ax r
def IA:Str×Tr->Bool
 |(_,t)=>iM t
end
theorem uQ:∀(aA:List (Key×Tr)),Aw aA=dh (aA.map (·.2))
 |[]=>rfl
 |(k,t)::r=>by rw[Aw,Iy,aC,dh,uQ r]
theorem uR:∀(aA:List (List Key×Tr)),uP aA=dh (aA.map (·.2))
 |[]=>rfl
 |(k,t)::r=>by rw[uP,Iz,aC,dh,uR r]
theorem uS:∀(aA:List (Str×Tr)),Ax aA=dh (aA.map (·.2))
 |[]=>rfl
 |(k,t)::r=>by rw[Ax,IA,aC,dh,uS r]
mutual
def pG:Tr->Bool
 |.dv=>true
 |.bl _=>true
 |.int _=>true
 |.str _=>true
 |.ty _=>true
 |.at _=>true
 |.tup ts=>gJ ts
 |_=>false
def gJ:List Tr->Bool
 |[]=>true
 |t::ts=>pG t&&gJ ts
end
def bf:Nat->Ab->Tr->Tr
 |0,_,t=>t
 |n+1,A,.at i=>match A[i]? with
  |some (.lst ts)=>.lst (ts.map (bf n A))
  |some (.lV aA)=>.lV (aA.map fun p=>(p.1,bf n A p.2))
  |some (.aI aA)=>.aI (aA.map fun p=>(p.1,bf n A p.2))
  |some (.ins c fs)=>.ob c (fs.map fun p=>(p.1,bf n A p.2))
  |some (.GX x)=>.DE x
  |some (.tb _ _)=>.at i
  |none=>.at i
 |_+1,_,t=>t
def bN.un (B:bN):bN:=⟨fun b=>B.hd b&&(B.ix b).isNone,B.ix⟩
section
variable {K:PySem.W.Frag}{B B':bN}{H H':Hp}{A:Ab}
theorem IB:pB B.un B:=⟨fun b e=>by
 have e':(B.hd b&&(B.ix b).isNone)=true:=e;rw[aE]at e';exact e'.1,fun _ _ e=>e⟩
theorem fK:cD (aN B H) (aN B.un H):=sx IB
theorem xD(h:HB B H):HB B.un H:=fun b e=>h b (IB.hd b e)
theorem xE{a:Addr}{i:Nat}(e:B.ix a=some i):(aN B.un H).H a=H a:=cV (by show(B.hd a&&(B.ix a).isNone)=false;rw[e];exact i_ _)
theorem jo{W W':Vw}{f:Tr->Tr}(h:∀{v t},Rep K W v t->Rep K W' v (f t)):∀{vs:List V} {ts:List Tr},aJ K W vs ts->aJ K W' vs (ts.map f)
 |[],_,r=>by cases r;exact .nil
 |_::_,_,r=>by cases r with|cons h1 r=>exact .cons (h h1) (jo h r)
theorem fy(ha:HA K B A H):∀(n:Nat) {v:V} {t:Tr},Rep K (aN B H) v t->Rep K (aN B.un H) v (bf n A t)
 |0,v,t,r=>by rw[bf];exact r.same fK
 |n+1,v,t,r=>by
  cases r with
  |@«at» a i h=>
   have e:B.ix a=some i:=h;obtain⟨o,q,ao⟩:=ha.ex e;rw[bf,q];cases o with
   |lst ts=>
    obtain⟨h0,vs,h1,h2⟩:=ao;exact .lst (by rw[xE e];exact h1) (jo (fun r=>fy ha n r) h2)
   |lV aA=>
    obtain⟨h0,ax,h1,h2⟩:=ao;refine .lV (.inl (by rw[xE e];exact h1)) (by rw[h2.keys,bG];rfl) ?_
    have:=jo (fun r=>fy ha n r) h2.vals;rw[bG]at this⊢;exact this
   |GX x=>obtain⟨h0,oe,h1,h2⟩:=ao;exact .DE (by rw[xE e];exact h1) h2
   |tb x q=>exact .at e
   |aI aA=>
    obtain⟨h0,ax,h1,h2,h3⟩:=ao;refine .aI (.inl (by rw[xE e];exact h1)) (by rw[h2,bG];rfl) ?_
    have:=jo (fun r=>fy ha n r) h3;rw[bG]at this⊢;exact this
   |ins c fs=>
    obtain⟨h0,dx,wH,h1,h2,h3,h4,h5⟩:=ao;refine .ob (by rw[xE e];exact h1) (by rw[h4,bG];rfl) ?_
    have:=jo (fun r=>fy ha n r) h5;rw[bG]at this⊢;exact this
  |dv=>exact .dv
  |bl b=>exact .bl b
  |int i=>exact .int i
  |str z h=>exact .str z h
  |ty m=>exact .ty m
  |jz h=>exact .jz (fK.h.seq h)
  |tup h r=>exact .tup (fK.h _ _ h) (r.same fK)
  |lst h r=>exact .lst (fK.h _ _ h) (r.same fK)
  |lV h e r=>exact .lV (h.same fK.h) e (r.same fK)
  |aI h e r=>exact .aI (Rd.same fK.h h) e (r.same fK)
  |ob h e r=>exact .ob (fK.h _ _ h) e (r.same fK)
  |DE h c=>exact .DE (fK.h _ _ h) c
theorem Kn(ha:HA K B A H){a:Addr}{x:HO}(e:(aN B.un H).H a=some x)(hx:(∃vs,x=.tup vs)\/∃o u,x=.gI o u):(aN B H).H a=some x:=by
 have e1:=aK a x e;cases q:B.hd a with
 |false=>rw[cV q];exact e1
 |true=>
  cases z:B.ix a with
  |none=>
   have e2:(if B.un.hd a=true then none else H a)=some x:=e;rw[show B.un.hd a=(B.hd a&&(B.ix a).isNone)from rfl,q,z]at e2;cases e2
  |some i=>
   obtain⟨o,_,ao⟩:=ha.ex z;obtain⟨y,e3,n1,n2⟩:=ao.mem;rw[e1]at e3;cases e3;rcases hx with⟨vs,rfl⟩|⟨o,u,rfl⟩
   ·exact absurd rfl (n1 vs)
   ·exact absurd rfl (n2 o u)
structure ib(W W':Vw):Prop where
 h:∀a x,W.H a=some x->((∃vs,x=.tup vs)\/∃o u,x=.gI o u)->W'.H a=some x
 x:∀a i,W.ix a=some i->W'.ix a=some i
theorem ib.un (ha:HA K B A H):ib (aN B.un H) (aN B H):=⟨fun a x e hx=>Kn ha e hx,fun _ _ e=>e⟩
theorem ib.trans {W W1 W2:Vw}(a:ib W W1)(b:ib W1 W2):ib W W2:=⟨fun c x e hx=>b.h c x (a.h c x e hx) hx,fun c i e=>b.x c i (a.x c i e)⟩
theorem ib.new {p:Addr}{i:Nat}{x:HO}(hx:B.ix p=none)(hp:H p=some x)(n1:∀vs,x≠ .tup vs)(n2:∀o u,x≠ .gI o u):ib (aN B H) (aN (nN B p i) H):=⟨fun a y e hy=>by
 have e1:=aK a y e;have f':a≠p:=fun z=>by
  rw[z,hp]at e1;cases e1;rcases hy with⟨vs,z⟩|⟨o,u,z⟩
  ·exact n1 vs z
  ·exact n2 o u z
 have hB:B.hd a=false:=by
  cases q:B.hd a with
  |false=>rfl
  |true=>
   have e2:(if B.hd a=true then none else H a)=some y:=e;rw[q,ab rfl]at e2;cases e2
 rw[cV (by rw[kX f'];exact hB)];exact e1,fun a j e=>by
 have f':a≠p:=fun z=>by rw[z]at e;rw[show(aN B H).ix p=B.ix p from rfl,hx]at e;cases e
 show(nN B p i).ix a=some j;rw[fS f'];exact e⟩
theorem vL{W W':Vw}(s:ib W W'){v:V}{t:Tr}(h:Rep K W v t):pG t=true->Rep K W' v t:=by
 refine Rep.rec (motive_1:=fun v t _=>pG t=true->Rep K W' v t) (motive_2:=fun vs ts _=>gJ ts=true->aJ K W' vs ts) ?_ ?_ ?_ ?_ ?_ ?_ ?_ ?_ ?_ ?_ ?_ ?_ ?_ ?_ ?_ h
 ·exact fun _=>.dv
 ·exact fun b _=>.bl b
 ·exact fun i _=>.int i
 ·exact fun z h _=>.str z h
 ·exact fun n _=>.ty n
 ·exact fun h f=>nomatch f
 ·intro a vs ts h _ ih f;refine .tup ?_ (ih f)
  exact s.h _ _ h (.inl ⟨_,rfl⟩)
 ·exact fun h _ _ f=>nomatch f
 ·exact fun h _ _ _ f=>nomatch f
 ·exact fun h _=>.at (s.x _ _ h)
 ·exact fun h _ _ _ f=>nomatch f
 ·exact fun h _ _ _ f=>nomatch f
 ·exact fun h c f=>nomatch f
 ·exact fun _=>.nil
 ·intro v t vs ts _ _ Tp Tq f;rw[gJ,aE]at f;exact .cons (Tp f.1) (Tq f.2)
theorem nO{W W':Vw}(s:ib W W'):∀{vs:List V} {ts:List Tr},aJ K W vs ts->gJ ts=true->aJ K W' vs ts
 |[],_,r,_=>by cases r;exact .nil
 |_::_,_,r,f=>by
  cases r with
  |cons h r=>
   rw[gJ,aE]at f;exact .cons (vL s h f.1) (nO s r f.2)
theorem oP(ha:HA K B A H){v:V}{t:Tr}(h:Rep K (aN B.un H) v t)(f:pG t=true):Rep K (aN B H) v t:=vL (.un ha) h f
theorem Rep.DT {W W':Vw}(s:aw W.H W'.H){v:V}{t:Tr}(h:Rep K W v t):iM t=true->Rep K W' v t:=by
 refine Rep.rec (motive_1:=fun v t _=>iM t=true->Rep K W' v t) (motive_2:=fun vs ts _=>dh ts=true->aJ K W' vs ts) ?_ ?_ ?_ ?_ ?_ ?_ ?_ ?_ ?_ ?_ ?_ ?_ ?_ ?_ ?_ h
 ·exact fun _=>.dv
 ·exact fun b _=>.bl b
 ·exact fun i _=>.int i
 ·exact fun z h _=>.str z h
 ·exact fun n _=>.ty n
 ·exact fun h _=>.jz (s.seq h)
 ·exact fun h _ ih f=>.tup (s _ _ h) (ih f)
 ·exact fun h _ ih f=>.lst (s _ _ h) (ih f)
 ·intro a ax aA h e _ ih f;refine .lV (Rd.same s h) e (ih ?_);rw[iM,uQ]at f;exact f
 ·exact fun h f=>nomatch f
 ·intro a ax aA h e _ ih f;refine .aI (Rd.same s h) e (ih ?_);rw[iM,uR]at f;exact f
 ·intro a c dx wH fs h e _ ih f;refine .ob (s _ _ h) e (ih ?_);rw[iM,uS]at f;exact f
 ·exact fun h c _=>.DE (s _ _ h) c
 ·exact fun _=>.nil
 ·intro v t vs ts _ _ Tp Tq f;rw[dh,aE]at f;exact .cons (Tp f.1) (Tq f.2)
theorem aJ.DT {W W':Vw}(s:aw W.H W'.H):∀{vs:List V} {ts:List Tr},aJ K W vs ts->dh ts=true->aJ K W' vs ts
 |[],_,r,_=>by cases r;exact .nil
 |_::_,_,r,f=>by
  cases r with
  |cons h r=>
   rw[dh,aE]at f;exact .cons (h.DT s f.1) (aJ.DT s r f.2)
end
def xF(A:Ab):Cell->Cell
 |.sh t=>.sh (bf 5 A t)
 |c=>c
def bq(A:Ab)(ρ:av):av:=ρ.map (xF A)
theorem a_.Ko {K:PySem.W.Frag}{B:bN}{H:Hp}{A:Ab}{σ:St}{ρ:av}(ha:HA K B A H)(n:cQ ρ)(h:a_ K B H σ ρ):a_ K B.un H σ (bq A ρ):=by
 have no:∀i ts,(bq A ρ)[i]? ≠some (Cell.ow ts):=fun i ts e=>by
  unfold bq at e;rw[aL]at e;cases q:ρ[i]? with
  |none=>rw[q]at e;cases e
  |some c=>
   rw[q]at e;cases c with
   |no=>cases e
   |sh t=>cases e
   |ow us=>exact n i us q
 refine⟨by unfold bq;rw[ak];exact h.len,fun i t e=>?_,fun i ts e=>absurd e (no i ts),fun i j ts us D _ e=>absurd e (no i ts)⟩;unfold bq at e;rw[aL]at e;cases q:ρ[i]? with
 |none=>rw[q]at e;cases e
 |some c=>
  rw[q]at e;cases c with
  |no=>cases e
  |ow us=>exact absurd q (n i us)
  |sh u=>
   obtain⟨v,e1,r⟩:=h.sh i u q;have e2:bf 5 A u=t:=by
    have e3:=Option.some.inj e;exact(Cell.sh.inj e3)
   rw[<-e2];exact⟨v,e1,fy ha 5 r⟩
theorem a_.grow {K:PySem.W.Frag}{B B':bN}{H H':Hp}{σ:St}{ρ:av}(h:a_ K B H σ ρ)(n:cQ ρ)(g:Grows B H B' H'):a_ K B' H' σ ρ:=
 ⟨h.len,fun i t e=>by obtain⟨v,e1,r⟩:=h.sh i t e;exact⟨v,e1,r.same g.eR⟩,fun i ts e=>absurd e (n i ts),fun i j ts us D _ e=>absurd e (n i ts)⟩
end L2
namespace L2
open PySem PySem.Spec PyProof.Rows
theorem bY.get {P:Program}{w:World}{H:Hp}{h:Heap}{a:Addr}{o:HO}(x:bY P w H h a o):∃u,h.get? a=some u:=by
 cases o with
 |lst xs=>obtain⟨_,_,_,_,e⟩:=x;exact⟨_,e⟩
 |tup xs=>obtain⟨_,_,_,o,e,_⟩:=x;exact⟨o,e⟩
 |dK ax=>obtain⟨_,_,_,_,o,_,_,e,_⟩:=x;exact⟨o,e⟩
 |dT ax=>obtain⟨_,_,_,_,o,_,_,e,_⟩:=x;exact⟨o,e⟩
 |set S n=>obtain⟨o,_,_,_,e,_⟩:=x;exact⟨o,e⟩
 |ins C dx fs=>obtain⟨_,_,_,e,_⟩:=x;exact⟨_,e⟩
 |own y=>exact x
 |xd fs=>obtain⟨_,⟨_,_,_,e,_⟩,_⟩:=x;exact⟨_,e⟩
 |QX lo hi=>obtain⟨_,_,_,e⟩:=x;exact⟨_,e⟩
 |gI ob u=>obtain⟨e,_⟩:=x;exact⟨_,e⟩
 |wF ps=>obtain⟨qs,e,_⟩:=x;exact⟨_,e⟩
 |met f y=>exact⟨_,(show h.get? a=some _ from x)⟩
 |ext φ=>obtain⟨_,e,_⟩:=x;exact e
structure Om(h0:Heap)(H:Hp)(h:Heap)(a:Addr)(cls:Value):Prop where
 ob:∃oe vs a0,h.get? a=some oe/\oe.cls=cls/\oe.data=.fields vs/\vs[0]?=some a0/\
  (vs[1]?=some .none\/∃T oT ts,vs[1]?=some (.ref T)/\T≠a/\h0.get? T=none/\H T=none/\h.get? T=some oT/\oT.data=.fields ts/\ts[3]?=some .none)
 fr:H a=none
 nw:h0.get? a=none
def XS(X:Cx)(H:Hp)(cls e:Value)(s:Shared):Prop:=∃a pins σ h0,e=.ref a/\Inv X pins σ H s/\Om h0 H s.heap a cls/\(∀b,h0.get? b=none->X.fj.heap.get? b=none)/\(∀p∈X.pn,∃o,h0.get? p.1=some o)/\∀b,s.heap.get? b=none->h0.get? b=none
def EX(X:Cx):XK:=fun cls _ H=>∀e s,XS X H cls e s->X.xe e s
def qv(P:Program)(w:World):yT:=fun outer H s E e s'=>∃a cls H',e=.ref a/\s'.os=s.os/\AllBare s'.gens/\Un (nr outer) [] H H' s.heap s'.heap/\md P w H' s'.heap/\Om s.heap H' s'.heap a cls/\E cls none H'
theorem Om.Oo {h0 h1 h:Heap}{H:Hp}{a:Addr}{cls:Value}(u:Om h1 H h a cls)(k:∀b,h1.get? b=none->h0.get? b=none):Om h0 H h a cls:=by
 obtain⟨⟨oe,vs,a0,e1,e2,e3,e4,e5⟩,f,n⟩:=u;refine⟨⟨oe,vs,a0,e1,e2,e3,e4,?_⟩,f,k a n⟩;rcases e5 with e5|⟨T,oT,ts,q1,q2,q3,q4⟩
 ·exact .inl e5
 ·exact .inr ⟨T,oT,ts,q1,q2,k T q3,q4⟩
theorem Inv.DU {X:Cx}{pins:List (Addr×Obj)}{σ:St}{H:Hp}{s:Shared}(I:Inv X pins σ H s)(hx:X.ex=[]){b:Addr}(n:s.heap.get? b=none):X.fj.heap.get? b=none:=by
 cases q:X.fj.heap.get? b with
 |none=>rfl
 |some o=>
  obtain⟨o',e⟩:=I.base.there b o q (by rw[hx];simp);rw[n]at e;cases e
theorem BX{X:Cx}(hx:X.ex=[]):Passes (qv X.prog X.w) X (EX X):=by
 intro pins σ H s e s' I z;obtain⟨a,cls,H',rfl,os,bare,un,bV,Ts,q⟩:=z;have ce:CE X.stack X.prog X.w H s (fun _ H2=>H2=H') .none s':=⟨.dv,H',os,bare,un,bV,rfl,rfl⟩;obtain⟨v,H2,I2,_,rfl⟩:=I.after ce;exact q (.ref a) s' ⟨a,pins,σ,s.heap,rfl,I2,Ts,fun b n=>I.DU hx n,fun p hp=>⟨_,(I.pin p (dU _ hp)).1⟩,fun b n=>by
  cases z:s.heap.get? b with
  |none=>rfl
  |some o=>obtain⟨o',e⟩:=un.there b o z (by simp);rw[n]at e;cases e⟩
section
variable {P:Program}{w:World}{K:PySem.W.Frag}{mg:Str->Option Value}{base:Heap}{N:List Str}{qual:Str}{scope:Scope}{f:Addr}{cd:Value}{A:Around}{outer:List Env}{s:Shared}{H:Hp}{E:XK}
theorem xG{H':Hp}{cls e:Value}{s':Shared}(x:XS (j3 (qv P w) P w K mg base N qual scope f cd A outer s H E) H' cls e s')(q:E cls none H'):(j3 (qv P w) P w K mg base N qual scope f cd A outer s H E).xe e s':=by
 obtain⟨a,pins,σ,Zn,rfl,I,Tt,old,_,_⟩:=x;have Ts:=Tt.Oo (h0:=s.heap) old;obtain⟨⟨oe,vs,a0,he,F1,hd,h0,h1⟩,fr,nw⟩:=Ts
 let env:=envOfC qual scope s.heap.objs.size f cd
 have MF:(A.deeper env).frames=some (env::outer):=I.ok.frames;have hk:s'.heap.FunFrames base (env::outer):=I.stack;have Rj:∀L∈nr (env::outer),H' L=none/\∃o,s'.heap.get? L=some o/\∀ws,o.data≠ .fields ws:=fun L hL=>⟨I.vn L hL,(hk.mem hL).2⟩;have Zo:a∉nr (env::outer):=fun m=>by
  obtain⟨_,o,e1,e2⟩:=Rj a m;rw[he]at e1;cases e1;exact e2 vs hd
 have fin:∀(hs:List Addr) (h':Heap),(∀b∈hs,H' b=none/\(b∈nr (env::outer)\/s.heap.get? b=none))->(∀b∈nr (env::outer),b∈hs)->a∈hs->(∀b∈hs,b∈nr (env::outer)\/b=a\/H' b=none)->
   Heap.LeftW (PySem.W.hideAll s'.heap hs) (env::outer) a cls a0 s'.heap h'->qv P w outer H s E (.ref a) {s' with heap:=h'}:=by
  intro hs h' hh Oq Xs _ ⟨k1,k2,k3,k4⟩;have kp:∀b o,b∉hs->s'.heap.get? b=some o->h'.get? b=some o:=fun b o nb e=>k1 b o (mR _ e nb);have old:∀b o,s.heap.get? b=some o->b∉nr outer->b∉hs:=fun b o e nf m=>by
   rcases(hh b m).2 with z|z
   ·unfold nr at z;rw[iw]at z;have z':b∈s.heap.objs.size::nr outer:=z;rcases a8.mp z' with z'|z'
    ·exact absurd (az e) (by rw[z'];exact du _)
    ·exact nf z'
   ·rw[e]at z;cases z
  have sl:∀b o,s'.heap.get? b=some o->b∈nr outer->∃sl,h'.get? b=some {o with slots:=sl}:=fun b o e m=>by
   obtain⟨_,o2,e2,nf⟩:=Rj b (by unfold nr at m⊢;rw[iw];exact aO _ m);rw[e]at e2;cases e2;exact k4 b o e nf
  have U:Un (nr outer) [] H H' s.heap s'.heap:=I.base;refine⟨a,cls,H',rfl,I.os,I.bare,⟨fun b o e n nf nx=>?_,fun b o e n m nx=>?_,U.free,fun b o e nx=>?_,U.lQ,U.jZ,U.kE⟩,fun b o e=>?_,⟨?_,fr,nw⟩,q⟩
  ·exact kp b o (old b o e nf) (U.keep b o e n nf nx)
  ·obtain⟨s1,e1⟩:=U.slot b o e n m nx;obtain⟨s2,e2⟩:=sl b _ e1 m;exact⟨s2,e2⟩
  ·obtain⟨o1,e1⟩:=U.there b o e nx;by_cases m:b∈nr outer
   ·obtain⟨s2,e2⟩:=sl b o1 e1 m;exact⟨_,e2⟩
   ·exact⟨o1,kp b o1 (old b o e m) e1⟩
  ·refine(I.bV b o e).oE (fun c u hc z=>kp c u (fun m=>?_) z) (fun _ z=>z) fun _ _ z=>z;have n:=(hh c m).1;rcases hc with rfl|hc
   ·rw[n]at e;cases e
   ·rw[n]at hc;cases hc
  ·obtain⟨Xt,Xu,T,oT,ts,q1,⟨q2,q3⟩,q4,q5,q6,q7,q8,q9,Xv⟩:=k3;refine⟨Xt,Xu,a0,q1,q2,q4,q3,.inr ⟨T,oT,ts,q5,q7,?_,?_,q8,q9,Xv⟩⟩
   ·by_cases m:T∈hs
    ·rcases(hh T m).2 with z|z
     ·obtain⟨o3,e3,n3⟩:=(k2.mem z).2;rw[q8]at e3;cases e3;exact absurd q9 (n3 ts)
     ·exact z
    ·cases z:s.heap.get? T with
     |none=>rfl
     |some o=>
      obtain⟨o1,e1⟩:=U.there T o z (by simp);rw[mR _ e1 m]at q6;cases q6
   ·by_cases m:T∈hs
    ·exact(hh T m).1
    ·cases z:H' T with
     |none=>rfl
     |some o=>
      obtain⟨u,e1⟩:∃u,s'.heap.get? T=some u:=(I.bV T o z).get;rw[mR _ e1 m]at q6;cases q6
 have iT:∀e∈(env::outer),∀b,e.frame=some b->b∈nr (env::outer):=fun e he b hb=>iW.mpr ⟨e,he,hb⟩;show wpAny (model P w) (A.deeper env) (leaving env (.ref a)) (fun _ FI=>qv P w outer H s E (.ref a) FI) _ s';rcases h1 with h1|⟨T,oT,ts,h1,Xw,Xx,VJ,hT,Xy,h3⟩
 ·let hs:=a::nr (env::outer)
  refine wpAny_leaving_firstW (base:=PySem.W.hideAll s'.heap hs) MF (PySem.W.funFrames_hide hk fun e he b hb=>aO _ (iT e he b hb)) rfl he (fun b o z=>rb _ z) (mQ _ (aP ..)) hd h1 h0 fun h' hL=>?_
  rw[F1]at hL;refine fin hs h' (fun b m=>?_) (fun b m=>aO _ m) (aP ..) (fun b m=>?_) hL
  ·rcases a8.mp m with rfl|m
   ·exact⟨fr,.inr nw⟩
   ·exact⟨(Rj b m).1,.inl m⟩
  ·rcases a8.mp m with rfl|m
   ·exact .inr (.inl rfl)
   ·exact .inl m
 ·let hs:=a::T::nr (env::outer)
  refine wpAny_leaving_nextW (base:=PySem.W.hideAll s'.heap hs) (cls:=cls) (a0:=a0) MF (PySem.W.funFrames_hide hk fun e he b hb=>aO _ (aO _ (iT e he b hb))) rfl
   ⟨oe,vs,T,oT,ts,he,⟨F1,h0⟩,hd,h1,mQ _ (aO _ (aP ..)),Xw,hT,Xy,h3⟩ (fun b o z=>rb _ z) (mQ _ (aP ..)) fun h' hL=>?_
  refine fin hs h' (fun b m=>?_) (fun b m=>aO _ (aO _ m)) (aP ..) (fun b m=>?_) hL
  ·rcases a8.mp m with rfl|m
   ·exact⟨fr,.inr nw⟩
   ·rcases a8.mp m with rfl|m
    ·exact⟨VJ,.inr Xx⟩
    ·exact⟨(Rj b m).1,.inl m⟩
  ·rcases a8.mp m with rfl|m
   ·exact .inr (.inl rfl)
   ·rcases a8.mp m with rfl|m
    ·exact .inr (.inr VJ)
    ·exact .inl m
end
end L2
namespace L2
open PySem PySem.Spec PyProof.Rows
inductive Rz(α:Type) where
 |bad|ok (a:α) (A:Ab)|exc (c:Tr) (A:Ab)
def Rz.bind {α β:Type}(r:Rz α)(f:α->Ab->Rz β):Rz β:=match r with
 |.ok a A=>f a A
 |.exc c A=>.exc c A
 |.bad=>.bad
def cJ(xc:Tr->Ab->Prop){α:Type}(r:Rz α)(k:α->Ab->Prop):Prop:=match r with
 |.ok a A=>k a A
 |.exc c A=>xc c A
 |.bad=>False
section
variable {α β:Type}{r:Rz α}{k k':α->Ab->Prop}{xc NS:Tr->Ab->Prop}
theorem cJ.mono (h:cJ xc r k)(w:∀a A,k a A->k' a A):cJ xc r k':=by
 cases r with
 |ok a A=>exact w a A h
 |exc c A=>exact h
 |bad=>exact h
theorem cJ.imp (h:cJ xc r k)(w:∀c A,xc c A->NS c A):cJ NS r k:=by
 cases r with
 |ok a A=>exact h
 |exc c A=>exact w c A h
 |bad=>exact h
theorem cJ.bind {f:α->Ab->Rz β}{k:β->Ab->Prop}(h:cJ xc (r.bind f) k):cJ xc r fun a A=>cJ xc (f a A) k:=by
 cases r with
 |ok a A=>exact h
 |exc c A=>exact h
 |bad=>exact h
end
def aj{α:Type}(r:Rs α)(A:Ab):Rz α:=match r with
 |.ok a=>.ok a A
 |_=>.bad
theorem gc{X:Cx}{H:Hp}{α:Type}{xc:Tr->Ab->Prop}{r:Rs α}{A:Ab}{k:α->Ab->Prop}(q:cJ xc (aj r A) k):Fi X H r fun a=>k a A:=by
 cases r with
 |ok a=>exact q
 |exc c=>exact(show False from q).elim
 |bad=>exact q
def Ot(K:PySem.W.Frag):Tr->Value
 |.str x=>.ref (clsAt K x)
 |_=>.none
def XE(X:Cx)(B:bN)(H:Hp):Tr->Ab->Prop:=fun c A=>∀B' H',Grows B H B' H'->HA X.K B' A H'->EX X (Ot X.K c) none H'
theorem XE.grow {X:Cx}{B B':bN}{H H':Hp}{c:Tr}{A:Ab}(hb:HB B H)(h:XE X B H c A)(g:Grows B H B' H'):XE X B' H' c A:=fun B2 H2 g2 ha=>h B2 H2 (g.trans hb g2) ha
inductive tE(X:Cx)(F:av->Ab->Rz Tr)(σ:St)(H:Hp)(Q:VK):Prop
 |mk (B:bN) (A:Ab) (ρ:av):HA X.K B A H->a_ X.K B H σ ρ->cQ ρ->(cJ (XE X B H) (F ρ A) fun t A'=>∀v B' H',Grows B H B' H'->HA X.K B' A' H'->Rep X.K (aN B' H') v t->Q v H')->tE X F σ H Q
inductive CQ(X:Cx)(F:av->Ab->Rz Bool)(σ:St)(H:Hp)(Q:Bool->Hp->Prop):Prop
 |mk (B:bN) (A:Ab) (ρ:av):HA X.K B A H->a_ X.K B H σ ρ->cQ ρ->(cJ (XE X B H) (F ρ A) fun b A'=>∀B' H',Grows B H B' H'->HA X.K B' A' H'->Q b H')->CQ X F σ H Q
inductive GY(X:Cx)(F:av->Ab->Rz (List Tr))(σ:St)(H:Hp)(Q:List V->Hp->Prop):Prop
 |mk (B:bN) (A:Ab) (ρ:av):HA X.K B A H->a_ X.K B H σ ρ->cQ ρ->(cJ (XE X B H) (F ρ A) fun ts A'=>∀vs B' H',Grows B H B' H'->HA X.K B' A' H'->aJ X.K (aN B' H') vs ts->Q vs H')->GY X F σ H Q
def Kp(H H':Hp)(p:Addr):Prop:=H p=none/\∀o u,H' p≠some (.gI o u)
theorem Kp.lst {K:PySem.W.Frag}{B:bN}{H H':Hp}{p:Addr}{ts:List Tr}(h:H p=none)(r:Rep K (aN B H') (.ref p) (.lst ts)):Kp H H' p:=by
 cases r with
 |lst e _=>exact⟨h,fun o u z=>by rw[aK _ _ e]at z;cases z⟩
theorem Kp.upd {H H1:Hp}{p:Addr}{x:HO}(h:H p=none)(hx:∀o u,x≠ .gI o u):Kp H (L2.upd H1 p x) p:=⟨h,fun o u z=>by rw[aH]at z;cases z;exact hx _ _ rfl⟩
inductive tF(X:Cx)(F:av->Rs Tr)(σ:St)(H:Hp)(Q:VK):Prop
 |mk (B:bN) (ρ:av):HB B H->a_ X.K B H σ ρ->(Fi X H (F ρ) fun t=>∀v H',aw H H'->Rep X.K (aN B H') v t->(∀p,v=.ref p->Kp H H' p)->Q v H')->tF X F σ H Q
def gq(r:Rs Tr)(A:Ab):Rz Tr:=match r with
 |.ok t=>if pG t=true then .ok t A else .bad
 |_=>.bad
def gr(r:Rs Tr)(A:Ab):Rz Tr:=match r with
 |.ok (.lst ts)=>if gJ ts=true then .ok (.at A.length) (A++[.lst ts])else .bad
 |.ok (.lV aA)=>if gJ (aA.map (·.2))=true then .ok (.at A.length) (A++[.lV aA])else .bad
 |.ok (.aI aA)=>if gJ (aA.map (·.2))=true then .ok (.at A.length) (A++[.aI aA])else .bad
 |_=>.bad
section
variable {X:Cx}{e:Expr}{es:List Expr}{F:av->Rs Tr}{P:av->Rs Bool}{L:av->Rs (List Tr)}{FZ GZ:av->Ab->Rz Tr}{LZ:av->Ab->Rz (List Tr)}
theorem Xz(h:PE X e (tF X F)):PE X e (tP X F):=h.weak fun σ H Q ⟨B,ρ,hb,r,q⟩=>⟨B,ρ,hb,r,q.mono fun t k v H' s rv _=>k v H' s rv⟩
theorem pH{σ:St}{H:Hp}{Q:VK}(q:tE X (fun ρ A=>aj (F ρ) A) σ H Q):tP X F σ H Q:=by
 obtain⟨B,A,ρ,ha,r,_,q⟩:=q;exact⟨B,ρ,ha.hb,r,(gc q).mono fun t qt v H' s rv=>qt v B H' (.of s) (ha.same s) rv⟩
theorem Kq(h:PE X e (tP X F)):PE X e (tE X fun ρ A=>aj (F ρ) A):=h.weak fun σ H Q q=>pH q
theorem G0(h:PT X e (tQ X P)):PT X e (CQ X fun ρ A=>aj (P ρ) A):=
 h.weak fun σ H Q ⟨B,A,ρ,ha,r,_,q⟩=>⟨B,ρ,ha.hb,r,(gc q).mono fun t qt H' s=>qt B H' (.of s) (ha.same s)⟩
theorem Kr(h:PE X e (tP X F)):PE X e (tE X fun ρ A=>gq (F (bq A ρ)) A):=
 h.weak fun σ H Q ⟨B,A,ρ,ha,r,n,q⟩=>⟨B.un,bq A ρ,xD ha.hb,r.Ko ha n,by
   have q:cJ (XE X B H) (gq (F (bq A ρ)) A) _:=q;cases e:F (bq A ρ)with
   |bad=>rw[e]at q;exact q
   |exc c=>rw[e]at q;exact(show False from q).elim
   |ok t=>
    rw[e]at q;intro v H' s rv;by_cases f:pG t=true
    ·have q':cJ _ (if pG t=true then Rz.ok t A else .bad) _:=q;rw[ab f]at q';exact q' v B H' (.of s) (ha.same s) (oP (ha.same s) rv f)
    ·have q':cJ _ (if pG t=true then Rz.ok t A else .bad) _:=q;rw[ae f]at q';exact(show False from q').elim⟩
theorem G1(h:PT X e (tQ X P)):PT X e (CQ X fun ρ A=>aj (P (bq A ρ)) A):=
 h.weak fun σ H Q ⟨B,A,ρ,ha,r,n,q⟩=>⟨B.un,bq A ρ,xD ha.hb,r.Ko ha n,(gc q).mono fun t qt H' s=>qt B H' (.of s) (ha.same s)⟩
theorem nQ{c:Prop}[Decidable c]{α:Type}{xc:Tr->Ab->Prop}{r:Rz α}{k:α->Ab->Prop}(h:cJ xc (if c then r else .bad) k):c/\cJ xc r k:=by
 by_cases q:c
 ·rw[ab q]at h;exact⟨q,h⟩
 ·rw[ae q]at h;exact(show False from h).elim
theorem sF{σ:St}{H:Hp}{Q:VK}(q:tE X (fun ρ A=>gr (F (bq A ρ)) A) σ H Q):tF X F σ H Q:=by
  obtain⟨B,A,ρ,ha,r,n,q⟩:=q;refine⟨B.un,bq A ρ,xD ha.hb,r.Ko ha n,?_⟩;have q:cJ (XE X B H) (gr (F (bq A ρ)) A) _:=q;cases e:F (bq A ρ)with
  |bad=>rw[e]at q;exact q
  |exc c=>rw[e]at q;exact(show False from q).elim
  |ok t=>
   rw[e]at q;intro v H' s rv fr;have dz:=ha.same s;cases rv with
   |@lst p vs ts h rr=>
    have hp:=(fr p rfl).1;obtain⟨f,q'⟩:=nQ q;have h1:H' p=some (.lst vs):=aK _ _ h;obtain⟨g,h2⟩:=ha.push (o:=.lst ts) hp s ⟨qm,vs,h1,nO ((ib.un dz).trans (.new (ha.free hp) h1 (fun _ z=>by cases z) fun _ _ z=>by cases z)) rr f⟩;exact q' _ _ H' g h2 (.at iC)
   |@lV p ax aA h ek rr=>
    have hp:=(fr p rfl).1;obtain⟨f,q'⟩:=nQ q;have h1:H' p=some (.dK ax):=by
     rcases h.same aK with h|⟨o,h⟩
     ·exact h
     ·exact((fr p rfl).2 _ _ h).elim
    obtain⟨g,h2⟩:=ha.push (o:=.lV aA) hp s ⟨qm,ax,h1,ek,nO ((ib.un dz).trans (.new (ha.free hp) h1 (fun _ z=>by cases z) fun _ _ z=>by cases z)) rr f⟩;exact q' _ _ H' g h2 (.at iC)
   |@aI p ax aA h ek rr=>
    have hp:=(fr p rfl).1;obtain⟨f,q'⟩:=nQ q;have h1:H' p=some (.dT ax):=by
     rcases h.same aK with h|⟨o,h⟩
     ·exact h
     ·exact((fr p rfl).2 _ _ h).elim
    obtain⟨g,h2⟩:=ha.push (o:=.aI aA) hp s ⟨qm,ax,h1,ek,nO ((ib.un dz).trans (.new (ha.free hp) h1 (fun _ z=>by cases z) fun _ _ z=>by cases z)) rr f⟩;exact q' _ _ H' g h2 (.at iC)
   |_=>exact(show False from q).elim
theorem Ou(h:PE X e (tF X F)):PE X e (tE X fun ρ A=>gr (F (bq A ρ)) A):=h.weak fun σ H Q q=>sF q
end
end L2
namespace L2
open PySem PySem.Spec PyProof.Rows
def iD(X:Cx)(D:Ends)(B0:bN)(H0:Hp):Out->Ab->Prop
 |.nx ρ,A=>∀bM B' H',Grows B0 H0 B' H'->HA X.K B' A H'->a_ X.K B' H' bM ρ->cQ ρ->D.nx bM H'
 |.ret t,A=>∀v B' H',Grows B0 H0 B' H'->HA X.K B' A H'->Rep X.K (aN B' H') v t->D.rt v H'
 |.bk ρ,A=>∀bM B' H',Grows B0 H0 B' H'->HA X.K B' A H'->a_ X.K B' H' bM ρ->cQ ρ->D.bk bM H'
 |.ct ρ,A=>∀bM B' H',Grows B0 H0 B' H'->HA X.K B' A H'->a_ X.K B' H' bM ρ->cQ ρ->D.ct bM H'
inductive tZ(X:Cx)(G:av->Ab->Rz Out)(D:Ends)(σ:St)(H:Hp):Prop
 |mk (B0:bN) (H0:Hp) (B:bN) (A:Ab) (ρ:av):HB B0 H0->Grows B0 H0 B H->HA X.K B A H->a_ X.K B H σ ρ->cQ ρ->cJ (XE X B0 H0) (G ρ A) (iD X D B0 H0)->tZ X G D σ H
section
variable {X:Cx}{a b c e:Expr}{pos:Pos}{F:av->Ab->Rz Tr}{G G':av->Ab->Rz Out}{P:av->Ab->Rz Bool}{st:Stmt}{rest N4:List Stmt}
def bu(r:Rz Out)(G:av->Ab->Rz Out):Rz Out:=r.bind fun o A=>match o with
 |.nx ρ=>G ρ A
 |.ret t=>.ok (.ret t) A
 |.bk ρ=>.ok (.bk ρ) A
 |.ct ρ=>.ok (.ct ρ) A
theorem Ov:kF X [] (tZ X fun ρ A=>.ok (.nx ρ) A):=z3.weak fun D σ H ⟨B0,H0,B,A,ρ,hb,g,ha,r,n,q⟩=>q σ B H g ha r n
theorem Ks(h1:PS X st (tZ X G))(h2:kF X rest (tZ X G')):kF X (st::rest) (tZ X fun ρ A=>bu (G ρ A) G'):=
 (w6 h1 h2).weak fun D σ H ⟨B0,H0,B,A,ρ,hb,g,ha,r,n,q⟩=>⟨B0,H0,B,A,ρ,hb,g,ha,r,n,q.bind.mono fun o A1 qo=>by
  cases o with
  |nx dF=>exact fun bM B' H' g' dz r' n'=>⟨B0,H0,B',A1,dF,hb,g',dz,r',n',qo⟩
  |ret t=>exact qo
  |bk dF=>exact qo
  |ct dF=>exact qo⟩
theorem Ow(h1:PS X st (tZ X G)):kF X [st] (tZ X G):=z4 h1
theorem ic{B0 B:bN}{H0 H:Hp}{A:Ab}{σ:St}{ρ:av}{k:Tr->Ab->Prop}(hb:HB B0 H0)(g:Grows B0 H0 B H)(ha:HA X.K B A H)(r:a_ X.K B H σ ρ)(n:cQ ρ)(q:cJ (XE X B0 H0) (F ρ A) k){Q:VK}
  (hq:∀t A' v B' H',k t A'->Grows B0 H0 B' H'->HA X.K B' A' H'->a_ X.K B' H' σ ρ->Rep X.K (aN B' H') v t->Grows B H B' H'->Q v H'):tE X F σ H Q:=
 ⟨B,A,ρ,ha,r,n,(q.imp fun c A' x=>x.grow hb g).mono fun t A' qp v B' H' g' dz rv=>hq t A' v B' H' qp (g.trans hb g') dz (r.grow n g') rv g'⟩
theorem DV{B0 B:bN}{H0 H:Hp}{A:Ab}{σ:St}{ρ:av}{k:Bool->Ab->Prop}(hb:HB B0 H0)(g:Grows B0 H0 B H)(ha:HA X.K B A H)(r:a_ X.K B H σ ρ)(n:cQ ρ)(q:cJ (XE X B0 H0) (P ρ A) k){Q:Bool->Hp->Prop}
  (hq:∀t A' B' H',k t A'->Grows B0 H0 B' H'->HA X.K B' A' H'->a_ X.K B' H' σ ρ->Q t H'):CQ X P σ H Q:=
 ⟨B,A,ρ,ha,r,n,(q.imp fun c A' x=>x.grow hb g).mono fun t A' qp B' H' g' dz=>hq t A' B' H' qp (g.trans hb g') dz (r.grow n g')⟩
def cK(i:Nat)(r:Rz Tr)(ρ:av):Rz Out:=r.bind fun t A=>.ok (.nx (ρ.set i (.sh t))) A
theorem Ox{i:Nat}{x:Str}{pos':Pos}(he:PE X e (tE X F))(hN:X.N.Nodup:=by assumption) (hi:X.N[i]?=some x:=by rfl) (hx:Loc X.env.scope x:=by first|exact Or.inl rfl|exact Or.inr rfl) (hs:mm e=false:=by rfl) (hf:X.fn x=true\/X.env.scope.names.lookup x=some .local:=by first|exact .inl rfl|exact .inr rfl|assumption):
  PS X (.Assign [.Name x pos'] e pos) (tZ X fun ρ A=>cK i (F ρ A) ρ):=
 (C_ hN hi hx he (sA hs) hf).weak fun D σ H ⟨B0,H0,B,A,ρ,hb,g,ha,r,n,q⟩=>ic hb g ha r n q.bind fun t A' v B' H' qt g' dz r' rv _=>qt _ B' H' g' dz (r'.set i rv) (n.set i t)
def gs(r:Rz Tr):Rz Out:=r.bind fun t A=>.ok (.ret t) A
theorem Oy(he:PE X e (tE X F)):PS X (.Return (some e) pos) (tZ X fun ρ A=>gs (F ρ A)):=
 (C7 he).weak fun D σ H ⟨B0,H0,B,A,ρ,hb,g,ha,r,n,q⟩=>ic hb g ha r n q.bind fun t A' v B' H' qt g' dz r' rv _=>qt v B' H' g' dz rv
def l4(r:Rz Tr)(ρ:av):Rz Out:=r.bind fun _ A=>.ok (.nx ρ) A
theorem Kt(he:PE X e (tE X F))(hs:mm e=false:=by rfl):PS X (.Expr e pos) (tZ X fun ρ A=>l4 (F ρ A) ρ):=
 (F3 he (sA hs)).weak fun D σ H ⟨B0,H0,B,A,ρ,hb,g,ha,r,n,q⟩=>ic hb g ha r n q.bind fun t A' v B' H' qt g' dz r' rv _=>qt _ B' H' g' dz r' n
def uT(c:Rz Bool)(a b:Ab->Rz Out):Rz Out:=c.bind fun k A=>if k then a A else b A
theorem Tu{ys ns:List Stmt}(hc:PT X c (CQ X P))(h1:kF X ys (tZ X G))(h2:kF X ns (tZ X G')):PS X (.If c ys ns pos) (tZ X fun ρ A=>uT (P ρ A) (G ρ) (G' ρ)):=
 (H_ hc h1 h2).weak fun D σ H ⟨B0,H0,B,A,ρ,hb,g,ha,r,n,q⟩=>DV hb g ha r n q.bind fun k A' B' H' qk g' dz r'=>by
  cases k with
  |true=>exact J4 ⟨B0,H0,B',A',ρ,hb,g',dz,r',n,qk⟩
  |false=>exact Dy ⟨B0,H0,B',A',ρ,hb,g',dz,r',n,qk⟩
theorem Ay{T:iU}{B0 B:bN}{H0 H:Hp}{A:Ab}{σ:St}{ρ:av}{v:V}{t:Tr}{k:av->Ab->Prop}(hT:fx T)(hb:HB B0 H0)(g:Grows B0 H0 B H)(ha:HA X.K B A H)(r:a_ X.K B H σ ρ)(n:cQ ρ)(rv:Rep X.K (aN B H) v t){xc:Tr->Ab->Prop}(q:cJ xc (aj (T t ρ) A) k){Q:St->Hp->Prop}
  (hq:∀dF bM H',k dF A->Grows B0 H0 B H'->HA X.K B A H'->a_ X.K B H' bM dF->cQ dF->aw H H'->Q bM H'):tG X T v σ H Q:=by
 refine⟨B,ρ,t,ha.hb,r,rv,?_⟩;cases e:T t ρ with
 |ok dF=>rw[e]at q;exact fun bM H' s r'=>hq dF bM H' q (g.trans hb (.of s)) (ha.same s) r' (hT t ρ dF n e) s
 |exc c=>rw[e]at q;exact(show False from q).elim
 |bad=>rw[e]at q;exact q
def fz(T:iU)(G:av->Ab->Rz Out):List Tr->av->Ab->Rz Out
 |[],ρ,A=>.ok (.nx ρ) A
 |t::ts,ρ,A=>(aj (T t ρ) A).bind fun ρ1 A=>(G ρ1 A).bind fun o A=>match o with
  |.nx ρ2=>fz T G ts ρ2 A
  |.ct ρ2=>fz T G ts ρ2 A
  |.bk ρ2=>.ok (.nx ρ2) A
  |.ret t=>.ok (.ret t) A
def gz(T:iU)(G:av->Ab->Rz Out)(l:Rz (List Tr))(ρ:av):Rz Out:=l.bind fun ts A=>fz T G ts ρ A
theorem Oz{tg iter:Expr}{body:List Stmt}{W:av->Rs (List Tr)}{T:iU}(hi:PI X tg iter (tI X W))(hg:PG X tg (tG X T))(hT:fx T)(hb:kF X body (tZ X G))(hp:PassesOwn (model X.prog X.w) X.A X.env X.xe:=by first|exact g7|exact gY) (hc:X.calm=true:=by rfl)
  (hs:isSet iter=false:=by rfl):PS X (.For tg iter body [] pos) (tZ X fun ρ A=>gz T G (aj (W ρ) A) ρ):=
 (vw hp hc hi hg hb (cG hs)).weak fun D σ H ⟨B0,H0,B,A,ρ,nR,g,ha,r,n,q⟩=>⟨B,ρ,ha.hb,r,(gc (cJ.bind q)).mono fun ts qt J H1 s1 gt=>by
  have g1:Grows B0 H0 B H1:=g.trans nR (.of s1);have uk:HB B H1:=ha.hb.same s1;refine⟨fun i m bM H'=>m=ts.length - i/\i<=ts.length/\∃B' A' dF,Grows B H1 B' H'/\HA X.K B' A' H'/\a_ X.K B' H' bM dF/\cQ dF/\cJ (XE X B0 H0) (fz T G (ts.drop i) dF A') (iD X D B0 H0),⟨_,rfl,bK _,B,A,ρ,.refl,ha.same s1,r.same s1,n,qt⟩,?_⟩
  rintro i m bM H' ⟨rfl,hi,B',A',dF,g',dz,r',n',q'⟩
  by_cases dO:i<ts.length
  ·rw[jB dO]at q';refine .inr ⟨gt.go i B' H' dO g'.eR dz.hb,fun mC H2=>∃B2 A2 ρ2,Grows B H1 B2 H2/\HA X.K B2 A2 H2/\a_ X.K B2 H2 mC ρ2/\cQ ρ2/\cJ (XE X B0 H0) (fz T G (ts.drop (i+1)) ρ2 A2) (iD X D B0 H0),
    fun mC H2 x=>⟨ts.length - (i+1),by omega,rfl,dO,x⟩,fun x H2 hx=>?_⟩
   obtain⟨s2,t,et,rt⟩:=gt.yO i B' H' x H2 dO g'.eR dz.hb hx;have GI:ts[i]=t:=by rw[ay dO]at et;exact Option.some.inj et
   rw[GI]at q';have g2:Grows B H1 B' H2:=g'.trans uk (.of s2);refine Ay hT uk g2 (dz.same s2) (r'.same s2) n' rt (cJ.bind q') fun ρ1 wG H3 q1 g3 wJ r3 n3 _=>?_
   refine⟨B,H1,B',A',ρ1,uk,g3,wJ,r3,n3,((cJ.bind q1).imp fun c Tv x=>x.grow nR g1).mono fun o A4 qo=>?_⟩;cases o with
   |nx ρ2=>exact fun xH B4 H4 g4 jJ r4 n4=>⟨B4,A4,ρ2,g4,jJ,r4,n4,qo⟩
   |ct ρ2=>exact fun xH B4 H4 g4 jJ r4 n4=>⟨B4,A4,ρ2,g4,jJ,r4,n4,qo⟩
   |bk ρ2=>exact fun xH B4 H4 g4 jJ r4 n4=>qo xH B4 H4 (g1.trans nR g4) jJ r4 n4
   |ret t=>exact fun v B4 H4 g4 jJ r4=>qo v B4 H4 (g1.trans nR g4) jJ r4
  ·have e:i=ts.length:=by omega
   subst e;rw[i6]at q';exact .inl ⟨gt.stop B' H' g'.eR,q' bM B' H' (g1.trans nR g') dz r' n'⟩⟩
def iN(P:av->Ab->Rz Bool)(G:av->Ab->Rz Out):Nat->av->Ab->Rz Out
 |0,_,_=>.bad
 |m+1,ρ,A=>(P ρ A).bind fun k A=>if k then(G ρ A).bind fun o A=>match o with
   |.nx ρ2=>iN P G m ρ2 A
   |.ct ρ2=>iN P G m ρ2 A
   |.bk ρ2=>.ok (.nx ρ2) A
   |.ret t=>.ok (.ret t) A
  else .ok (.nx ρ) A
theorem G_(m:Nat){body:List Stmt}(hc:PT X c (CQ X P))(hb:kF X body (tZ X G))(hp:PassesOwn (model X.prog X.w) X.A X.env X.xe:=by first|exact g7|exact gY):PS X (.While c body [] pos) (tZ X fun ρ A=>iN P G m ρ A):=
 (C' hp hc hb).weak fun D σ H ⟨B0,H0,B,A,ρ,nR,g,ha,r,n,q⟩=>by
  refine⟨fun k bM H'=>∃B' A' dF,Grows B0 H0 B' H'/\HA X.K B' A' H'/\a_ X.K B' H' bM dF/\cQ dF/\cJ (XE X B0 H0) (iN P G k dF A') (iD X D B0 H0),⟨m,B,A,ρ,g,ha,r,n,q⟩,?_⟩
  rintro k Ia H1 ⟨B1,A1,ρ1,g1,fI,r1,n1,q1⟩
  cases k with
  |zero=>exact(show False from q1).elim
  |succ k=>
   refine DV nR g1 fI r1 n1 (cJ.bind q1) fun t A2 B2 H2 q2 g2 oQ r2=>?_
   cases t with
   |false=>
    rw[ae cR]at q2⊢;exact q2 Ia B2 H2 g2 oQ r2 n1
   |true=>
    rw[ab rfl]at q2⊢;refine⟨fun bM H'=>∃B' A' dF,Grows B0 H0 B' H'/\HA X.K B' A' H'/\a_ X.K B' H' bM dF/\cQ dF/\cJ (XE X B0 H0) (iN P G k dF A') (iD X D B0 H0),fun bM H' h=>⟨k,i7 k,h⟩,?_⟩;refine⟨B0,H0,B2,A2,ρ1,nR,g2,oQ,r2,n1,(cJ.bind q2).mono fun o A4 qo=>?_⟩;cases o with
    |nx ρ2=>exact fun xH B4 H4 g4 jJ r4 n4=>⟨B4,A4,ρ2,g4,jJ,r4,n4,qo⟩
    |ct ρ2=>exact fun xH B4 H4 g4 jJ r4 n4=>⟨B4,A4,ρ2,g4,jJ,r4,n4,qo⟩
    |bk ρ2=>exact qo
    |ret t=>exact qo
end
section
variable {X:Cx}{a e o:Expr}{es:List Expr}{F:av->Ab->Rz Tr}{L:av->Ab->Rz (List Tr)}{name:Str}{apos gk:Pos}{id:String}
def bH(r:Rz Tr)(l:Ab->Rz (List Tr)):Rz (List Tr):=r.bind fun x A=>(l A).bind fun xs A=>.ok (x::xs) A
theorem DW:PA X [] (GY X fun _ A=>.ok [] A):=oJ.weak fun σ H Q ⟨B,A,ρ,ha,r,n,q⟩=>q [] B H .refl ha .nil
theorem Az(h1:PE X a (tE X F))(hr:PA X es (GY X L))(hs:isStar a=false:=by rfl):PA X (a::es) (GY X fun ρ A=>bH (F ρ A) (L ρ)):=
 (lE h1 hr (bC _ _ hs)).weak fun σ H Q ⟨B,A,ρ,ha,r,n,q⟩=>⟨B,A,ρ,ha,r,n,q.bind.mono fun x A1 qx v B1 H1 g1 fI r1=>⟨B1,A1,ρ,fI,r.grow n g1,n,((cJ.bind qx).imp fun c A' x=>x.grow ha.hb g1).mono fun xs A2 qs vs B2 H2 g2 oQ r2=>qs _ B2 H2 (g1.trans ha.hb g2) oQ (.cons (r1.same g2.eR) r2)⟩⟩
def Rk(X:Cx)(r:V->List V->Hp->VK->Prop)(h:Nat->List Tr->Ab->Rz Tr):Prop:=
 ∀(B:bN) (A:Ab) (H:Hp) (a:Addr) (i:Nat) (xs:List V) (ts:List Tr) (Q:VK),HA X.K B A H->B.ix a=some i->aJ X.K (aN B H) xs ts->
  cJ (XE X B H) (h i ts A) (fun t A'=>∀v B' H',Grows B H B' H'->HA X.K B' A' H'->Rep X.K (aN B' H') v t->Q v H')->r (.ref a) xs H Q
def Ha(A:Ab)(i:Nat):Bool:=match A[i]? with
 |some (.lst _)=>true
 |_=>false
theorem Ku{K:PySem.W.Frag}{B:bN}{A:Ab}{H:Hp}{a:Addr}{i:Nat}(ha:HA K B A H)(e:B.ix a=some i)(h:Ha A i=true):∃xs,H a=some (.lst xs):=by
 obtain⟨o,eo,ao⟩:=ha.ex e;unfold Ha at h;rw[eo]at h;cases o with
 |lst ts=>obtain⟨_,vs,h1,_⟩:=ao;exact⟨vs,h1⟩
 |lV _=>cases h
 |aI _=>cases h
 |GX _=>cases h
 |tb _ _=>cases h
 |ins _ _=>cases h
def Kv(h:Nat->List Tr->Ab->Rz Tr)(r:Rz Tr)(l:Ab->Rz (List Tr)):Rz Tr:=r.bind fun t A=>match t with
 |.at i=>if Ha A i=true then(l A).bind fun ts A=>h i ts A else .bad
 |_=>.bad
variable {r:V->List V->Hp->VK->Prop}{h:Nat->List Tr->Ab->Rz Tr}
theorem OA(slot:Slot "list" name id)(Nt:typeOf (.builtin id)=pure (.type "method_descriptor"))(hm:Q7 X id r)(hz:Rk X r h)(ho:PE X o (tE X F))(ha:PA X (e::es) (GY X L))(pa:PlainAttrs "list":=by exact PySem.F.plainAttrs_list)
  (so:isCall o=false:=by rfl) (eJ:bx (e::es)=true:=by rfl) (hn:(e::es).length<30:=by decide) (sq:(apos.endLine==gk.line)=true:=by rfl):
  PE X (.Call (.Attribute o name apos) (e::es) [] gk) (tE X fun ρ A=>Kv h (F ρ A) (L ρ)):=
 (Nr pa slot Nt hm ho ha (Af so) (by rw[sy eJ,bj (show(e::es).length+([]:List Keyword).length+(if([]:List Keyword).isEmpty then 0 else 1)<30 from hn)];rfl) sq (bC _ _ (aU eJ).1) (cx (aU eJ).2)).weak fun σ H Q ⟨B,A,ρ,ha,r,n,q⟩=>⟨B,A,ρ,ha,r,n,q.bind.mono fun t A1 qt v B1 H1 g1 fI rv=>by
  split at qt
  ·rename_i i;obtain⟨a,rfl,sG⟩:=rv.sD;obtain⟨hl,q2⟩:=nQ qt;obtain⟨xs,XB⟩:=Ku fI sG hl;exact⟨.inl ⟨rfl,xs,iA.of XB⟩,B1,A1,ρ,fI,r.grow n g1,n,((cJ.bind q2).imp fun c A' x=>x.grow ha.hb g1).mono fun ts A2 qs vs B2 H2 g2 oQ rs=>hz B2 A2 H2 a i vs ts Q oQ (g2.eR.x _ _ sG) rs ((qs.imp fun c A' x=>x.grow ha.hb (g1.trans ha.hb g2)).mono fun t A3 qt v B3 H3 g3 wJ r3=>qt v B3 H3 ((g1.trans ha.hb g2).trans ha.hb g3) wJ r3)⟩
  ·exact qt.elim⟩
def pW(i:Nat):List Tr->Ab->Rz Tr
 |[t],A=>match A[i]? with
  |some (.lst ts)=>if ts.length<ik then .ok .dv (A.set i (.lst (ts++[t])))else .bad
  |_=>.bad
 |_,_=>.bad
theorem DX:Rk X z_ pW:=by
 intro B A H a i xs ts Q ha sG rs q;unfold pW at q;split at q
 ·obtain⟨y,rfl,r1⟩:=h8 rs;split at q
  ·rename_i eo;obtain⟨hz,q⟩:=nQ q;obtain⟨hd,vs,h1,h2⟩:=ha.get sG eo;obtain⟨g,h3⟩:=ha.write (o:=.lst (_++[_])) (u:=.lst (vs++[y])) sG ⟨hd,_,aH,by rw[lK hd];exact h2.append (.cons r1 .nil)⟩;exact⟨a,vs,y,rfl,rfl,h1,by rw[h2.length,<-h9];exact hz,q .dv B _ g h3 .dv⟩
  ·exact q.elim
 ·exact q.elim
end
def fc(r:Rz Out):Rs Tr:=match r with
 |.ok (.nx _) _=>.ok .dv
 |.ok (.ret t) A=>if iM (bf 3 A t)=true then .ok (bf 3 A t)else .bad
 |_=>.bad
theorem mn{n:Nat}{ts:List Tr}:cQ (startT n ts):=fun i us e=>by
 rcases lG e with q|⟨u,_,q⟩<;>cases q
theorem uh.XC {P:Program}{w:World}{K:PySem.W.Frag}{mg:Str->Option Value}{base:Heap}{x qual:Str}{st:Stmt}{f:Addr}{fd:FuncData}{N ps:List Str}{k:Nat}{h:List Tr->Rs Tr}(Fn:uh K x qual st f fd)(S:eB N ps (aD st))(len:∀ts t,h ts=.ok t->ts.length=ps.length)
  (hZ:∀(dw:Value) (A:Around) (outer:List Env) (s:Shared) (H:Hp) (E:XK),dC k (A.deeper (envOfC qual (aD st) s.heap.objs.size f dw))->
   ∃G,kF (j3 qg P w K mg base N qual (aD st) f dw A outer s H E).CN (dy st) (tZ (j3 qg P w K mg base N qual (aD st) f dw A outer s H E).CN G)/\∀ts t,h ts=.ok t->dh ts=true/\fc (G (startT N.length ts) [])=.ok t):hX P w K mg base qg (k+1) f fd ps (spT K h):=by
 refine Fn.ok S (fun vs H Q E q=>?_) (fun dw A outer s H vs Q E hr q=>?_)
 ·obtain⟨B,ts,hb,r,t,e,_⟩:=q;rw[r.length];exact len ts t e
 ·obtain⟨B,ts,hb,r,t,e,q⟩:=q;obtain⟨G,hG,hE⟩:=hZ dw A outer s H E hr;obtain⟨na,e1⟩:=hE ts t e
  let B0:bN:=⟨B.hd,fun _=>none⟩
  have nR:HB B0 H:=hb;have XD:HA K B0 [] H:=⟨nR,fun i o z=>by simp at z,(fun a b i z=>by cases(show(none:Option Nat)=some i from z)),(fun a i z=>by cases(show(none:Option Nat)=some i from z))⟩;have r0:aJ K (aN B0 H) vs ts:=aJ.DT (W:=aN B H) (W':=aN B0 H) (fun _ _ e=>e) r na;have sm:∀{B':bN} {H':Hp},Grows B0 H B' H'->aw H H':=fun g b o z=>g.kp b o rfl z;refine⟨_,hG,B0,H,B0,[],startT N.length ts,nR,.refl,XD,a_.start r0,mn,?_⟩;cases eo:G (startT N.length ts) []with
  |ok o A1=>
   rw[eo]at e1;cases o with
   |nx ρ=>cases e1;exact fun bM B' H' g ha r' n'=>q .dv H' (sm g) .dv
   |ret u=>
    have e2:(if iM (bf 3 A1 u)=true then Rs.ok (bf 3 A1 u)else .bad)=.ok t:=e1;by_cases z:iM (bf 3 A1 u)=true
    ·rw[ab z]at e2;cases e2;intro v B' H' g ha r';refine q v H' (sm g) (Rep.DT (fun b o z=>?_) (fy ha 3 r') z);have z1:=aK b o z;cases hB:B.hd b with
     |false=>rw[cV hB];exact z1
     |true=>
      have h2:B'.hd b=true:=g.hd b rfl hB;have h3:B'.ix b=none:=by
       cases h4:B'.ix b with
       |none=>rfl
       |some i=>have h5:=g.nw b i h4 rfl;obtain⟨o2,h6,_⟩:=hb b hB;rw[h5]at h6;cases h6
      have z2:(if B'.un.hd b=true then none else H' b)=some o:=z;rw[show B'.un.hd b=(B'.hd b&&(B'.ix b).isNone)from rfl,h2,h3]at z2;cases z2
    ·rw[ae z]at e2;cases e2
   |bk ρ=>cases e1
   |ct ρ=>cases e1
  |exc c A1=>rw[eo]at e1;cases e1
  |bad=>rw[eo]at e1;cases e1
def sH(n m:Nat)(G:av->Ab->Rz Out)(ts:List Tr):Rs Tr:=if ts.length=n/\dh ts=true then fc (G (startT m ts) [])else .bad
theorem DY{n m:Nat}{G:av->Ab->Rz Out}{ts:List Tr}{t:Tr}(h:sH n m G ts=.ok t):ts.length=n:=by
 unfold sH at h;split at h
 ·rename_i z;exact z.1
 ·cases h
theorem Hb{n m:Nat}{G:av->Ab->Rz Out}{ts:List Tr}{t:Tr}(h:sH n m G ts=.ok t):dh ts=true/\fc (G (startT m ts) [])=.ok t:=by
 unfold sH at h;split at h
 ·rename_i z;exact⟨z.2,h⟩
 ·cases h
end L2
namespace L2
open PySem PySem.Spec PyProof.Rows
section
variable {X:Cx}{a b e:Expr}{es:List Expr}{pos:Pos}{F G:av->Rs Tr}{L:av->Rs (List Tr)}{A:av->Rs Bool}
theorem OB(h:PA X es (BN X L)):PE X (.List es pos) (tF X fun ρ=>DH (L ρ)):=
 (Di h).weak fun σ H Q ⟨B,ρ,hb,r,q⟩=>⟨B,ρ,hb,r,q.bind.mono fun ts qt vs H1 s1 r1=>by
  by_cases hz:ts.length<=ik
  ·rw[ab hz]at qt;refine⟨by rw[r1.length,<-h9];exact hz,fun p hp=>qt (.ref p) _ (s1.Gx (s1.free hp)) (.lst ((hb.same s1).new hp) (r1.same (aT (aw.upd hp)))) fun p' e=>by cases e;exact .upd (s1.free hp) (fun _ _ z=>by cases z)⟩
  ·rw[ae hz]at qt;exact qt.elim⟩
theorem Kw:PE X (.Dict [] [] pos) (tF X fun _=>.ok (.aI [])):=
 Dv.weak fun σ H Q ⟨B,ρ,hb,r,q⟩ p hp=>q (.ref p) _ (aw.upd hp) (.aI (.inl (hb.new hp)) rfl .nil) fun p' e=>by cases e;exact .upd hp (fun _ _ z=>by cases z)
variable {scope:Scope}{N':List Str}{ix:List (Option Nat)}{elt iter tg:Expr}{ifs:List Expr}{T:iU}{W:av->Rs (List Tr)}
theorem BY{σ:St}{H:Hp}{Q:VK}(hT:fx T)(q:tF X (fun ρ=>ij ix T A F (W ρ) ρ) σ H Q):Gu (tI X W) ix (CO X.K T) (GH X.K A) (GG X.K F) σ H Q:=by
 obtain⟨B,ρ,hb,r,q⟩:=q;refine⟨B,ρ,hb,r,q.bind.mono fun ts qt J H1 s1 gt D hD=>?_⟩;by_cases hz:ts.length<=ik
 ·rw[ab hz]at qt;exact nF hT (jH ix ρ) (hb.same s1) gt hz ((r.same s1).comp ix (ia hD)) hD (Fi.bind qt) fun ys H' k s' rp=>k _ H' (s1.trans s') rp fun p e=>by cases e;exact .lst (s1.free hD) rp
 ·rw[ae hz]at qt;exact qt.elim
theorem Tw(Lk:eQ X N' ix scope)(hi:PI X tg iter (tI X W))(iT:Iv X scope N' tg elt ifs T A F)(hT:fx T)(hc:X.calm=true:=by rfl) (hs:isSet iter=false:=by rfl):
  PE X (.ListComp elt [⟨tg,iter,ifs,0⟩] scope pos) (tF X fun ρ=>ij ix T A F (W ρ) ρ):=
 (sv Lk hc hi iT.MC (cG hs)).weak fun σ H Q q=>BY hT q
theorem Hc{i:Nat}{x:Str}{px nC:Pos}(Lk:eQ X N' ix scope)(hit:PI X tg iter (tI X W))(iT:Iv X scope N' tg elt ifs T A F)(hT:fx T)(hN:X.N.Nodup:=by assumption) (hc:X.calm=true:=by rfl) (hi:X.N[i]?=some x:=by rfl) (hx:Loc X.env.scope x:=by first|exact Or.inl rfl|exact Or.inr rfl)
  (Gv:swapsWith (.ListComp elt [⟨tg,iter,ifs,0⟩] scope pos) (some (.Name x px)) nC.line X.env=pure true:=by rfl) (hs:isSet iter=false:=by rfl) (hf:X.fn x=true\/X.env.scope.names.lookup x=some .local:=by first|exact .inl rfl|exact .inr rfl|assumption):
  PS X (.Assign [.Name x px] (.ListComp elt [⟨tg,iter,ifs,0⟩] scope pos) nC) (tZ X fun ρ A'=>cK i (aj (ij ix T A F (W ρ) ρ) A') ρ):=
 (xm Lk hc hN hi hx hit iT.MC Gv (cG hs) hf).weak fun D σ H ⟨B0,H0,B,A',ρ,hb,g,ha,r,n,q⟩=>xw hT (pH (F:=fun ρ=>ij ix T A F (W ρ) ρ) (ic (F:=fun ρ A'=>aj (ij ix T A F (W ρ) ρ) A') hb g ha r n q.bind fun t A2 v B' H' qt g' dz r' rv _=>qt _ B' H' g' dz (r'.set i rv) (n.set i t)))
inductive rF(X:Cx)(h:List Tr->Rs Tr)(xs:List V)(H:Hp)(Q:VK):Prop
 |mk (B:bN) (ts:List Tr):HB B H->aJ X.K (aN B H) xs ts->(Fi X H (h ts) fun t=>∀v H',aw H H'->Rep X.K (aN B H') v t->(∀p,v=.ref p->Kp H H' p)->Q v H')->rF X h xs H Q
theorem DZ{T:String}{x:Str}{p:Pos}{e:Expr}{h:List Tr->Rs Tr}(hc:jT X (.type T) (rF X h))(hm:X.mg x=none)(ha:PA X (e::es) (BN X L))(hv:bootBuiltins x=some (.type T):=by rfl) (hg:Gl X x:=by rfl) (hn:x≠"__name__":=by decide) (iS:(x==("__debug__":Str))=false:=by decide)
  (eJ:bx (e::es)=true:=by rfl):PE X (.Call (.Name x p) (e::es) [] pos) (tF X fun ρ=>ba h (L ρ)):=
 (jg hc hg hm hv ha hn iS (bC _ _ (aU eJ).1) (cx (aU eJ).2)).weak fun σ H Q ⟨B,ρ,hb,r,q⟩=>⟨B,ρ,hb,r,q.bind.mono fun ts qt vs H1 s1 r1=>⟨B,ts,hb.same s1,r1,(qt.same s1).mono fun t qt v H2 s2 r2 fr=>qt v H2 (s1.trans s2) r2 fun p e=>⟨s1.free (fr p e).1,(fr p e).2⟩⟩⟩
end
end L2
namespace L2
open PySem PySem.Spec PyProof.Rows
inductive Dk:HO->Prop
 |k (ax:List (Key×V)):Dk (.dK ax)
 |t (ax:List (List Key×V)):Dk (.dT ax)
section
variable {X:Cx}{pins:List (Addr×Obj)}{σ:St}{H H1 H':Hp}{s:Shared}{a:Addr}{o:Obj}{u0:HO}{B:bN}
theorem Inv.frozen (I:Inv X pins σ H s)(ha:H a=some u0)(hk:Dk u0)(ho:s.heap.get? a=some o):Inv X pins σ (upd H a (.gI o u0)) s:=by
 have ne:∀{b:Addr} {u:HO},H b=some u->u≠u0->b≠a:=fun{b u} e d z=>by subst z;rw[ha]at e;cases e;exact d rfl
 have nn:∀{b:Addr},H b=none->b≠a:=fun{b} e z=>by subst z;rw[ha]at e;cases e
 refine⟨I.ok,I.os,I.bare,⟨I.base.keep,I.base.slot,fun b ob e n hx=>?_,I.base.there,fun b xs e=>?_,fun b ob u e=>?_,fun b ps e=>?_⟩,I.loc,I.cell,?_,fun x c e=>?_,fun p hp=>?_,fun b u e=>?_,I.len⟩
 ·have q:=I.base.free b ob e n hx;rw[au (nn q)];exact q
 ·have q:=I.base.lQ b xs e;rw[au (ne q (fun z=>by subst z;cases hk))];exact q
 ·have q:=I.base.jZ b ob u e;rw[au (ne q (fun z=>by subst z;cases hk))];exact q
 ·obtain⟨m,q⟩:=I.base.kE b ps e;exact⟨m,by rw[au (ne q (fun z=>by subst z;cases hk))];exact q⟩
 ·rw[au (nn I.free)];exact I.free
 ·rw[au (nn (I.gy x c e))];exact I.gy x c e
 ·obtain⟨p1,p2,p3⟩:=I.pin p hp;exact⟨p1,by rw[au (nn p2)];exact p2,p3⟩
 ·have ow:∀c d,H c=some (.own d)->upd H a (.gI o u0) c=some (.own d):=fun c d q=>by rw[au (ne q (fun z=>by subst z;cases hk))];exact q
  have tu:∀c xs,H c=some (.tup xs)->upd H a (.gI o u0) c=some (.tup xs):=fun c d q=>by rw[au (ne q (fun z=>by subst z;cases hk))];exact q
  by_cases z:b=a
  ·subst z;rw[aH]at e;cases e;exact⟨ho,(I.bV b _ ha).oE (fun _ _ _ q=>q) (fun c q=>ow c b q) tu⟩
  ·rw[au z]at e;exact(I.bV b u e).oE (fun _ _ _ q=>q) (fun c q=>ow c b q) tu
theorem Inv.Kx (I:Inv X pins σ H s)(ha:H a=some (.gI o u0))(hk:Dk u0)(h0:∀o' u,X.wY a≠some (.gI o' u)):Inv X pins σ (upd H a u0) s:=by
 have ne:∀{b:Addr} {u:HO},H b=some u->u≠ .gI o u0->b≠a:=fun{b u} e d z=>by subst z;rw[ha]at e;cases e;exact d rfl
 have nn:∀{b:Addr},H b=none->b≠a:=fun{b} e z=>by subst z;rw[ha]at e;cases e
 refine⟨I.ok,I.os,I.bare,⟨I.base.keep,I.base.slot,fun b ob e n hx=>?_,I.base.there,fun b xs e=>?_,fun b ob u e=>?_,fun b ps e=>?_⟩,I.loc,I.cell,?_,fun x c e=>?_,fun p hp=>?_,fun b u e=>?_,I.len⟩
 ·have q:=I.base.free b ob e n hx;rw[au (nn q)];exact q
 ·have q:=I.base.lQ b xs e;rw[au (ne q (fun z=>by cases z))];exact q
 ·have q:=I.base.jZ b ob u e;rw[au (fun z=>by subst z;exact h0 _ _ e)];exact q
 ·obtain⟨m,q⟩:=I.base.kE b ps e;exact⟨m,by rw[au (ne q (fun z=>by cases z))];exact q⟩
 ·rw[au (nn I.free)];exact I.free
 ·rw[au (nn (I.gy x c e))];exact I.gy x c e
 ·obtain⟨p1,p2,p3⟩:=I.pin p hp;exact⟨p1,by rw[au (nn p2)];exact p2,p3⟩
 ·have ow:∀c d,H c=some (.own d)->upd H a u0 c=some (.own d):=fun c d q=>by rw[au (ne q (fun z=>by cases z))];exact q
  have tu:∀c xs,H c=some (.tup xs)->upd H a u0 c=some (.tup xs):=fun c d q=>by rw[au (ne q (fun z=>by cases z))];exact q
  by_cases z:b=a
  ·subst z;rw[aH]at e;cases e;exact(I.bV b _ ha).2.oE (fun _ _ _ q=>q) (fun c q=>ow c b q) tu
  ·rw[au z]at e;exact(I.bV b u e).oE (fun _ _ _ q=>q) (fun c q=>ow c b q) tu
structure pX(H H':Hp)(a:Addr)(u u':HO)(u0:HO):Prop where
 fr:H a=some u
 to:H'=upd H a u'
 ok:(u=u0/\∃o,u'=.gI o u0)\/(u'=u0/\∃o,u=.gI o u0)
 dk:Dk u0
variable {u u':HO}
theorem pX.l5 (w:pX H H' a u u' u0){b:Addr}{x:HO}(e:H b=some x)(h1:¬Dk x)(h2:∀o u,Dk u->x≠ .gI o u):H' b=some x:=by
 rw[w.to,au ?_]
 ·exact e
 ·intro z;subst z;rw[w.fr]at e;cases e;rcases w.ok with⟨e1,_⟩|⟨_,o,e1⟩
  ·exact h1 (by rw[e1];exact w.dk)
  ·exact h2 _ _ w.dk e1
theorem gv{B:bN}{H H':Hp}{b:Addr}{x:HO}(e:(aN B H).H b=some x)(h:H b=some x->H' b=some x):(aN B H').H b=some x:=by
 have e':(if B.hd b=true then none else H b)=some x:=e;show(if B.hd b=true then none else H' b)=some x;split at e'
 ·cases e'
 ·rename_i n;rw[ae n];exact h e'
theorem pX.seq {K:PySem.W.Frag}(w:pX H H' a u u' u0){b:Addr}{xs:List V}(h:iA K (aN B H).H b xs):iA K (aN B H').H b xs:=by
 rcases h with(h|⟨o,h⟩)|h
 ·exact .inl (.inl (gv h fun e=>w.l5 e (fun z=>by cases z) fun _ _ d z=>by cases z<;>cases d))
 ·exact .inl (.inr ⟨o,gv h fun e=>w.l5 e (fun z=>by cases z) fun _ _ d z=>by cases z<;>cases d⟩)
 ·exact .inr h
theorem pX.tup {K:PySem.W.Frag}(w:pX H H' a u u' u0){b:Addr}{xs:List V}(h:kG K (aN B H).H b xs):kG K (aN B H').H b xs:=by
 rcases h with(h|⟨o,h⟩)|h
 ·exact .inl (.inl (gv h fun e=>w.l5 e (fun z=>by cases z) fun _ _ d z=>by cases z<;>cases d))
 ·exact .inl (.inr ⟨o,gv h fun e=>w.l5 e (fun z=>by cases z) fun _ _ d z=>by cases z<;>cases d⟩)
 ·exact .inr h
theorem pX.rd (w:pX H H' a u u' u0){b:Addr}{x:HO}(hx:Dk x)(h:Rd (aN B H).H b x):Rd (aN B H').H b x:=by
 by_cases z:b=a
 ·subst z;have hb:B.hd b=false:=by
   cases q:B.hd b with
   |false=>rfl
   |true=>
    have n:(aN B H).H b=none:=by show(if B.hd b=true then none else H b)=none;rw[ab q]
    rcases h with h|⟨o,h⟩<;>(rw[n]at h;cases h)
  have h':Rd H b x:=by unfold Rd at h⊢;rw[cV hb]at h;exact h
  have dk:=w.dk;have ek:x=u0:=by
   rcases h' with h|⟨o,h⟩<;>rw[w.fr]at h<;>rcases w.ok with⟨e1,_⟩|⟨_,o',e1⟩<;>rw[e1]at h<;>cases h
   ·rfl
   ·cases hx
   ·cases dk
   ·rfl
  subst ek;unfold Rd;rw[cV hb,w.to,aH];rcases w.ok with⟨_,o',e1⟩|⟨e1,_⟩
  ·rw[e1];exact .inr ⟨o',rfl⟩
  ·rw[e1];exact .inl rfl
 ·have hn:(aN B H').H b=(aN B H).H b:=by
   show(if B.hd b=true then none else H' b)=(if B.hd b=true then none else H b);rw[w.to,au z]
  unfold Rd;rw[hn];exact h
theorem pX.rep {K:PySem.W.Frag}(w:pX H H' a u u' u0){v:V}{t:Tr}(h:Rep K (aN B H) v t):Rep K (aN B H') v t:=by
 refine Rep.rec (motive_1:=fun v t _=>Rep K (aN B H') v t) (motive_2:=fun vs ts _=>aJ K (aN B H') vs ts) ?_ ?_ ?_ ?_ ?_ ?_ ?_ ?_ ?_ ?_ ?_ ?_ ?_ ?_ ?_ h
 ·exact .dv
 ·exact fun b=>.bl b
 ·exact fun i=>.int i
 ·exact fun z h=>.str z h
 ·exact fun n=>.ty n
 ·exact fun h=>.jz (w.seq h)
 ·exact fun h _ r=>.tup (gv h fun e=>w.l5 e (fun z=>by cases z) fun _ _ d z=>by cases z<;>cases d) r
 ·exact fun h _ r=>.lst (gv h fun e=>w.l5 e (fun z=>by cases z) fun _ _ d z=>by cases z<;>cases d) r
 ·exact fun h e _ r=>.lV (w.rd (.k _) h) e r
 ·exact fun h=>.at h
 ·exact fun h e _ r=>.aI (w.rd (.t _) h) e r
 ·exact fun h e _ r=>.ob (gv h fun e=>w.l5 e (fun z=>by cases z) fun _ _ d z=>by cases z<;>cases d) e r
 ·exact fun h c=>.DE (gv h fun e=>w.l5 e (fun z=>by cases z) fun _ _ d z=>by cases z<;>cases d) c
 ·exact .nil
 ·exact fun _ _ h r=>.cons h r
theorem pX.BZ {K:PySem.W.Frag}(w:pX H H' a u u' u0):∀{vs:List V} {ts:List Tr},aJ K (aN B H) vs ts->aJ K (aN B H') vs ts
 |[],_,h=>by cases h;exact .nil
 |_::_,_,h=>by cases h with|cons h r=>exact .cons (w.rep h) (pX.BZ w r)
theorem pX.zf {K:PySem.W.Frag}{ρ:av}(w:pX H H' a u u' u0)(h:a_ K B H σ ρ):a_ K B H' σ ρ:=
 ⟨h.len,fun i t e=>by obtain⟨v,e1,r⟩:=h.sh i t e;exact⟨v,e1,w.rep r⟩,
   fun i ts e=>by obtain⟨D,ys,e1,e2,e3,r⟩:=h.ow i ts e;exact⟨D,ys,e1,e2,w.l5 e3 (fun z=>by cases z) (fun _ _ d z=>by cases z<;>cases d),w.BZ r⟩,h.ap⟩
theorem pX.hb (w:pX H H' a u u' u0)(h:HB B H):HB B H':=fun b e=>by
 obtain⟨o,q,n⟩:=h b e;by_cases z:b=a
 ·subst z;rw[w.to];refine⟨_,aH,fun vs z=>?_⟩;rcases w.ok with⟨_,o',e1⟩|⟨e1,_⟩
  ·rw[e1]at z;cases z
  ·rw[e1]at z;have d:=w.dk;rw[z]at d;cases d
 ·exact⟨o,by rw[w.to,au z];exact q,n⟩
def vM(X:Cx)(B:bN)(H H':Hp):Prop:=aw H H'\/∃H1 a o u0,Dk u0/\aw H H1/\B.hd a=false/\H1 a=some u0/\H'=upd H1 a (.gI o u0)/\∀o u,X.wY a≠some (.gI o u)
def gf(X:Cx)(H:Hp)(k:Hp->Prop):Prop:=k H\/∃a o u0,Dk u0/\H a=some (.gI o u0)/\(∀o u,X.wY a≠some (.gI o u))/\k (upd H a u0)
theorem gf.inv {k:Hp->Prop}(q:gf X H k)(I:Inv X pins σ H s):∃H',Inv X pins σ H' s/\k H':=by
 rcases q with q|⟨a,o,u0,hk,e,h0,q⟩
 ·exact⟨H,I,q⟩
 ·exact⟨_,I.Kx e hk h0,q⟩
theorem PE.Ky {e:Expr}{t:TE}(h:PE X e t):PE X e (fun σ H Q=>t σ H fun v H'=>gf X H' (Q v)):=fun pins s σ H Q I q=>
 dN (h pins s σ H _ I q) fun u s' ⟨v,H',I',r,z⟩=>by
  obtain⟨H2,I2,q2⟩:=z.inv I';exact⟨v,H2,I2,r,q2⟩
def Ends.Ky (X:Cx)(D:Ends):Ends:=⟨fun σ H=>gf X H (D.nx σ),fun v H=>gf X H (D.rt v),fun σ H=>gf X H (D.bk σ),fun σ H=>gf X H (D.ct σ)⟩
theorem PS.Ky {st:Stmt}{t:TS}(h:PS X st t):PS X st (fun D σ H=>t (D.Ky X) σ H):=fun pins s σ H D I q=>
 dN (h pins s σ H _ I q) fun f s' z=>by
  cases f with
  |next=>obtain⟨bM,H',I',z⟩:=z;obtain⟨H2,I2,q2⟩:=gf.inv z I';exact⟨bM,H2,I2,q2⟩
  |brk=>obtain⟨bM,H',I',z⟩:=z;obtain⟨H2,I2,q2⟩:=gf.inv z I';exact⟨bM,H2,I2,q2⟩
  |cont=>obtain⟨bM,H',I',z⟩:=z;obtain⟨H2,I2,q2⟩:=gf.inv z I';exact⟨bM,H2,I2,q2⟩
  |ret u=>obtain⟨v,bM,H',I',r,z⟩:=z;obtain⟨H2,I2,q2⟩:=gf.inv z I';exact⟨v,bM,H2,I2,r,q2⟩
theorem vM.zf {K:PySem.W.Frag}{ρ:av}(h:vM X B H H')(r:a_ K B H σ ρ):a_ K B H' σ ρ:=by
 rcases h with s|⟨H1,a,o,u0,hk,s,hv,ha,rfl,h0⟩
 ·exact r.same s
 ·exact pX.zf (u:=u0) ⟨ha,rfl,.inl ⟨rfl,o,rfl⟩,hk⟩ (r.same s)
theorem vM.hb (h:vM X B H H')(r:HB B H):HB B H':=by
 rcases h with s|⟨H1,a,o,u0,hk,s,hv,ha,rfl,h0⟩
 ·exact r.same s
 ·exact pX.hb (u:=u0) ⟨ha,rfl,.inl ⟨rfl,o,rfl⟩,hk⟩ (r.same s)
theorem vM.free {p:Addr}(h:vM X B H H')(e:H' p=none):H p=none:=by
 rcases h with s|⟨H1,a,o,u0,hk,s,hv,ha,rfl,h0⟩
 ·exact s.free e
 ·refine s.free ?_
  by_cases z:p=a
  ·subst z;rw[aH]at e;cases e
  ·rw[au z]at e;exact e
theorem vM.back {H2:Hp}{B2:bN}{C:bN}(h:vM X B H H')(si:dg C B H' B2 H2):∃Hu,dg C B H B2 Hu/\(∀{K:PySem.W.Frag} {B3:bN} {v:V} {t:Tr},Rep K (aN B3 H2) v t->Rep K (aN B3 Hu) v t)/\(∀{K:PySem.W.Frag} {σ:St} {ρ:av},a_ K B2 H2 σ ρ->a_ K B2 Hu σ ρ)/\∀k:Hp->Prop,k Hu->gf X H2 k:=by
 rcases h with s|⟨H1,a,o,u0,hk,s,hv,ha,rfl,h0⟩
 ·exact⟨H2,⟨fun b o c e=>si.kp b o c (s _ _ e),(aT s).trans si.eR,si.sub,si.hb⟩,fun r=>r,fun r=>r,fun k q=>.inl q⟩
 ·have e1:(aN B (upd H1 a (.gI o u0))).H a=some (.gI o u0):=by rw[cV hv];exact aH
  have e2:=si.eR.h _ _ e1;have e3:H2 a=some (.gI o u0):=aK _ _ e2;have w:pX H2 (upd H2 a u0) a (.gI o u0) u0 u0:=⟨e3,rfl,.inr ⟨rfl,o,rfl⟩,hk⟩;have Rl:B2.hd a=false:=by
   cases q:B2.hd a with
   |false=>rfl
   |true=>
    have n:(aN B2 H2).H a=none:=by show(if B2.hd a=true then none else H2 a)=none;rw[ab q]
    rw[n]at e2;cases e2
  refine⟨upd H2 a u0,⟨fun b ob c e=>?_,⟨fun b ob e=>?_,fun b i e=>?_⟩,si.sub,w.hb si.hb⟩,fun r=>w.rep r,fun r=>w.zf r,fun k q=>.inr ⟨a,o,u0,hk,e3,h0,q⟩⟩
  ·have q:=s _ _ e;by_cases z:b=a
   ·subst z;rw[ha]at q;cases q;exact aH
   ·rw[au z];exact si.kp b ob c (by rw[au z];exact q)
  ·by_cases z:b=a
   ·subst z;have q:=s _ _ (aK _ _ e);rw[ha]at q;cases q;rw[cV Rl];exact aH
   ·have q:(aN B (upd H1 a (.gI o u0))).H b=some ob:=gv e fun e=>by rw[au z];exact s _ _ e
    exact gv (si.eR.h _ _ q) fun e=>by rw[au z];exact e
  ·exact si.eR.x b i e
theorem vM.IC {H2:Hp}(h:vM X B H H')(hb:HB B H)(s2:aw H' H2):∃Hu,aw H Hu/\(∀{K:PySem.W.Frag} {B3:bN} {v:V} {t:Tr},Rep K (aN B3 H2) v t->Rep K (aN B3 Hu) v t)/\∀k:Hp->Prop,k Hu->gf X H2 k:=by
 obtain⟨Hu,si,r,_,k⟩:=h.back (C:=B) (B2:=B) (H2:=H2) ⟨fun b o _ e=>s2 _ _ e,aT s2,.refl,(h.hb hb).same s2⟩;exact⟨Hu,si.same,r,k⟩
end
def l6:Key->Tr
 |.inl i=>.int i
 |.inr z=>.str z
def keyOk:Key->Bool
 |.inl _=>true
 |.inr z=>decide (z.length<=iB)
theorem B5{K:PySem.W.Frag}{W:Vw}{k:Key}(h:keyOk k=true):Rep K W (kV k) (l6 k):=by
 cases k with
 |inl i=>exact .int i
 |inr z=>exact .str z (cq h)
inductive tJ(X:Cx)(W:av->Rs (List Tr))(σ:St)(H:Hp)(R:It->Hp->Prop):Prop
 |mk (B:bN) (ρ:av):HB B H->a_ X.K B H σ ρ->(Fi X H (W ρ) fun ts=>∀J H',vM X B H H'->kP X.K B J H' ts->R J H')->tJ X W σ H R
section
variable {X:Cx}{pins:List (Addr×Obj)}{σ:St}
variable {a b e:Expr}{es:List Expr}{pos:Pos}{F G:av->Rs Tr}{A:av->Rs Bool}{scope:Scope}{N':List Str}{ix:List (Option Nat)}{elt iter tg:Expr}{ifs:List Expr}{T:iU}{W:av->Rs (List Tr)}
theorem B6{σ:St}{H:Hp}{Q:VK}(hT:fx T)(q:tP X (fun ρ=>ij ix T A F (W ρ) ρ) σ H Q):Gu (tJ X W) ix (CO X.K T) (GH X.K A) (GG X.K F) σ H (fun v H'=>gf X H' (Q v)):=by
 obtain⟨B,ρ,hb,r,q⟩:=q;refine⟨B,ρ,hb,r,q.bind.mono fun ts qt J H1 tf gt D hD=>?_⟩;by_cases hz:ts.length<=ik
 ·rw[ab hz]at qt;exact nF hT (jH ix ρ) (tf.hb hb) gt hz ((tf.zf r).comp ix (ia hD)) hD (Fi.bind qt) fun ys H' k s' rp=>by
   obtain⟨Hu,su,ru,ku⟩:=tf.IC hb s';exact ku _ (k _ Hu su (ru rp))
 ·rw[ae hz]at qt;exact qt.elim
theorem OC(Lk:eQ X N' ix scope)(hi:PI X tg iter (tJ X W))(iT:Iv X scope N' tg elt ifs T A F)(hT:fx T)(hc:X.calm=true:=by rfl) (hs:isSet iter=false:=by rfl):
  PE X (.ListComp elt [⟨tg,iter,ifs,0⟩] scope pos) (tP X fun ρ=>ij ix T A F (W ρ) ρ):=
 (sv Lk hc hi iT.MC (cG hs)).Ky.weak fun σ H Q q=>B6 hT q
end
end L2
namespace L2
open PySem PySem.Spec PyProof.Rows
def kY(xs:Array Nat):Prop:=xs.toList.Pairwise (· <·)
theorem kY.lt {xs:Array Nat}(h:kY xs){i j:Nat}(t8:i<j)(hj:j<xs.size):xs.getD i 0<xs.getD j 0:=by
 have q:=qP.mp h i j (by rw[bc];omega) (by rw[bc];exact hj) t8;rw[b_,b_,bP (by omega),bP hj];simpa using q
theorem sI{xs:Array Nat}{j:Nat}(h:kY xs):∀(f lo hi:Nat),lo<=hi->hi<=xs.size->hi - lo<=f->(∀k,k<lo->xs.getD k 0<j)->(∀k,hi<=k->k<xs.size->j<=xs.getD k 0)->
  ∀p,SetTable.below.go xs j f lo hi=p->p<=xs.size/\(∀k,k<p->xs.getD k 0<j)/\∀k,p<=k->k<xs.size->j<=xs.getD k 0
 |0,lo,hi,h1,h2,h3,h4,h5,p,e=>by
  have:lo=hi:=by omega
  subst this;subst e;exact⟨h2,h4,h5⟩
 |f+1,lo,hi,h1,h2,h3,h4,h5,p,e=>by
  unfold SetTable.below.go at e;by_cases hl:lo<hi
  ·rw[ab hl]at e;dsimp only at e;have hm:(lo+hi)/2<xs.size:=by omega
   have hg:xs.getD ((lo+hi)/2) j=xs.getD ((lo+hi)/2) 0:=by
    rw[b_,b_,bP hm];rfl
   rw[hg]at e;by_cases hv:xs.getD ((lo+hi)/2) 0<j
   ·rw[ab hv]at e;refine sI h f _ hi (by omega) h2 (by omega) (fun k hk=>?_) h5 p e;by_cases Kz:k=(lo+hi)/2
    ·rw[Kz];exact hv
    ·exact kq (h.lt (show k<(lo+hi)/2 by omega) hm) hv
   ·rw[ae hv]at e;refine sI h f lo _ (by omega) (by omega) (by omega) h4 (fun k hk XF=>?_) p e;by_cases Kz:k=(lo+hi)/2
    ·rw[Kz];omega
    ·have:=h.lt (show(lo+hi)/2<k by omega) XF;omega
  ·rw[ae hl]at e;have:lo=hi:=by omega
   subst this;subst e;exact⟨h2,h4,h5⟩
theorem below_at{xs:Array Nat}(h:kY xs)(j:Nat):SetTable.below xs j<=xs.size/\(∀k,k<SetTable.below xs j->xs.getD k 0<j)/\∀k,SetTable.below xs j<=k->k<xs.size->j<=xs.getD k 0:=
 sI h xs.size 0 xs.size (bK _) (aq _) (aq _) (fun k hk=>absurd hk (Nat.not_lt_zero _)) (fun k h1 h2=>absurd h2 (by omega)) _ rfl
theorem zg{xs:Array Nat}(h:kY xs):SetTable.below xs 0=0:=by
 have q:=(below_at h 0).2.1;cases e:SetTable.below xs 0 with
 |zero=>rfl
 |succ n=>exact absurd (q 0 (by omega)) (by omega)
theorem zh{xs:Array Nat}(h:kY xs){i:Nat}(hi:i<xs.size):SetTable.below xs (xs.getD i 0+1)=i+1:=by
 have⟨q0,q1,q2⟩:=below_at h (xs.getD i 0+1);by_cases h1:SetTable.below xs (xs.getD i 0+1)<=i
 ·have:=q2 i h1 hi;omega
 ·by_cases h2:i+1<SetTable.below xs (xs.getD i 0+1)
  ·have:=q1 (i+1) h2;have:=h.lt (show i<i+1 by omega) (by omega);omega
  ·omega
theorem D0{xs:Array Nat}(h:kY xs){j:Nat}(hj:¬xs[SetTable.below xs j]?=some j):kY (SetTable.insertAt xs (SetTable.below xs j) j):=by
 have⟨q0,q1,q2⟩:=below_at h j;generalize SetTable.below xs j=p at*;have e:(SetTable.insertAt xs p j).toList=xs.toList.take p++j::xs.toList.drop p:=by
  unfold SetTable.insertAt;simp;exact qU (by simp)
 unfold kY;rw[e,List.pairwise_append];have gl:∀{k:Nat} (hk:k<xs.toList.length),xs.toList[k]=xs.getD k 0:=fun{k} hk=>by
  rw[b_,bP (by rw[<-bc];exact hk)];simp
 have OD:∀a∈xs.toList.take p,a<j:=fun a ha=>by
  obtain⟨k,hk,e⟩:=List.mem_iff_getElem.mp ha;rw[gX,bc]at hk;rw[List.getElem_take,gl (by rw[bc];omega)]at e;rw[<-e];exact q1 k (by omega)
 have ID:∀b∈xs.toList.drop p,j<b:=fun b hb=>by
  obtain⟨k,hk,e⟩:=List.mem_iff_getElem.mp hb;rw[rD,bc]at hk;rw[List.getElem_drop,gl (by rw[bc];omega)]at e;have h1:=q2 (p+k) (by omega) (by omega);rw[e]at h1;rcases Nat.lt_or_ge j b with h2|h2
  ·exact h2
  ·have h3:b=j:=Nat.le_antisymm h2 h1;subst h3;exfalso;by_cases IE:k=0
   ·subst IE;refine hj ?_
    rw[bP (by omega)];rw[b_,bP (by omega)]at e;simpa using e
   ·have h4:=h.lt (show p<p+k by omega) (by omega);have h5:=q2 p (aq _) (by omega);omega
 refine⟨h.sublist (rm _ _),List.pairwise_cons.mpr ⟨ID,h.sublist (List.drop_sublist _ _)⟩,fun a ha b hb=>?_⟩;rcases a8.mp hb with rfl|hb
 ·exact OD a ha
 ·exact kq (OD a ha) (ID b hb)
end L2
namespace L2
open PySem PySem.Spec PyProof.Rows
theorem jK{α:Type}:∀(l:List α) (i:Nat) (hi:i<l.length),(l[i]::l.eraseIdx i).Perm l
 |x::r,0,_=>List.Perm.refl _
 |x::r,i+1,hi=>by
  have ih:=jK r i (by simpa using hi);have jq:i<r.length:=by simpa using hi
  show(r[i]::x::r.eraseIdx i).Perm (x::r);exact(List.Perm.swap _ _ _).trans (ih.cons x)
theorem perm_back{α β:Type}{f:α->β}(g:β->α)(fe:∀p,g (f p)=p){l:List α}{es:List β}(hp:es.Perm (l.map f)):∃l':List α,es=l'.map f/\l'.Perm l:=by
 have h1:∀e∈es,f (g e)=e:=fun e he=>by
  obtain⟨p,_,rfl⟩:=bp.mp (hp.mem_iff.mp he);rw[fe]
 refine⟨es.map g,?_,?_⟩
 ·rw[bG]
  conv=>lhs;rw[<-List.map_id es]
  exact fO fun e he=>(h1 e he).symm
 ·have h2:=hp.map g;rw[bG,show List.map (g∘f) l=l by
   conv=>rhs;rw[<-List.map_id l]
   exact fO fun p _=>fe p]at h2
  exact h2
section
variable {prog:Program}{w:World}{A:Around}{E:Value->Shared->Prop}{s:Shared}
theorem zi{M:Model}{src:Source}{n:Nat}{Q:Nat->Shared->Prop}(hn:n≠0)(h:∀i,i<n->∀d,Q i {s with drawn:=d}):wpAny M A (choose src n) Q E s:=fun Γ p _=>by
 unfold choose;rw[Sem.wp];refine⟨hn,?_⟩;rw[Sem.wp];exact h _ (fZ _ (Nat.pos_of_ne_zero hn)) _
theorem l7{M:Model}{α:Type}:∀(n:Nat) (xs:List α) (s:Shared) (Q:List α->Shared->Prop),xs.length=n->(∀ys d,ys.Perm xs->Q ys {s with drawn:=d})->wpAny M A (drawOrder n xs) Q E s
 |0,xs,s,Q,hl,h=>by
  cases xs with
  |nil=>exact af (h [] s.drawn (List.Perm.refl _))
  |cons _ _=>cases hl
 |n+1,[],s,Q,hl,h=>by cases hl
 |n+1,x::r,s,Q,hl,h=>by
  unfold drawOrder;refine aa (zi (by simp) fun i hi d=>?_);have hx:(x::r)[i]?=some (x::r)[i]:=ay hi
  rw[hx];dsimp only;refine aa (l7 n _ _ _ (by rw[wU hi];simpa using hl) fun ys d' hp=>?_);refine af (h _ d' ?_);exact(hp.cons _).trans (jK _ i hi)
end
abbrev wK(w:World):Bool:=w.params.followText "set-order"
def kW:Key->Tok->Value
 |.inl i,t=>.int i t
 |.inr x,t=>.str x t
theorem AA{k:Key}{t:Tok}:nq k (kW k t)=true:=by cases k<;>simp[nq,kW,Value.isInt,Value.isStrOf]
end L2
namespace L2
open PySem PySem.Spec PyProof.Rows
theorem cy:Slot "set_iterator" "__next__" "set_iterator.__next__":=.of (owner:="set_iterator") (n:="__next__")
 (by rw[nc,mS];kernel_rfl) (by decide+kernel) (by decide+kernel) (by decide+kernel) (by first|exact .inl (by decide+kernel)|exact .inr (by decide+kernel))
 (by rw[isSubtype_type];kernel_rfl)
theorem jr:entryFor table "set_iterator.__next__"=some Builtin.«set_iterator.__next__»:=entryFor_of_tree (by kernel_rfl)
theorem pI:Manifest.owners.lookup (String.ofList ['r', 'o', 't', 'a', 'r', 'e', 't', 'i', '_', 't', 'e', 's'].reverse)=some Manifest.sig_set_iterator:=by kernel_rfl
theorem jU(a:Value):argsOk "set_iterator.__next__" ⟨[a],[]⟩:=by
 unfold argsOk;rw[signature?_of (id:="set_iterator.__next__") (n:=['_', '_', 't', 'x', 'e', 'n', '_', '_']) (o:=['r', 'o', 't', 'a', 'r', 'e', 't', 'i', '_', 't', 'e', 's']) (by kernel_rfl) pI];kernel_rfl
theorem jV:Slot "set_iterator" "__iter__" "set_iterator.__iter__":=.of (owner:="set_iterator") (n:="__iter__")
 (by rw[nc,mS];kernel_rfl) (by decide+kernel) (by decide+kernel) (by decide+kernel) (by first|exact .inl (by decide+kernel)|exact .inr (by decide+kernel))
 (by rw[isSubtype_type];kernel_rfl)
theorem pY:entryFor table "set.__iter__"=some Builtin.«frozenset.__iter__»:=entryFor_alias (id':="frozenset.__iter__") (by kernel_rfl) rfl (by decide+kernel) (by kernel_rfl)
def pJ(F:Value)(i:Nat)(a:Addr)(n ep:Nat):Obj:={cls:=.type "set_iterator",dict:=none,data:=.fields #[F,rawInt i,.ref a,rawInt n,rawInt ep],slots:=#[]}
section
variable {prog:Program}{w:World}{A:Around}{E:Value->Shared->Prop}{s:Shared}{I a:Addr}{o:Obj}{es:Array (Int×Value)}{ep:Nat}{t:SetTable}
theorem iO{Q:Array (Int×Value)->Shared->Prop}(ho:s.heap.get? a=some o)(hd:o.data=.set es ep t)(hf:t.fits es.size=true)(h:Q es s):wpAny (model prog w) A (setEntries a) Q E s:=by
 unfold setEntries;exact aa (fm ho hd hf (af h))
theorem xI{α:Type}{R:α->Shared->Prop}(hh:A.handled=none)
  (h:∀h' (x:Addr),Shared.TypeIs {s with heap:=h'} (.ref x) "StopIteration"->(∀b o,s.heap.get? b=some o->h'.get? b=some o)->E (.ref x) {s with heap:=h'}):
  wpAny (model prog w) A.in1 (newExc (.type "StopIteration") []) (fun x s'=>wpAny (model prog w) A.in1 (raiseNew x:Sem α) R E s') E s:=by
 simp only[newExc,newTuple];refine aa (cB ?_ (by size_fits));refine aa (m:=firstArgMember _ _) (wpAny_of_eq (a:=Value.none) (by first|rfl|(simp only[firstArgMember];rfl)) ?_);refine cB ?_ (by size_fits)
 simp only[raiseNew];refine aa (wpAny_handled ?_)
 first|rw[show A.in1.handled=none from hh]|rw[hh]
 refine aa (af (wpAny_throw ?_));exact h _ _ ⟨_,aQ _ rfl,rfl⟩ fun b o e=>aB _ (aB _ e)
theorem vN{slot i:Nat}{r:Option (Value×Nat)}{Q:Option Value->Shared->Prop}(hh:A.handled=none)(hit:s.heap.get? I=some (pJ (rawInt slot) i a es.size ep))(ho:s.heap.get? a=some o)(hd:o.data=.set es ep t)(hf:t.fits es.size=true)
  (hn:∀(B:Around) (E':Value->Shared->Prop) (Q':Option (Value×Nat)->Shared->Prop),Q' r s->wpAny (model prog w) B (setNext a slot i ep) Q' E' s)
  (h1:∀x nx,r=some (x,nx)->∀h',h'.get? I=some (pJ (rawInt nx) (i+1) a es.size ep)->Heap.SameBut I s.heap h'->Q (some x) {s with heap:=h'})
  (h2:r=none->∀h',Heap.ExtBut I s.heap h'->Q none {s with heap:=h'}):wpAny (model prog w) A (pyNext (.ref I)) Q E s:=by
 have hT:s.TypeIs (.ref I) "set_iterator":=⟨_,hit,rfl⟩;unfold pyNext;refine aa (kA (jD (name:=Str.ofString "__next__") hT cy (dM cy hT jr ?_ (jU _))));unfold Builtin.«set_iterator.__next__»;refine aa (m:=slotArgs "__next__" 0 _) (af ?_);refine aa (jb hit rfl ?_);dsimp only;refine aa (iO ho hd hf ?_);rw[ae (by simp)];show wpAny _ _ (setNext a (slot:Int).toNat (i:Int).toNat (ep:Int).toNat>>=_) _ _ s;rw[gD,gD,gD];refine aa (hn _ _ _ ?_);cases r with
 |none=>
  dsimp only;refine aa (wpAny_setField hit rfl (by show 2<5;decide) ?_);refine aa (xI hh fun h' x hx hk=>?_);refine aa (ke (T:="StopIteration") (b:=true) hx isSubtype_stop ?_);exact af (h2 rfl _ fun b o hb e=>hk b o ((gC s.heap I _).extBut b o hb e))
 |some p=>
  obtain⟨x,nx⟩:=p;dsimp only;refine aa (j9 hit (by show 0<5;decide) fun fH D1 D2=>?_);refine aa (j9 (s:={s with heap:=fH}) D1 (by show 1<5;decide) fun Gs OE KA=>?_);exact af ⟨_,rfl,af (h1 x nx rfl Gs OE (D2.trans KA))⟩
end
end L2
namespace L2
open PySem PySem.Spec PyProof.Rows
theorem oR:entryFor table "set_iterator.__iter__"=some Builtin.«dict_keyiterator.__iter__»:=entryFor_alias (id':="dict_keyiterator.__iter__") (by kernel_rfl) rfl (by decide+kernel) (by kernel_rfl)
theorem pZ(a:Value):argsOk "set_iterator.__iter__" ⟨[a],[]⟩:=by
 unfold argsOk;rw[signature?_of (id:="set_iterator.__iter__") (n:=['_', '_', 'r', 'e', 't', 'i', '_', '_']) (o:=['r', 'o', 't', 'a', 'r', 'e', 't', 'i', '_', 't', 'e', 's']) (by kernel_rfl) pI];kernel_rfl
theorem AB{α:Type}(next:Nat->Nat):∀(fuel k:Nat) (left:List α) (out:Array α),left.length=fuel->(pickOrder.go next fuel k left out).toList.Perm (out.toList++left)
 |0,k,left,out,h=>by
  rw[List.eq_nil_of_length_eq_zero h];simp[pickOrder.go]
 |fuel+1,k,left,out,h=>by
  have hi:next k % left.length<left.length:=fZ _ (by omega)
  unfold pickOrder.go;rw[ay hi];dsimp only;refine(AB next fuel (k+1) _ _ (by rw[wU hi];omega)).trans ?_
  rw[j7,gE];exact(jK left _ hi).append_left _
theorem B7{α:Type}(next:Nat->Nat)(xs:Array α):(pickOrder next xs).toList.Perm xs.toList:=by
 have h:=AB next xs.size 0 xs.toList #[] (by simp)
 unfold pickOrder;simpa using h
def slotAt(t:SetTable):Nat->Nat
 |0=>0
 |i+1=>t.place.getD i 0+1
theorem sJ{t:SetTable}(h:kY t.place):∀{i:Nat},i<=t.place.size->SetTable.below t.place (slotAt t i)=i
 |0,_=>zg h
 |i+1,hi=>zh h hi
section
variable {prog:Program}{w:World}{A:Around}{E:Value->Shared->Prop}{s:Shared}{I a:Addr}{o:Obj}{es:Array (Int×Value)}{ep:Nat}{t:SetTable}
theorem vO{F:Value}{i n e:Nat}{Q:Value->Shared->Prop}(hit:s.heap.get? I=some (pJ F i a n e))(h:Q (.ref I) s):wpAny (model prog w) A (pyIter (.ref I)) Q E s:=by
 have hT:s.TypeIs (.ref I) "set_iterator":=⟨_,hit,rfl⟩;refine rY hT jV (dM jV hT oR ?_ (pZ _));show wpAny _ _ (ret (.ref I)) _ _ s;exact af ⟨_,rfl,"set_iterator",_,hT,cy.lookup,h⟩
theorem D3{tp:Addr}{i m:Nat}{ot:Obj}{pl:Array Value}{Q:Option Value->Shared->Prop}(hh:A.handled=none)(hit:s.heap.get? I=some (pJ (.ref tp) i a es.size ep))(ho:s.heap.get? a=some o)(hd:o.data=.set es ep t)(hf:t.fits es.size=true)
  (Tx:s.heap.get? tp=some ot) (Rm:ot.data=.seq pl m)
  (h1:∀(p:Nat) (e:Int×Value),pl[i]?=some (rawInt p)->es[p]?=some e->∀h',h'.get? I=some (pJ (.ref tp) (i+1) a es.size ep)->Heap.SameBut I s.heap h'->Q (some e.2) {s with heap:=h'})
  (h2:pl[i]?=none->∀h',Heap.ExtBut I s.heap h'->Q none {s with heap:=h'})
  (pq:∀v,pl[i]?=some v->∃(p:Nat) (e:Int×Value),v=rawInt p/\es[p]?=some e):wpAny (model prog w) A (pyNext (.ref I)) Q E s:=by
 have hT:s.TypeIs (.ref I) "set_iterator":=⟨_,hit,rfl⟩;unfold pyNext;refine aa (kA (jD (name:=Str.ofString "__next__") hT cy (dM cy hT jr ?_ (jU _))));unfold Builtin.«set_iterator.__next__»;refine aa (m:=slotArgs "__next__" 0 _) (af ?_);refine aa (jb hit rfl ?_);dsimp only;refine aa (iO ho hd hf ?_);rw[ae (by simp)];show wpAny _ _ (seqItems? (.ref tp)>>=_) _ _ s;refine aa (ko Tx Rm ?_);dsimp only;rw[gD];cases hv:pl[i]? with
 |none=>
  dsimp only;refine aa (j9 hit (by show 0<5;decide) fun fH D1 D2=>?_);refine aa (j9 (s:={s with heap:=fH}) D1 (by show 2<5;decide) fun Gs OE KA=>?_);refine aa (xI hh fun h' x hx hk=>?_);refine aa (ke (T:="StopIteration") (b:=true) hx isSubtype_stop ?_);exact af (h2 hv _ fun b o hb e=>hk b o (KA.extBut b o hb (D2.extBut b o hb e)))
 |some v=>
  obtain⟨p,e,rfl,he⟩:=pq v hv;show wpAny _ _ (setNextDrawn a (p:Int).toNat (ep:Int).toNat>>=_) _ _ s;rw[gD,gD];refine aa ?_
  unfold setNextDrawn;refine aa (fm ho hd hf ?_);dsimp only;rw[ae (by simp),he];dsimp only;refine af ?_
  refine aa (j9 hit (by show 1<5;decide) fun fH D1 D2=>?_);exact af ⟨_,rfl,af (h1 p e hv he fH D1 D2)⟩
theorem lL{Q:Bool->Shared->Prop}(h:Q (wK w) s):wpAny (model prog w) A setsByText Q E s:=by
 unfold setsByText;exact aa (wpAny_askSetting (af h))
theorem uU{slot i:Nat}{Q:Option (Value×Nat)->Shared->Prop}(hb:wK w=true)(ho:s.heap.get? a=some o)(hd:o.data=.set es ep t)(hf:t.fits es.size=true)
  (h:Q (((pickOrder (w.params.setOrder a ep) es)[i]?).map fun e=>(e.2,slot)) s):wpAny (model prog w) A (setNext a slot i ep) Q E s:=by
 unfold setNext;refine aa (fm ho hd hf ?_);dsimp only;refine aa (lL ?_);rw[hb,ab rfl];simp only[iZ,bS,bB];refine aa ?_
 unfold setWalk;refine aa (fm ho hd hf ?_);dsimp only;refine aa (lL ?_);rw[hb,ab rfl];refine aa (wpAny_askSetting ?_);exact af (af h)
theorem xJ{slot i:Nat}{Q:Option (Value×Nat)->Shared->Prop}(hb:wK w=false)(hl:t.led=true)(hz:t.plain=true\/es.size<=1)(ho:s.heap.get? a=some o)(hd:o.data=.set es ep t)(hf:t.fits es.size=true)
  (h:Q (match es[SetTable.below t.place slot]?,t.place[SetTable.below t.place slot]? with
   |some (_,x),some j=>some (x,j+1)
   |_,_=>none) s):wpAny (model prog w) A (setNext a slot i ep) Q E s:=by
 unfold setNext;refine aa (fm ho hd hf ?_);dsimp only;refine aa (lL ?_);rw[hb];simp only[bS,bB];refine fV (fun uj=>absurd (show(!t.plain&&decide (es.size>1))=true from uj) ?_) (fun _=>?_)
 ·rcases hz with z|z
  ·rw[z];exact cR
  ·rw[aX (p:=es.size>1) (by omega),i_];exact cR
 ·refine aa (m:=(if(!t.led&&!es.isEmpty)=true then unsupported "set:maker-not-led"else pure ())) ?_
  rw[hl,ae (by simp)];exact af (af h)
end
end L2
namespace PySem
section
variable {prog:Program}{w:World}{A:Around}{E:Value->Shared->Prop}{s:Shared}
theorem D4(a:Value){Q₁:Value->Shared->Prop}
  (h:Q₁ (.ref s.heap.objs.size) {s with heap:=s.heap.push {cls:=.type "set",dict:=none,data:=.set #[] 0 (.fresh 0 0 (!L2.wK w))}}):
  codeAny (model prog w) A (.call (.builtin "set.__new__") ⟨[.type "set",a],[]⟩) (wants Q₁ E) s:=by
 refine codeAny_of_tree ?_
 show wpAny _ A.in1 (do checkBuiltinCall "set.__new__" ⟨[.type "set",a],[]⟩;again (.builtin "set.__new__" ⟨[.type "set",a],[]⟩)) _ _ s;refine aa (wpAny_of_eq (F.newCall_set_1 a) (af ⟨fq F.plain_set_new _,fP F.entry_set_new ?_⟩));rw[gA F.plain_set_new _];unfold Builtin.«set.__new__» Builtin.Frozenset.newClass;have Oq:=sub_set_self;obtain⟨hp,g,d,tk,os⟩:=s;dsimp only
 wp_walk
 refine wpAny_askSetting (af ?_);dsimp only;simp only[newObj];refine aa (wpAny_alloc (af ?_));exact af h
end
end PySem
namespace L2
open PySem PySem.Spec PySem.Calls PyProof.Rows
section
variable {prog:Program}{w:World}{A:Around}{E:Value->Shared->Prop}{s:Shared}{a:Addr}{ss:List Key}
theorem D5{Q:Bool->Shared->Prop}(hT:s.TypeIs (.ref a) "set")(h:Q false s):wpAny (model prog w) A (Builtin.List.listLengthHint (.ref a)) Q E s:=by
 unfold Builtin.List.listLengthHint;refine aa (kg hT PySem.F.slot_set_len.lookup ?_);generalize aN:("set.__len__":String)=XG
 wp_delta
 rw[show splitId XG=some ("set","__len__")from by subst aN;decide+kernel];subst aN;refine aa (ke (T:="set") (b:=true) hT (by rw[isSubtype_type];kernel_rfl) ?_);refine fV (fun uj=>absurd uj (by decide)) (fun _=>?_);refine fV (fun _=>?_) (fun uj=>absurd (by decide+kernel) uj);exact aa (fo hT (af h))
end
end L2
namespace L2
open PySem PySem.Spec PyProof.Rows
theorem Inv.AD {X:Cx}{pins:List (Addr×Obj)}{σ:St}{H:Hp}{s:Shared}(I:Inv X pins σ H s)(d:Drawn):Inv X pins σ H {s with drawn:=d}:=
 I.step (h':=s.heap) (H':=H) (g':=s.gens) (t':=s.toks) (d':=d) (ch:=[]) (fun _ z=>nomatch z) (fun b o _ _ _ e _=>e) (fun b o _ _ _ e _=>⟨o.slots,e⟩) (fun b o _ _ n=>n) (fun b o _ e=>⟨o,e⟩) (fun _ _ e=>e) (fun _ _ _ e=>e)
   (fun b ps e=>⟨#[],by rw[e];simp⟩) (fun m hm=>hm) I.bV I.bare
end L2
namespace PySem.SeqAt
open PySem PySem.Spec PySem.Calls PyProof.Rows PySem.MeetsSeq
theorem B8{M:Model}{A:Around}{E:Value->Shared->Prop}{s:Shared}{β:Type}(f:Nat->β->Sem (ForInStep β))(I:List Nat->β->Shared->Prop)(Q:β->Shared->Prop)
  (turn:∀x rest b s,I (x::rest) b s->wpAny M A (f x b) (fun r s'=>match r with|.yield b'=>I rest b' s'|.done b'=>Q b' s') E s)
  (fin:∀b s,I [] b s->Q b s) (n:Nat) (b:β) (h:I (List.range' 0 n) b s):wpAny M A (forIn [:n] b f) Q E s:=by
 rw[Std.Legacy.Range.forIn_eq_forIn_range'];simp only[Std.Legacy.Range.size,kr,Nat.add_sub_cancel,Nat.div_one];exact iz f I Q turn fin _ b h
theorem um(l:Addr)(items:Array Value)(n:Nat)(dd:Option Addr)(sl:Array (Option Value))(x:Value)(e:Value->Bool)(j:Nat)(hj:j<items.size)(hit:e items[j]=true)(JO:∀m (hm:m<items.size),m<j->e items[m]=false):
  Meets (Builtin.«tuple.index» ⟨[.ref l,x],[]⟩)
   (fun A R s=>s.heap.get? l=some {cls:=.type "tuple",dict:=dd,data:=.seq items n,slots:=sl}/\(∀y,y∈items->EqAt A.in1 s y x (e y))/\R (.ok (.ret (.int j s.toks))) {s with toks:=s.toks+1}):=
 .of_wp fun prog w A R s h=>by
  obtain⟨hp,g,d,tk,os⟩:=s;obtain⟨hl,he,h⟩:=h
  wp_walk using wpAny_loadPart' hl,B8 _ (fun rest (b:Option _×Unit) s'=>b.1=none/\s'=⟨hp,g,d,tk,os⟩/\∃i,rest=List.range' i (items.size - i)/\i<=j) _
  case turn=>
   rintro y rest b s' ⟨hb,rfl,i,hr,hi⟩
   have dO:i<items.size:=Nat.lt_of_le_of_lt hi hj;obtain⟨rfl,Dn⟩:y=i/\rest=List.range' (i+1) (items.size - (i+1)):=by
    have e:items.size - i=(items.size - (i+1))+1:=by omega
    rw[e,rH]at hr;injection hr with h1 h2
    exact⟨h1,h2⟩
   rw[bP dO];refine aa (he _ (Array.getElem_mem dO) prog w _ _ ?_);by_cases z:y=j
   ·subst z;rw[hit]
    wp_walk
    exact⟨_,rfl,h⟩
   ·rw[JO y dO (by omega)]
    wp_walk
    exact⟨rfl,rfl,y+1,Dn,by omega⟩
  case fin=>
   rintro b s' ⟨hb,rfl,i,hr,hi⟩
   have e:items.size - i=(items.size - (i+1))+1:=by omega
   rw[e,rH]at hr;exact nomatch hr
  case h=>exact⟨rfl,rfl,0,by rw[Nat.min_self,kr],bK _⟩
end PySem.SeqAt
namespace L2
open PySem PySem.Spec PySem.Calls PyProof.Rows
section
variable {X:Cx}{o e:Expr}{es:List Expr}{p pos JG apos gk:Pos}{F G:av->Rs Tr}{L:av->Rs (List Tr)}
theorem Tz{B:bN}{ρ:av}{H H1:Hp}{k:Tr->Prop}(s1:aw H H1)(q:Fi X H (G ρ) k):Fi X H1 (aF (G ρ) (.ok [])) fun zs=>∃x,zs=[x]/\k x:=by
 have q2:=Fi.same q s1;cases eg:G ρ with
 |ok x=>rw[eg]at q2;exact⟨x,rfl,q2⟩
 |exc c=>rw[eg]at q2;exact q2
 |bad=>rw[eg]at q2;exact q2
variable {c m:Str}{st:Stmt}{ps:List Str}{f:Addr}{fd:FuncData}{k:Nat}{h:List Tr->Rs Tr}
end
end L2
namespace L2
open PySem PySem.Spec PyProof.Rows
def TC(K:PySem.W.Frag)(B:bN)(H:Hp)(E:XK):Tr->Ab->Prop:=fun c A=>∀B' H',Grows B H B' H'->HA K B' A H'->E (Ot K c) none H'
inductive wL(K:PySem.W.Frag)(f:List Tr->Ab->Rz Tr)(vs:List V)(H:Hp)(Q:VK)(E:XK):Prop
 |mk (B:bN) (A:Ab) (ts:List Tr):HA K B A H->aJ K (aN B H) vs ts->(cJ (TC K B H E) (f ts A) fun t A'=>∀v B' H',Grows B H B' H'->HA K B' A' H'->Rep K (aN B' H') v t->Q v H')->wL K f vs H Q E
def dD(r:Rz Out):Rz Tr:=r.bind fun o A=>match o with
 |.nx _=>.ok .dv A
 |.ret t=>.ok t A
 |_=>.bad
theorem uh.t_ {P:Program}{w:World}{K:PySem.W.Frag}{mg:Str->Option Value}{base:Heap}{x qual:Str}{st:Stmt}{f:Addr}{fd:FuncData}{N ps:List Str}{k:Nat}{h:List Tr->Ab->Rz Tr}(Fn:uh K x qual st f fd)(S:eB N ps (aD st))(len:∀ts A,h ts A≠ .bad->ts.length=ps.length)
  (hZ:∀(dw:Value) (A:Around) (outer:List Env) (s:Shared) (H:Hp) (E:XK),dC k (A.deeper (envOfC qual (aD st) s.heap.objs.size f dw))->
   ∃G,kF (j3 (qv P w) P w K mg base N qual (aD st) f dw A outer s H E) (dy st) (tZ (j3 (qv P w) P w K mg base N qual (aD st) f dw A outer s H E) G)/\∀ts A,h ts A≠ .bad->h ts A=dD (G (startT N.length ts) A)):hX P w K mg base (qv P w) (k+1) f fd ps (wL K h):=by
 obtain⟨oc,od,kV,doc,pm,an,dw,ct,z6,rfl,lk,pQ⟩:=Fn.ex;have nb:∀{B:bN} {A:Ab} {H:Hp} {E:XK} {ts:List Tr} {k:Tr->Ab->Prop},cJ (TC K B H E) (h ts A) k->h ts A≠ .bad:=fun{B A H E ts k} q z=>by rw[z]at q;exact q
 refine Dj lk pQ S (fun vs H Q E ⟨B,A,ts,ha,r,q⟩=>by rw[r.length];exact len ts A (nb q)) fun A outer s H vs Q E hr ⟨B,A1,ts,ha,r,q⟩=>?_
 obtain⟨G,hG,hE⟩:=hZ dw A outer s H E hr;refine⟨_,hG,B,H,B,A1,startT N.length ts,ha.hb,.refl,ha,a_.start r,mn,?_⟩;rw[hE ts A1 (nb q)]at q;refine(cJ.bind q).imp (fun c A2 z B' H' g dz e s x=>xG x (z B' H' g dz))|>.mono fun o A2 z=>?_
 cases o with
 |nx ρ=>exact fun bM B' H' g dz r' n'=>z .dv B' H' g dz .dv
 |ret t=>exact fun v B' H' g dz r'=>z v B' H' g dz r'
 |bk ρ=>exact(show False from z).elim
 |ct ρ=>exact(show False from z).elim
def mq(n m:Nat)(G:av->Ab->Rz Out)(ts:List Tr)(A:Ab):Rz Tr:=if ts.length=n then dD (G (startT m ts) A)else .bad
theorem sL{n m:Nat}{G:av->Ab->Rz Out}{ts:List Tr}{A:Ab}(h:mq n m G ts A≠ .bad):ts.length=n:=by
 unfold mq at h;by_cases z:ts.length=n
 ·exact z
 ·rw[ae z]at h;exact absurd rfl h
theorem AE{n m:Nat}{G:av->Ab->Rz Out}{ts:List Tr}{A:Ab}(h:mq n m G ts A≠ .bad):mq n m G ts A=dD (G (startT m ts) A):=by
 unfold mq;rw[ab (sL h)]
section
variable {X:Cx}{o e:Expr}{es:List Expr}{p pos apos:Pos}{F:av->Ab->Rz Tr}{L:av->Ab->Rz (List Tr)}{h:List Tr->Ab->Rz Tr}{x:Str}{st:Stmt}{ps:List Str}{f:Addr}{fd:FuncData}{k:Nat}
theorem KC{B B1:bN}{H H1:Hp}{A1:Ab}{vs:List V}{ts:List Tr}{Q:VK}(hb:HB B H)(g:Grows B H B1 H1)(ha:HA X.K B1 A1 H1)(r:aJ X.K (aN B1 H1) vs ts)(q:cJ (XE X B H) (h ts A1) fun t A'=>∀v B' H',Grows B H B' H'->HA X.K B' A' H'->Rep X.K (aN B' H') v t->Q v H'):wL X.K h vs H1 Q (EX X):=
 ⟨B1,A1,ts,ha,r,(q.imp fun c A' z=>z.grow hb g).mono fun t A' z v B' H' g' dz rv=>z v B' H' (g.trans hb g') dz rv⟩
theorem OF(D:uI X.K X.mg x st ps f fd)(G:hX X.prog X.w X.K X.mg X.base (qv X.prog X.w) k f fd ps (wL X.K h))(hr:dC k X.A)(ha:PA X (e::es) (GY X L))(hx:X.ex=[]:=by rfl) (hg:Gl X x:=by rfl) (iS:(x==("__debug__":Str))=false:=by decide) (eJ:bx (e::es)=true:=by rfl):
  PE X (.Call (.Name x p) (e::es) [] pos) (tE X fun ρ A=>(L ρ A).bind h):=
 (vx (p:=p) (pos:=pos) G hr hg D.mg D.fn.kp D.bd .nil (BX hx) ha (iS:=iS) (he:=bC _ _ (aU eJ).1) (pq:=cx (aU eJ).2)).weak fun σ H Q ⟨B,A,ρ,ha,r,n,q⟩=>⟨B,A,ρ,ha,r,n,q.bind.mono fun ts A1 qt vs B1 H1 g1 fI r1=>by
  show wL X.K h (vs++[]) H1 Q (EX X);rw[dq];exact KC ha.hb g1 fI r1 qt⟩
variable {c m:Str}
end
end L2
namespace L2
open PySem PySem.Spec PyProof.Rows
abbrev VL:List Value:=[.type "ValueError",.type "Exception",.type "BaseException",.type "object"]
structure OG(K:PySem.W.Frag)(mg:Str->Option Value)(x:Str):Prop where
 mg:mg x=some (.ref (clsAt K x))
 ex:PySem.W.excIn K (clsAt K x) VL "ValueError.__new__"=true
theorem B9{e o i:Expr}{p:Pos}{n:Nat}{env:Env}:swapsWith e (some (.Subscript o i p)) n env=pure false:=by cases e<;>rfl
structure OH(K:PySem.W.Frag)(xs:List Str)(f:Str):Prop where
 all:∀x∈xs,Su K (clsAt K x)/\JE K (clsAt K x) f
end L2
namespace L2
open PySem PySem.Spec PyProof.Rows
theorem AG{X:Cx}{H:Hp}{xc:Tr->Ab->Prop}{r:Rs Tr}{A:Ab}{k:Tr->Ab->Prop}(q:cJ xc (gq r A) k):Fi X H r fun t=>pG t=true/\k t A:=by
 cases r with
 |ok t=>exact nQ q
 |exc c=>exact(show False from q).elim
 |bad=>exact q
section
variable {X:Cx}{a b o i e value:Expr}{es:List Expr}{pos pos' p apos gk:Pos}{F G E:av->Ab->Rz Tr}{L:av->Ab->Rz (List Tr)}{h:Tr->Tr->Rs Tr}
def j4(h:Tr->Tr->Rs Tr)(a:Rz Tr)(b:Ab->Rz Tr):Rz Tr:=a.bind fun x A=>(b A).bind fun y A=>gq (h (bf 1 A x) (bf 1 A y)) A
theorem B_{σ:St}{H:Hp}{Q:VK}(q:tE X (fun ρ A=>j4 h (F ρ A) (G ρ)) σ H Q):Mv (rT X h) (tE X F) (tE X G) σ H Q:=by
 obtain⟨B,A,ρ,ha,r,n,q⟩:=q;refine⟨B,A,ρ,ha,r,n,q.bind.mono fun x A1 qx v B1 H1 g1 fI rv=>⟨B1,A1,ρ,fI,r.grow n g1,n,((cJ.bind qx).imp fun c A' z=>z.grow ha.hb g1).mono fun y A2 qy u B2 H2 g2 oQ ru=>?_⟩⟩;refine⟨B2.un,bf 1 A2 x,bf 1 A2 y,xD oQ.hb,fy oQ 1 (rv.same g2.eR),fy oQ 1 ru,(AG qy).mono fun t ⟨ft,k⟩ w H3 s3 lS=>?_⟩;exact k w B2 H3 ((g1.trans ha.hb g2).trans ha.hb (.of s3)) (oQ.same s3) (oP (oQ.same s3) lS ft)
def iP(r:Rz Tr):Rz Bool:=r.bind fun t A=>match t with
 |.bl b=>.ok b A
 |_=>.bad
theorem KD{op:CmpOp}(ho:wI X (compareOp op) h)(h1:PE X a (tE X F))(h2:PE X b (tE X G))(hm:behindInMarks op b=false:=by first|exact oG _|rfl|with_unfolding_all rfl):PT X (.Compare a [op] [b] pos) (CQ X fun ρ A=>iP (j4 h (F ρ A) (G ρ))):=
 (z5 ho h1 h2 hm).weak fun σ H Q ⟨B,A,ρ,ha,r,n,q⟩=>by
  refine B_ (Q:=fun x H'=>∃k,x=.bl k/\Q k H') ⟨B,A,ρ,ha,r,n,(cJ.bind q).mono fun t A' qt v B' H' g' dz rv=>?_⟩;cases rv with
  |bl b=>exact⟨b,rfl,qt B' H' g' dz⟩
  |_=>exact(show False from qt).elim
def pK(h:List Tr->Rs Tr)(l:Rz (List Tr)):Rz Tr:=l.bind fun ts A=>gq (h (ts.map (bf 1 A))) A
theorem zj{h:List Tr->Rs Tr}{σ:St}{H:Hp}{Q:VK}(q:tE X (fun ρ A=>pK h (L ρ A)) σ H Q):Q5 (rC X h) (GY X L) σ H Q:=by
 obtain⟨B,A,ρ,ha,r,n,q⟩:=q;refine⟨B,A,ρ,ha,r,n,q.bind.mono fun ts A1 qt vs B1 H1 g1 fI rs=>?_⟩;exact⟨B1.un,ts.map (bf 1 A1),xD fI.hb,jo (fun r=>fy fI 1 r) rs,(AG qt).mono fun t ⟨ft,k⟩ w H3 s3 lS=>k w B1 H3 (g1.trans ha.hb (.of s3)) (fI.same s3) (oP (fI.same s3) lS ft)⟩
theorem D6{T:String}{x:Str}{h:List Tr->Rs Tr}(hc:jl X (.type T) h)(hm:X.mg x=none)(ha:PA X (e::es) (GY X L))(hv:bootBuiltins x=some (.type T):=by rfl) (hg:Gl X x:=by rfl) (hn:x≠"__name__":=by decide) (iS:(x==("__debug__":Str))=false:=by decide)
  (eJ:bx (e::es)=true:=by rfl):PE X (.Call (.Name x p) (e::es) [] pos) (tE X fun ρ A=>pK h (L ρ A)):=
 (jg hc hg hm hv ha hn iS (bC _ _ (aU eJ).1) (cx (aU eJ).2)).weak fun _ _ _ q=>zj q
end
end L2
namespace L2
open PySem PySem.Spec PyProof.Rows
end L2
namespace L2
open PySem PySem.Spec PyProof.Rows
theorem a_.none {K:PySem.W.Frag}{B:bN}{H:Hp}{σ:St}:a_ K B H σ (List.replicate σ.length .no):=by
 have no:∀(i:Nat) (c:Cell),(List.replicate σ.length Cell.no)[i]?=some c->c=.no:=fun i c e=>by
  rw[mL]at e;split at e
  ·exact(Option.some.inj e).symm
  ·cases e
 exact⟨mP,(fun i t e=>by cases no i _ e),(fun i ts e=>by cases no i _ e),(fun i j ts us D _ e=>by cases no i _ e)⟩
end L2
namespace L2
open PySem PySem.Spec PyProof.Rows
structure AH(K:PySem.W.Frag)(mg:Str->Option Value)(c:Str)(xs:List Str):Prop where
 mg:mg c=some (.ref (clsAt K c))
 all:∀x∈xs,PySem.W.exmOne K (.ref (clsAt K x)) (.ref (clsAt K c))=some true
end L2
namespace L2
open PySem PySem.Spec PyProof.Rows
section
variable {X:Cx}{a b e:Expr}{es:List Expr}{pos:Pos}{F G:av->Rs Tr}{L:av->Rs (List Tr)}{A:av->Rs Bool}{scope:Scope}{N':List Str}{ix:List (Option Nat)}{elt iter tg:Expr}{ifs:List Expr}{T:iU}{W:av->Rs (List Tr)}
theorem zk{σ:St}{H:Hp}{Q:VK}(hT:fx T)(q:tF X (fun ρ=>ij ix T A F (W ρ) ρ) σ H Q):Gu (tJ X W) ix (CO X.K T) (GH X.K A) (GG X.K F) σ H (fun v H'=>gf X H' (Q v)):=by
 obtain⟨B,ρ,hb,r,q⟩:=q;refine⟨B,ρ,hb,r,q.bind.mono fun ts qt J H1 tf gt D hD=>?_⟩;by_cases hz:ts.length<=ik
 ·rw[ab hz]at qt;exact nF hT (jH ix ρ) (tf.hb hb) gt hz ((tf.zf r).comp ix (ia hD)) hD (Fi.bind qt) fun ys H' k s' rp=>by
   obtain⟨Hu,su,ru,ku⟩:=tf.IC hb s';exact ku _ (k _ Hu su (ru rp) fun p e=>by cases e;exact .lst (tf.free hD) (ru rp))
 ·rw[ae hz]at qt;exact qt.elim
theorem D7{i:Nat}{x:Str}{px nC:Pos}(Lk:eQ X N' ix scope)(hit:PI X tg iter (tJ X W))(iT:Iv X scope N' tg elt ifs T A F)(hT:fx T)(hN:X.N.Nodup:=by assumption) (hc:X.calm=true:=by rfl) (hi:X.N[i]?=some x:=by rfl) (hx:Loc X.env.scope x:=by first|exact Or.inl rfl|exact Or.inr rfl)
  (Gv:swapsWith (.ListComp elt [⟨tg,iter,ifs,0⟩] scope pos) (some (.Name x px)) nC.line X.env=pure true:=by rfl) (hs:isSet iter=false:=by rfl) (hf:X.fn x=true\/X.env.scope.names.lookup x=some .local:=by first|exact .inl rfl|exact .inr rfl|assumption):
  PS X (.Assign [.Name x px] (.ListComp elt [⟨tg,iter,ifs,0⟩] scope pos) nC) (tZ X fun ρ A'=>cK i (gr (ij ix T A F (W (bq A' ρ)) (bq A' ρ)) A') ρ):=
 (xm Lk hc hN hi hx hit iT.MC Gv (cG hs) hf).Ky.weak fun D σ H ⟨B0,H0,B,A',ρ,hb,g,ha,r,n,q⟩=>zk (Q:=fun v H'=>D.nx (σ.set i (some v)) H') hT (sF (F:=fun ρ=>ij ix T A F (W ρ) ρ) (ic (F:=fun ρ A'=>gr (ij ix T A F (W (bq A' ρ)) (bq A' ρ)) A') hb g ha r n q.bind fun t A2 v B' H' qt g' dz r' rv _=>qt _ B' H' g' dz (r'.set i rv) (n.set i t)))
end
end L2
namespace L2
open PySem PySem.Spec PyProof.Rows
section
variable {X:Cx}{a b e:Expr}{es:List Expr}{pos:Pos}{F:av->Ab->Rz Tr}{P:av->Ab->Rz Bool}{c n:Str}{tp hp:Pos}{xs:List Str}{i:Nat}{body OI:List Stmt}{TF:Stmt}{G G2:av->Ab->Rz Out}
def Ca(r:Rz Tr):Rz Bool:=r.bind fun t A=>aj (pT t) A
theorem KG(h:PE X a (tE X F))(he:jj a=true:=by rfl):PT X a (CQ X fun ρ A=>Ca (F ρ A)):=
 (w_ h (sC he)).weak fun σ H Q ⟨B,A,ρ,ha,r,n,q⟩=>⟨B,A,ρ,ha,r,n,q.bind.mono fun t A1 qt v B1 H1 g1 fI rv=>by
  obtain⟨b,h1,h2⟩:=xr (rv.same vH) (gc (X:=X) (H:=H1) qt);exact⟨b,h1,h2 B1 H1 g1 fI⟩⟩
variable {st:Stmt}
end
end L2
namespace L2
open PySem PySem.Spec PySem.Calls PyProof.Rows PySem.W
structure OJ(K:Frag)(D:Addr):Prop where
 ga:findIn K (.ref D) "__getattribute__"=some (some (.builtin "BaseException.__getattribute__"))
 gh:findIn K (.ref D) "__getattr__"=some none
 cl:findIn K (.ref D) "__class__"=some (some (.builtin "object.__class__"))
 ob:mroIn K D (.type "object")=some true
 be:mroIn K D (.type "BaseException")=some true
structure IF(K:Frag)(u:Value)(tab:List (Str×Bool)):Prop where
 all:∀x b,tab.lookup x=some b->kitOne K (.ref (clsAt K x)) u=some b/\OJ K (clsAt K x)/\(clsIn K (clsAt K x)).isSome=true
end L2
set_option maxRecDepth 6000
namespace L2
open PySem PySem.Spec PySem.Calls PyProof.Rows
def oS:Heap:={}
theorem ff(b:Addr):oS.get? b=none:=by
 cases e:oS.get? b with
 |none=>rfl
 |some o=>exact absurd (az e) (Nat.not_lt_zero _)
def zl(h:Heap)(L:Addr):List (Addr×Obj):=(List.range h.objs.size).filterMap fun b=>if b=L then none else(h.get? b).map fun o=>(b,o)
theorem zm{h:Heap}{L b:Addr}{o:Obj}:(b,o)∈zl h L↔b≠L/\h.get? b=some o:=by
 unfold zl;rw[iW];constructor
 ·rintro ⟨c,_,e⟩
  by_cases z:c=L
  ·rw[ab z]at e;cases e
  ·rw[ae z]at e;cases q:h.get? c with
   |none=>rw[q]at e;cases e
   |some u=>rw[q]at e;cases e;exact⟨z,q⟩
 ·rintro ⟨n,e⟩
  exact⟨b,cI.mpr (az e),by rw[ae n,e];rfl⟩
section
variable {X:Cx}{pins:List (Addr×Obj)}{σ:St}{H:Hp}{s:Shared}
theorem Inv.xK {m:Str->Option Value}{h':Heap}{tk:Nat}(I:Inv X pins σ H s)(XH:s.heap.Ns X.env.locals m)(hn:h'.Ns X.env.locals m)(kp:∀b o,b≠X.env.locals->s.heap.get? b=some o->h'.get? b=some o):Inv X pins σ H {s with heap:=h',toks:=tk}:=by
 obtain⟨m0,XI,hl⟩:=id I.loc;have C3:=I.C3;have lo:∀{b:Addr} {o:Obj},X.fj.heap.get? b=some o->b≠X.env.locals:=fun{b o} e=>bo (bQ (az e) I.ok.above);have em:m0=m:=by
  obtain⟨o1,ua,Zp,a1,b1,_,d1⟩:=XI;obtain⟨o2,KH,Zq,a2,b2,_,d2⟩:=XH;rw[a1]at a2;cases a2;rw[b1]at b2;cases b2;funext x;rw[<-d1 x,<-d2 x]
 subst em;refine⟨I.ok,I.os,I.bare,⟨fun b o e n hb hx=>kp b o (lo e) (I.base.keep b o e n hb hx),fun b o e n hb hx=>?_,I.base.free,fun b o e hx=>?_,I.base.lQ,I.base.jZ,I.base.kE⟩,⟨m0,hn,fun j y v' e1 e2 e3=>?_⟩,fun y c e=>?_,I.free,I.gy,fun p hp=>?_,fun b u e=>?_,I.len⟩
 ·obtain⟨sl,e1⟩:=I.base.slot b o e n hb hx;exact⟨sl,kp b _ (lo e) e1⟩
 ·obtain⟨o',e1⟩:=I.base.there b o e hx;exact⟨o',kp b o' (lo e) e1⟩
 ·obtain⟨u',r',q⟩:=hl j y v' e1 e2 e3;refine⟨u',r',?_⟩;rcases q with⟨k,e⟩|⟨k,c,e,z⟩
  ·exact .inl ⟨k,e⟩
  ·obtain⟨oc,e5,e6⟩:=id z;exact .inr ⟨k,c,e,oc,kp c oc (C3 y c e) e5,e6⟩
 ·obtain⟨w',z⟩:=I.cell y c e;obtain⟨oc,e5,e6⟩:=id z;exact⟨w',oc,kp c oc (C3 y c e) e5,e6⟩
 ·obtain⟨e,n,ne,nf,d⟩:=I.pin p hp;exact⟨kp p.1 p.2 ne e,n,ne,nf,d⟩
 ·refine(I.bV b u e).oE (fun c w' hc q=>kp c w' ?_ q) (fun _ q=>q) fun _ _ q=>q
  rintro rfl
  rcases hc with rfl|hc
  ·rw[I.free]at e;cases e
  ·rw[I.free]at hc;cases hc
end
def pL:List Tr->Rs Tr
 |[.lV aA]=>.ok (.int aA.length)
 |ts=>GV ts
theorem vP{X:Cx}:jl X (.builtin "len") pL:=by
 intro pins s σ H xs us Q I rv ⟨B,ts,hb,r,q⟩;by_cases z:∃aA,ts=[.lV aA]
 ·obtain⟨aA,rfl⟩:=z;cases r with
  |cons h r=>
   cases r;cases h with
   |@lV a ax _ h ek rr=>
    obtain⟨u,rfl,ru⟩:=vals1 rv;cases ru;have hl:ax.length=aA.length:=by have:=b9 List.length ek;rw[ak,ak]at this;exact this
    exact Nx I (h.same aK) fun t s' I'=>⟨.int ax.length,H,I',⟨t,rfl⟩,(show∀v H',aw H H'->Rep X.K (aN B H') v (.int aA.length)->Q v H' from q) _ H (aw.refl H) (by rw[hl];exact .int _)⟩
 ·have e:pL ts=GV ts:=by
   unfold pL;split
   ·exact absurd ⟨_,rfl⟩ z
   ·rfl
  rw[e]at q;exact Oi pins s σ H xs us Q I rv ⟨B,ts,hb,r,q⟩
end L2
namespace L2
open PySem PySem.Spec PySem.Calls PyProof.Rows
theorem Cb:typeLookup (.type "list") "keys"=pure none:=by rw[nc,mS];kernel_rfl
section
variable {prog:Program}{w:World}{A:Around}{E:Value->Shared->Prop}{s:Shared}{a:Addr}{xs:Array Value}{k:Nat}{sl:Array (Option Value)}
theorem zo{Q:Option Value->Shared->Prop}(hx:s.heap.get? a=some {cls:=.type "list",dict:=none,data:=.seq xs k,slots:=sl}) (hA:A.handled=none)
  (h:∀h' tk,(∀b o,s.heap.get? b=some o->h'.get? b=some o)->Q none {s with heap:=h',toks:=tk}):wpAny (model prog w) A (getAttr? (.ref a) "keys") Q E s:=by
 obtain⟨hp,g,d,tk,os⟩:=s;have hT:∀vQ,(⟨hp,g,d,vQ,os⟩:Shared).TypeIs (.ref a) "list":=fun _=>⟨_,hx,rfl⟩;have f1:=sub_AttributeError;have f3:=qY.lookup;have f4:=qY.bind (.ref a);have f5:=am_list_getattr_none;unfold getAttr? getAttrBy? getAttrBy
 repeat(any_goals (first|assumption|exact hT _|((with_reducible show wpAny _ _ (call (Value.builtin "list.__getattribute__") _ _) _ _ _);refine hJ qY (hT _) am_entry_list_getattribute (F.args_list_getattribute_2 _ _) (meets_getattribute_miss_list a xs k sl "keys" _ Cb (by decide+kernel) (by size_fits)) ⟨hx,hA,fun h' vQ e Cc=>?_⟩)|wp_step))
 obtain⟨t',u',he⟩:=Cc.there;have TH:∀vQ,(⟨h',g,d,vQ,os⟩:Shared).TypeIs (.ref e) "AttributeError":=fun _=>⟨_,he,rfl⟩;show wpAny _ _ (getattributeRaised _ _ _ _ _ _ _) _ _ _;unfold getattributeRaised
 repeat(any_goals (first|assumption|exact TH _|wp_step))
 exact h h' vQ Cc.of.keeps
theorem uV:entryFor table "dict.update.loop"=some Builtin.«dict.update.loop»:=entryFor_of_tree (by kernel_rfl)
theorem js:plainId "dict.update.loop"=true:=by decide+kernel
end
end L2
namespace L2
open PySem PySem.Spec PySem.Calls PyProof.Rows Builtin Builtin.ObjectAttr
structure OK(K:PySem.W.Frag)(f:Addr):Prop where
 get:PySem.W.specialIn K (.ref f) "__get__"=some (some (.builtin "function.__get__"))
 tk:PySem.W.takesIn K (.ref f)=some false
end L2
namespace HT
open PySem PyProof.Rows
section
variable {prog:Program}{w:World}{A:Around}{E:Value->Shared->Prop}{s:Shared}
theorem lW{t sl:Addr}{items:Array Value}{vl vu:Value}{lo hi:Option Int}{Q:Value->Shared->Prop}(ht:IsTup s.heap t items)(hs:s.heap.IsSliceOf sl vl vu .none)(pl:IsPart vl lo)(pu:IsPart vu hi)
  (hw:fb items.size 0 lo=0/\fb items.size items.size hi=items.size) (h:Q (.ref t) s):wpAny (model prog w) A (getItem (.ref t) (.ref sl)) Q E s:=by
 obtain⟨os,BI,JN,FK⟩:=id hs;have SJ:s.TypeIs (.ref sl) "slice":=⟨os,BI,JN⟩;unfold getItem
 try with_reducible refine cu ?_
 first|refine aa (af ?_)|skip
 refine aa (rV ht.typeIs (by decide) ?_);refine aa (jD (name:=Str.ofString "__getitem__") ht.typeIs fN
  (dM fN ht.typeIs entry_tuple_getitem ?_ (args_tuple_getitem _ _)))
 show wpAny _ _ (Builtin.Tuple.tupleItemsOf (.ref t)>>=_) _ _ s;refine aa (tupleItemsOf_ ht ?_);refine aa (fo SJ ?_);rw[ab (by decide)];refine aa (jh hs pl pu ?_);have TJ:((((fb items.size 0 lo:Nat):Int)==0&&(1:Int)==1&&(fb items.size items.size hi - fb items.size 0 lo)==items.size)=true):=by
  rw[hw.1,hw.2];simp
 show wpAny _ _ (if(((fb items.size 0 lo:Nat):Int)==0&&(1:Int)==1&&(fb items.size items.size hi - fb items.size 0 lo)==items.size)=true then _ else _) _ _ s;rw[ab TJ];refine aa (m:=Builtin.Tuple.tupleIsExact (.ref t)) ?_
 show wpAny _ _ (typeOf (.ref t)>>=_) _ _ s;refine aa (fo ht.typeIs (af ?_));rw[ab (by decide)];exact aa (hW (af ⟨_,rfl,af h⟩))
end
end HT
namespace L2
open PySem PySem.Spec PyProof.Rows
def zp:Tr->Option Int->Option Int->Rs Tr
 |.tup ts,lo,hi=>.ok (.tup (vK ts lo hi))
 |t,lo,hi=>Tn t lo hi
def KI(r:Rs Tr)(lo hi:Rs (Option Int)):Rs Tr:=r.bind fun t=>lo.bind fun l=>hi.bind fun h=>zp t l h
theorem zq{α:Type}{ts:List α}{lo hi:Option Int}(h:jI ts.length lo hi=true):vK ts lo hi=ts:=by
 unfold jI at h;rw[aE]at h;unfold vK;rw[eq_of_beq h.1,eq_of_beq h.2,List.drop_zero,kr,rJ]
section
variable {X:Cx}{e:Expr}{F:av->Rs Tr}{P1 P2:av->Rs (Option Int)}{lo hi:Option Expr}{p2 pos:Pos}
inductive OL(X:Cx)(x:V)(lo:Option Int)(hi:Option Int)(H:Hp)(Q:VK):Prop
 |mk (B:bN) (t:Tr):HB B H->Rep X.K (aN B H) x t->(Fi X H (zp t lo hi) fun t=>∀v H',aw H H'->Rep X.K (aN B H') v t->Q v H')->OL X x lo hi H Q
theorem OM:Mz X (OL X):=by
 intro pins s σ H x v vl vu lo hi sl Q I rx hs pl pu ⟨B,t,hb,r,q⟩;by_cases hw:∃ts,t=.tup ts/\jI ts.length lo hi=true
 ·obtain⟨ts,rfl,hw⟩:=hw;have q':∀v H',aw H H'->Rep X.K (aN B H') v (.tup (vK ts lo hi))->Q v H':=q;rw[zq hw]at q';have r0:=r;cases r with
  |@tup a vs _ h rr=>
   cases rx;have h:=Rh (K:=X.K) h;obtain⟨aV,r2,ht,hz⟩:=I.tuple h.up;have hlen:aV.toArray.size=ts.length:=by rw[aS,<-r2.length];exact rr.length
   refine⟨"tuple",_,fN.lookup,ht.typeIs,?_⟩;unfold jI at hw;rw[aE]at hw;exact HT.lW ht hs pl pu (by rw[hlen];exact⟨eq_of_beq hw.1,eq_of_beq hw.2⟩) ⟨.ref a,H,I,rfl,q' _ H (aw.refl H) r0⟩
 ·have e:zp t lo hi=Tn t lo hi:=by
   cases t with
   |tup ts=>
    have:¬jI ts.length lo hi=true:=fun z=>hw ⟨ts,rfl,z⟩;exact(ae this).symm
   |_=>rfl
  rw[e]at q;exact To pins s σ H x v vl vu lo hi sl Q I rx hs pl pu ⟨B,t,hb,r,q⟩
theorem ON(he:PE X e (tP X F))(hl:PO X lo (tO X P1))(hu:PO X hi (tO X P2)):PE X (.Subscript e (.Slice lo hi none p2) pos) (tP X fun ρ=>KI (F ρ) (P1 ρ) (P2 ρ)):=
 (Dq OM he hl hu).weak fun σ H Q ⟨B,ρ,hb,r,q⟩=>⟨B,ρ,hb,r,q.bind.mono fun t qt v H1 s1 r1=>⟨B,ρ,hb.same s1,r.same s1,(qt.bind.same s1).mono fun l ql H2 s2=>⟨B,ρ,hb.same (s1.trans s2),r.same (s1.trans s2),(ql.bind.same (s1.trans s2)).mono fun h qh H3 s3=>
  ⟨B,t,hb.same ((s1.trans s2).trans s3),r1.same (aT (s2.trans s3)),(qh.same ((s1.trans s2).trans s3)).mono fun t qt v H4 s4 r4=>qt v H4 (((s1.trans s2).trans s3).trans s4) r4⟩⟩⟩⟩
end
end L2
namespace L2
open PySem PySem.Spec PySem.Calls PyProof.Rows
def cY{α:Type}(n:Nat)(lt:Nat->Nat->Bool):PySem.W.KasT α->Option α
 |.ret a=>some a
 |.ask i j k=>if i<n/\j<n/\i≠j then cY n lt (k (lt i j))else none
theorem lM{α:Type}{n:Nat}{lt:Nat->Nat->Bool}{cmp:Nat->Nat->(Bool->Shared->Prop)->Shared->Prop}{Q:α->Shared->Prop}{s:Shared}(hc:∀i j C,i<n->j<n->i≠j->C (lt i j) s->cmp i j C s):∀(t:PySem.W.KasT α) {a:α},cY n lt t=some a->Q a s->t.kasWp cmp Q s
 |.ret b,a,e,h=>by cases e;exact h
 |.ask i j k,a,e,h=>by
  unfold cY at e;by_cases z:i<n/\j<n/\i≠j
  ·rw[ab z]at e;exact hc i j _ z.1 z.2.1 z.2.2 (lM hc (k (lt i j)) e h)
  ·rw[ae z]at e;cases e
theorem Inv.adopt {X:Cx}{pins:List (Addr×Obj)}{σ:St}{H:Hp}{s:Shared}{b:Addr}{o:HO}(I:Inv X pins σ H s)(h0:X.fj.heap.objs.size<=b)(f:lR X pins H b)(new:bY X.prog X.w (upd H b o) s.heap b o):Inv X pins σ (upd H b o) s:=by
 obtain⟨hn,hL,_,_,hC,hP⟩:=f;refine⟨I.ok,I.os,I.bare,⟨I.base.keep,I.base.slot,fun c u e n hx=>?_,I.base.there,fun c xs e=>?_,fun c u v e=>?_,fun c ps e=>?_⟩,I.loc,I.cell,?_,fun x c e=>?_,fun p hp=>?_,fun c u e=>?_,I.len⟩
 ·rw[au (bo (bQ (az e) h0))];exact I.base.free c u e n hx
 ·have q:=I.base.lQ c xs e;rw[au (br q hn)];exact q
 ·have q:=I.base.jZ c u v e;rw[au (br q hn)];exact q
 ·obtain⟨more,q⟩:=I.base.kE c ps e;exact⟨more,by rw[au (br q hn)];exact q⟩
 ·rw[au hL.symm];exact I.free
 ·rw[au (hC x c e)];exact I.gy x c e
 ·obtain⟨e,n,r⟩:=I.pin p hp;exact⟨e,by rw[au (hP p hp)];exact n,r⟩
 ·by_cases z:c=b
  ·subst z;rw[aH]at e;cases e;exact new
  ·rw[au z]at e;exact(I.bV c u e).oE (fun _ _ _ q=>q) (fun d q=>by rw[au (br q hn)];exact q) fun d xs q=>by rw[au (br q hn)];exact q
end L2
namespace L2
open PySem PySem.Spec PySem.Calls PyProof.Rows
section
variable {prog:Program}{w:World}{A:Around}{E:Value->Shared->Prop}{s:Shared}
theorem jW{a:Addr}{vs:List Value}{n:Nat}{P:PySem.Fin->Shared->Prop}(ho:s.heap.get? a=some (seqObj "list" vs.toArray n))(h2:vs.length<2)
  (h:∀h' c,(∀b o,b≠a->s.heap.get? b=some o->h'.get? b=some o)->h'.get? a=some (seqObj "list" vs.toArray c)->P (.done (.ret .none)) {s with heap:=h'}):
  wpAny (model prog w) A (Builtin.«list.sort» ⟨[.ref a],[]⟩) P E s:=by
 rw[list_sort_plain];have ha:a<s.heap.objs.size:=az ho;refine aa (listItems_at ho rfl ?_);refine aa (je ho rfl ?_ (by rw[aS,bT];omega) (bK _));obtain⟨e1,IG⟩:∃e1,(s.heap.update a (Obj.mapSeq fun _=>#[])).get? a=some (seqObj "list" #[] e1):=⟨_,ni ho (fun _=>#[])⟩;refine aa (seqEpoch_at IG rfl ?_);refine aa (wpAny_newTuple ?_ (by rw[bT];simp;omega));refine aa (jd ?_ (bK _));refine cu ?_
 have VM:(((s.heap.update a (Obj.mapSeq fun _=>#[])).push (seqObj "tuple" vs.toArray 0)).push (seqObj "list" #[] 0)).get? a=some (seqObj "list" #[] e1):=by
  rw[Heap.get?_push_ne _ _ _ (by rw[size_push',Heap.size_update];exact bo (i3 ha)),Heap.get?_push_ne _ _ _ (by rw[Heap.size_update];exact bo ha)];exact IG
 show wpAny (model prog w) A _ P E {s with heap:=((s.heap.update a (Obj.mapSeq fun _=>#[])).push (seqObj "tuple" vs.toArray 0)).push (seqObj "list" #[] 0)};dsimp only;have FN:vs.toArray.size<2:=by simpa using h2
 rw[ab FN,ab FN];refine aa (af ?_);rw[StateT.run_pure];refine aa (af ?_);dsimp only;refine aa (seqEpoch_at VM rfl ?_);refine aa (je VM rfl ?_ (bK _) (by rw[Array.size_map];show(pairsOf vs).size<=_;rw[pairsOf_size,bT];omega));simp only[iZ,bS,bB];refine af ?_
 have eo:(vs.toArray.zip vs.toArray).map (·.2)=vs.toArray:=by
  apply Array.toList_inj.mp;simp only[Array.toList_map,Array.toList_zip];exact List.map_snd_zip (aq _)
 obtain⟨e,he⟩:=sortedHeap_at (out:=(vs.toArray.zip vs.toArray).map (·.2)) ho;refine h (sortedHeap s.heap a vs ((vs.toArray.zip vs.toArray).map (·.2))) e (fun b o hb q=>(sortedHeap_old hb (az q)).trans q) ?_
 rw[he,eo]
end
def qw(h:Heap)(L D:Addr):List (Addr×Obj):=(zl h L).filter fun p=>decide (p.1≠D)
theorem cE{h:Heap}{L D b:Addr}{o:Obj}:(b,o)∈qw h L D↔b≠L/\b≠D/\h.get? b=some o:=by
 unfold qw;rw[cC,zm,cp];exact⟨fun z=>⟨z.1.1,z.2,z.1.2⟩,fun z=>⟨⟨z.1,z.2.2⟩,z.2.1⟩⟩
section
variable {X:Cx}
variable {o:Expr}{p1 apos gk pos:Pos}{F:av->Rs Tr}
theorem qz{K:PySem.W.Frag}{W:Vw}{f:Nat->V}{g:Nat->Tr}:∀{p:List Nat},(∀i∈p,Rep K W (f i) (g i))->aJ K W (p.map f) (p.map g)
 |[],_=>.nil
 |i::p,h=>.cons (h i (aP ..)) (qz fun j m=>h j (aO _ m))
end
end L2
namespace L2
open PySem PySem.Spec PyProof.Rows
structure QE(X:Cx)(e:Expr)(F:av->Rs Tr):Prop where
 h:PE X e (tP X F)
structure QT(X:Cx)(e:Expr)(F:av->Rs Bool):Prop where
 h:PT X e (tQ X F)
structure QA(X:Cx)(e:List Expr)(F:av->Rs (List Tr)):Prop where
 h:PA X e (BN X F)
structure QS(X:Cx)(e:Stmt)(F:av->Rs Out):Prop where
 h:PS X e (tS X F)
structure QB(X:Cx)(e:List Stmt)(F:av->Rs Out):Prop where
 h:kF X e (tS X F)
structure QG(X:Cx)(e:Expr)(F:iU):Prop where
 h:PG X e (tG X F)
structure Rn(X:Cx)(e:List Expr)(F:List Tr->av->Rs av):Prop where
 h:F4 X e (MB X F)
structure QI(X:Cx)(tg e:Expr)(F:av->Rs (List Tr)):Prop where
 h:PI X tg e (tI X F)
structure QJ(X:Cx)(tg e:Expr)(F:av->Rs (List Tr)):Prop where
 h:PI X tg e (tJ X F)
structure QO(X:Cx)(e:Option Expr)(F:av->Rs (Option Int)):Prop where
 h:PO X e (tO X F)
structure QF(X:Cx)(e:List Expr)(F:av->Rs Bool):Prop where
 h:PF X e (tQ X F)
structure ZE(X:Cx)(e:Expr)(F:av->Ab->Rz Tr):Prop where
 h:PE X e (tE X F)
structure ZO(X:Cx)(e:Expr)(F:av->Ab->Rz Tr):Prop where
 h:PE X e (tE X F)
theorem IH{X:Cx}{e:Expr}{F:av->Ab->Rz Tr}(h:ZE X e F):ZO X e F:=⟨h.h⟩
structure NE(X:Cx)(e:Expr)(F:av->Rs Tr):Prop where
 h:PE X e (tF X F)
structure ZT(X:Cx)(e:Expr)(F:av->Ab->Rz Bool):Prop where
 h:PT X e (CQ X F)
structure ZL(X:Cx)(e:List Expr)(F:av->Ab->Rz (List Tr)):Prop where
 h:PA X e (GY X F)
structure ZS(X:Cx)(e:Stmt)(F:av->Ab->Rz Out):Prop where
 h:PS X e (tZ X F)
structure ZB(X:Cx)(e:List Stmt)(F:av->Ab->Rz Out):Prop where
 h:kF X e (tZ X F)
structure xM(X:Cx)(scope:Scope)(N':List Str)(tg elt:Expr)(ifs:List Expr)(T:iU)(A:av->Rs Bool)(F:av->Rs Tr):Prop where
 all:∀s H ex,QG (kL X scope N' s H ex) tg T/\QF (kL X scope N' s H ex) ifs A/\QE (kL X scope N' s H ex) elt F
theorem xM.to {X:Cx}{scope:Scope}{N':List Str}{tg elt:Expr}{ifs:List Expr}{T:iU}{A:av->Rs Bool}{F:av->Rs Tr}(b:xM X scope N' tg elt ifs T A F):Iv X scope N' tg elt ifs T A F:=
 ⟨fun s H ex=>⟨(b.all s H ex).1.h,(b.all s H ex).2.1.h,(b.all s H ex).2.2.h⟩⟩
section
variable {X:Cx}{a b c:Expr}{pos:Pos}{F G E:av->Rs Tr}
theorem ai(i:Nat){x:Str}{pos:Pos}(hN:X.N[i]?=some x:=by rfl) (hv:Jn X.env.scope x:=by first|exact Or.inl rfl|exact Or.inr (Or.inl rfl)|exact Or.inr (Or.inr rfl)) (hd:(x==("__debug__":Str))=false:=by decide) (pQ:(x==("__classdict__":Str))=false:=by decide):QE X (.Name x pos) (fun ρ=>ar ρ i):=⟨NW i hN hv hd pQ⟩
theorem cH{i:Int}{j pos}:QE X (.Constant (.int i) j pos) (fun _=>.ok (.int i)):=⟨NX⟩
theorem xN{b:Bool}{j pos}:QE X (.Constant (.bool b) j pos) (fun _=>.ok (.bl b)):=⟨Tb⟩
theorem jt{op:Operator}{h:Tr->Tr->Rs Tr}(ho:wI X (binaryOp op) h)(ha:QE X a F)(hb:QE X b G):QE X (.BinOp a op b pos) (fun ρ=>cM h (F ρ) (G ρ)):=⟨NY ho ha.h hb.h⟩
theorem OO{op:CmpOp}{h:Tr->Tr->Rs Tr}(ho:wI X (compareOp op) h)(ha:QE X a F)(hb:QE X b G)(hm:behindInMarks op b=false:=by first|exact oG _|rfl|with_unfolding_all rfl):QE X (.Compare a [op] [b] pos) (fun ρ=>cM h (F ρ) (G ρ)):=⟨NZ ho ha.h hb.h hm⟩
theorem ie{op:CmpOp}{h:Tr->Tr->Rs Tr}(ho:wI X (compareOp op) h)(ha:QE X a F)(hb:QE X b G)(hm:behindInMarks op b=false:=by first|exact oG _|rfl|with_unfolding_all rfl):QT X (.Compare a [op] [b] pos) (fun ρ=>iL (cM h (F ρ) (G ρ))):=⟨N0 ho ha.h hb.h hm⟩
theorem II(ha:QE X a F)(he:jj a=true:=by rfl):QT X a (fun ρ=>(F ρ).bind pT):=⟨N1 ha.h he⟩
end
section
variable {X:Cx}{a b c:Expr}{pos:Pos}{F G E:av->Rs Tr}{A B:av->Rs Bool}{rest:List Expr}{es:List Expr}{L:av->Rs (List Tr)}
theorem bX:QA X [] (fun _=>.ok []):=⟨Iq⟩
theorem a7(ha:QE X a F)(hr:QA X es L)(hs:isStar a=false:=by rfl):QA X (a::es) (fun ρ=>aF (F ρ) (L ρ)):=⟨DG ha.h hr.h hs⟩
theorem nT{x1}(h:QA X es L):QE X (.Tuple es x1 pos) (fun ρ=>jk (L ρ)):=⟨N2 h.h⟩
theorem iE{id:String}{x:Str}{p:Pos}{e:Expr}{h:List Tr->Rs Tr}(hc:jl X (.builtin id) h)(hm:X.mg x=none)(ha:QA X (e::es) L)(hv:bootBuiltins x=some (.builtin id):=by rfl) (hg:Gl X x:=by rfl) (hn:x≠"__name__":=by decide) (iS:(x==("__debug__":Str))=false:=by decide) (eJ:bx (e::es)=true:=by rfl):QE X (.Call (.Name x p) (e::es) [] pos) (fun ρ=>ba h (L ρ)):=⟨GB hc hm ha.h hv hg hn iS eJ⟩
theorem kZ{T:String}{x:Str}{p:Pos}{e:Expr}{h:List Tr->Rs Tr}(hc:jl X (.type T) h)(hm:X.mg x=none)(ha:QA X (e::es) L)(hv:bootBuiltins x=some (.type T):=by rfl) (hg:Gl X x:=by rfl) (hn:x≠"__name__":=by decide) (iS:(x==("__debug__":Str))=false:=by decide) (eJ:bx (e::es)=true:=by rfl):QE X (.Call (.Name x p) (e::es) [] pos) (fun ρ=>ba h (L ρ)):=⟨DI hc hm ha.h hv hg hn iS eJ⟩
theorem OP{x:Str}{st:Stmt}{ps:List Str}{f:Addr}{fd:FuncData}{k:Nat}{h:List Tr->Rs Tr}{e:Expr}{p:Pos}(D:uI X.K X.mg x st ps f fd)(G:hX X.prog X.w X.K X.mg X.base qg k f fd ps (spT X.K h))(hr:dC k X.A)(ha:QA X (e::es) L)(hg:Gl X x:=by rfl) (iS:(x==("__debug__":Str))=false:=by decide) (eJ:bx (e::es)=true:=by rfl):QE X (.Call (.Name x p) (e::es) [] pos) (fun ρ=>ba h (L ρ)):=⟨N3 D G hr ha.h hg iS eJ⟩
end
section
variable {X:Cx}{a b c e:Expr}{pos:Pos}{F:av->Rs Tr}{G G':av->Rs Out}{A:av->Rs Bool}{st:Stmt}{rest N4:List Stmt}
theorem OQ:QB X [] (fun ρ=>.ok (.nx ρ)):=⟨N5⟩
theorem D8(h1:QS X st G)(h2:QB X rest G'):QB X (st::rest) (fun ρ=>GC (G ρ) G'):=⟨J' h1.h h2.h⟩
theorem D9(h1:QS X st G):QB X [st] G:=⟨N6 h1.h⟩
theorem OR{i:Nat}{x:Str}{pos':Pos}(he:QE X e F)(hN:X.N.Nodup:=by assumption) (hi:X.N[i]?=some x:=by rfl) (hx:Loc X.env.scope x:=by first|exact Or.inl rfl|exact Or.inr rfl) (hs:mm e=false:=by rfl) (hf:X.fn x=true\/X.env.scope.names.lookup x=some .local:=by first|exact .inl rfl|exact .inr rfl|assumption):QS X (.Assign [.Name x pos'] e pos) (fun ρ=>Ka i (F ρ) ρ):=⟨N8 he.h hN hi hx hs hf⟩
theorem D_(he:QE X e F):QS X (.Return (some e) pos) (fun ρ=>BO (F ρ)):=⟨N9 he.h⟩
theorem TM{ys ns:List Stmt}(hc:QT X c A)(ha:QB X ys G)(hb:QB X ns G'):QS X (.If c ys ns pos) (fun ρ=>Tc (A ρ) (G ρ) (G' ρ)):=⟨Td hc.h ha.h hb.h⟩
theorem cO(i:Nat){x:Str}(hN:X.N.Nodup:=by assumption) (hi:X.N[i]?=some x:=by rfl) (hx:Loc X.env.scope x:=by first|exact Or.inl rfl|exact Or.inr rfl) (hf:X.fn x=true\/X.env.scope.names.lookup x=some .local:=by first|exact .inl rfl|exact .inr rfl|assumption):QG X (.Name x pos) (gN i):=⟨Kc i hN hi hx hf⟩
theorem IJ:Rn X [] (y6 []):=⟨N_⟩
theorem vR{es:List Expr}{i:Nat}{is:List Nat}{x:Str}(h2:Rn X es (y6 is))(hN:X.N.Nodup:=by assumption) (hi:X.N[i]?=some x:=by rfl) (hx:Loc X.env.scope x:=by first|exact Or.inl rfl|exact Or.inr rfl) (hf:X.fn x=true\/X.env.scope.names.lookup x=some .local:=by first|exact .inl rfl|exact .inr rfl|assumption) (hs:(assignEach (.Name x pos::es) X.env).map (·.2)=assign (.Name x pos) X.env::(assignEach es X.env).map (·.2):=by rfl):Rn X (.Name x pos::es) (y6 (i::is)):=⟨Kd h2.h hN hi hx hf hs⟩
theorem IK{es:List Expr}{k:Nat}{is:List Nat}(h:Rn X es (y6 is))(hc:X.calm=true:=by rfl) (hn:(assignEach es X.env).length=is.length:=by rfl) (eJ:(assignEach es X.env).findIdx? (·.1)=none:=by rfl):QG X (.Tuple es k pos) (gT is):=⟨Oa h.h hc hn eJ⟩
theorem ju{tg l:Expr}(hl:QE X l F):QI X tg l (fun ρ=>il (F ρ)):=⟨Ob hl.h⟩
end
section
variable {X:Cx}{a b c e:Expr}{pos:Pos}{F:av->Rs Tr}{G G':av->Rs Out}{A:av->Rs Bool}{st:Stmt}{rest N4:List Stmt}{L:av->Rs (List Tr)}{tg:Expr}{p:Pos}
theorem xO(hm:X.mg "range"=none)(ha:QA X [a] L)(hg:Gl X "range":=by rfl) (hs:bx [a]=true:=by rfl):QI X tg (.Call (.Name "range" p) [a] [] pos) (fun ρ=>Aj (L ρ)):=⟨DJ hm ha.h hg hs⟩
end
section
variable {X:Cx}{a b c e:Expr}{pos:Pos}{F:av->Rs Tr}{G G':av->Rs Out}{A:av->Rs Bool}{st:Stmt}{rest N4:List Stmt}{L:av->Rs (List Tr)}{tg:Expr}{p:Pos}{scope:Scope}{N':List Str}{ix:List (Option Nat)}{elt iter:Expr}{ifs:List Expr}{T:iU}{W:av->Rs (List Tr)}
theorem xQ{X:Cx}:QF X [] (fun _=>.ok true):=⟨Od⟩
theorem xR{X:Cx}{c:Expr}{A:av->Rs Bool}(h:QT X c A):QF X [c] A:=⟨Oe h.h⟩
theorem D'(Lk:eQ X N' ix scope)(hi:QI X tg iter W)(iT:xM X scope N' tg elt ifs T A F)(hT:fx T)(hc:X.calm=true:=by rfl) (hs:isSet iter=false:=by rfl):QE X (.ListComp elt [⟨tg,iter,ifs,0⟩] scope pos) (fun ρ=>ij ix T A F (W ρ) ρ):=⟨Tg Lk hi.h iT.to hT hc hs⟩
end
section
variable {X:Cx}{a b e:Expr}{pos:Pos}{F G:av->Rs Tr}
theorem lX(hu:X.A.units+1<cLine)(ha:QE X a F)(hb:QE X b G)(hs:qd b:=by exact fun _ _=>rfl):QE X (.Subscript a b pos) (fun ρ=>cM ze (F ρ) (G ρ)):=⟨Tj hu ha.h hb.h hs⟩
theorem KJ:QO X none (fun _=>.ok none):=⟨Kj⟩
theorem KL(h:QE X e F):QO X (some e) (fun ρ=>Og (F ρ)):=⟨Kk h.h⟩
end
section
variable {X:Cx}{a b e:Expr}{pos:Pos}{F G:av->Rs Tr}{P1 P2:av->Rs (Option Int)}{lo hi:Option Expr}{p2:Pos}
theorem OS{k:Expr}(he:QE X e F)(hk:QE X k G):QE X (.Subscript e (.Slice none none (some k) p2) pos) (fun ρ=>cM GU (F ρ) (G ρ)):=⟨Oh he.h hk.h⟩
end
section
variable {X:Cx}{a e:Expr}{pos:Pos}{F:av->Rs Tr}
theorem OT(ha:QE X a F):QE X (.UnaryOp .USub a pos) (fun ρ=>(F ρ).bind Kl):=⟨Oj ha.h⟩
end
section
variable {X:Cx}{pins:List (Addr×Obj)}{σ:St}{a b e:Expr}{es:List Expr}{pos:Pos}{F G:av->Rs Tr}{A:av->Rs Bool}{scope:Scope}{N':List Str}{ix:List (Option Nat)}{elt iter tg:Expr}{ifs:List Expr}{T:iU}{W:av->Rs (List Tr)}
theorem OU(Lk:eQ X N' ix scope)(hi:QJ X tg iter W)(iT:xM X scope N' tg elt ifs T A F)(hT:fx T)(hc:X.calm=true:=by rfl) (hs:isSet iter=false:=by rfl):QE X (.ListComp elt [⟨tg,iter,ifs,0⟩] scope pos) (fun ρ=>ij ix T A F (W ρ) ρ):=⟨OC Lk hi.h iT.to hT hc hs⟩
end
section
variable {X:Cx}{e:Expr}{es:List Expr}{F:av->Rs Tr}{P:av->Rs Bool}{L:av->Rs (List Tr)}{FZ GZ:av->Ab->Rz Tr}{LZ:av->Ab->Rz (List Tr)}
theorem Ro(h:NE X e F):QE X e F:=⟨Xz h.h⟩
theorem aG(h:QE X e F):ZE X e (fun ρ A=>aj (F ρ) A):=⟨Kq h.h⟩
theorem jL(h:QT X e P):ZT X e (fun ρ A=>aj (P ρ) A):=⟨G0 h.h⟩
theorem gw(h:QE X e F):ZE X e (fun ρ A=>gq (F (bq A ρ)) A):=⟨Kr h.h⟩
theorem qA(h:QT X e P):ZT X e (fun ρ A=>aj (P (bq A ρ)) A):=⟨G1 h.h⟩
theorem nU(h:NE X e F):ZE X e (fun ρ A=>gr (F (bq A ρ)) A):=⟨Ou h.h⟩
end
section
variable {X:Cx}{a b c e:Expr}{pos:Pos}{F:av->Ab->Rz Tr}{G G':av->Ab->Rz Out}{P:av->Ab->Rz Bool}{st:Stmt}{rest N4:List Stmt}
theorem l8:ZB X [] (fun ρ A=>.ok (.nx ρ) A):=⟨Ov⟩
theorem a9(h1:ZS X st G)(h2:ZB X rest G'):ZB X (st::rest) (fun ρ A=>bu (G ρ A) G'):=⟨Ks h1.h h2.h⟩
theorem cF(h1:ZS X st G):ZB X [st] G:=⟨Ow h1.h⟩
theorem cZ{i:Nat}{x:Str}{pos':Pos}(he:ZE X e F)(hN:X.N.Nodup:=by assumption) (hi:X.N[i]?=some x:=by rfl) (hx:Loc X.env.scope x:=by first|exact Or.inl rfl|exact Or.inr rfl) (hs:mm e=false:=by rfl) (hf:X.fn x=true\/X.env.scope.names.lookup x=some .local:=by first|exact .inl rfl|exact .inr rfl|assumption):ZS X (.Assign [.Name x pos'] e pos) (fun ρ A=>cK i (F ρ A) ρ):=⟨Ox he.h hN hi hx hs hf⟩
theorem jv(he:ZE X e F):ZS X (.Return (some e) pos) (fun ρ A=>gs (F ρ A)):=⟨Oy he.h⟩
theorem zr(he:ZE X e F)(hs:mm e=false:=by rfl):ZS X (.Expr e pos) (fun ρ A=>l4 (F ρ A) ρ):=⟨Kt he.h hs⟩
theorem sM{ys ns:List Stmt}(hc:ZT X c P)(h1:ZB X ys G)(h2:ZB X ns G'):ZS X (.If c ys ns pos) (fun ρ A=>uT (P ρ A) (G ρ) (G' ρ)):=⟨Tu hc.h h1.h h2.h⟩
theorem sN{tg iter:Expr}{body:List Stmt}{W:av->Rs (List Tr)}{T:iU}(hi:QI X tg iter W)(hg:QG X tg T)(hT:fx T)(hb:ZB X body G)(hp:PassesOwn (model X.prog X.w) X.A X.env X.xe:=by first|exact g7|exact gY) (hc:X.calm=true:=by rfl) (hs:isSet iter=false:=by rfl):ZS X (.For tg iter body [] pos) (fun ρ A=>gz T G (aj (W ρ) A) ρ):=⟨Oz hi.h hg.h hT hb.h hp hc hs⟩
theorem Hd(m:Nat){body:List Stmt}(hc:ZT X c P)(hb:ZB X body G)(hp:PassesOwn (model X.prog X.w) X.A X.env X.xe:=by first|exact g7|exact gY):ZS X (.While c body [] pos) (fun ρ A=>iN P G m ρ A):=⟨G_ m hc.h hb.h hp⟩
end
section
variable {X:Cx}{a e o:Expr}{es:List Expr}{F:av->Ab->Rz Tr}{L:av->Ab->Rz (List Tr)}{name:Str}{apos gk:Pos}{id:String}
theorem dG:ZL X [] (fun _ A=>.ok [] A):=⟨DW⟩
theorem bU(h1:ZE X a F)(hr:ZL X es L)(hs:isStar a=false:=by rfl):ZL X (a::es) (fun ρ A=>bH (F ρ A) (L ρ)):=⟨Az h1.h hr.h hs⟩
end
section
variable {X:Cx}{a e o:Expr}{es:List Expr}{F:av->Ab->Rz Tr}{L:av->Ab->Rz (List Tr)}{name:Str}{apos gk:Pos}{id:String}{r:V->List V->Hp->VK->Prop}{h:Nat->List Tr->Ab->Rz Tr}
theorem Ea(slot:Slot "list" name id)(Nt:typeOf (.builtin id)=pure (.type "method_descriptor"))(hm:Q7 X id r)(hz:Rk X r h)(ho:ZO X o F)(ha:ZL X (e::es) L)(pa:PlainAttrs "list":=by exact PySem.F.plainAttrs_list) (so:isCall o=false:=by rfl) (eJ:bx (e::es)=true:=by rfl) (hn:(e::es).length<30:=by decide) (sq:(apos.endLine==gk.line)=true:=by rfl):ZE X (.Call (.Attribute o name apos) (e::es) [] gk) (fun ρ A=>Kv h (F ρ A) (L ρ)):=⟨OA slot Nt hm hz ho.h ha.h pa so eJ hn sq⟩
end
section
variable {X:Cx}{a b e:Expr}{es:List Expr}{pos:Pos}{F G:av->Rs Tr}{L:av->Rs (List Tr)}{A:av->Rs Bool}
theorem Eb(h:QA X es L):NE X (.List es pos) (fun ρ=>DH (L ρ)):=⟨OB h.h⟩
theorem vS:NE X (.Dict [] [] pos) (fun _=>.ok (.aI [])):=⟨Kw⟩
end
section
variable {X:Cx}{a b e:Expr}{es:List Expr}{pos:Pos}{F G:av->Rs Tr}{L:av->Rs (List Tr)}{A:av->Rs Bool}{scope:Scope}{N':List Str}{ix:List (Option Nat)}{elt iter tg:Expr}{ifs:List Expr}{T:iU}{W:av->Rs (List Tr)}
theorem TN(Lk:eQ X N' ix scope)(hi:QI X tg iter W)(iT:xM X scope N' tg elt ifs T A F)(hT:fx T)(hc:X.calm=true:=by rfl) (hs:isSet iter=false:=by rfl):NE X (.ListComp elt [⟨tg,iter,ifs,0⟩] scope pos) (fun ρ=>ij ix T A F (W ρ) ρ):=⟨Tw Lk hi.h iT.to hT hc hs⟩
theorem He{i:Nat}{x:Str}{px nC:Pos}(Lk:eQ X N' ix scope)(hit:QI X tg iter W)(iT:xM X scope N' tg elt ifs T A F)(hT:fx T)(hN:X.N.Nodup:=by assumption) (hc:X.calm=true:=by rfl) (hi:X.N[i]?=some x:=by rfl) (hx:Loc X.env.scope x:=by first|exact Or.inl rfl|exact Or.inr rfl) (Gv:swapsWith (.ListComp elt [⟨tg,iter,ifs,0⟩] scope pos) (some (.Name x px)) nC.line X.env=pure true:=by rfl) (hs:isSet iter=false:=by rfl) (hf:X.fn x=true\/X.env.scope.names.lookup x=some .local:=by first|exact .inl rfl|exact .inr rfl|assumption):ZS X (.Assign [.Name x px] (.ListComp elt [⟨tg,iter,ifs,0⟩] scope pos) nC) (fun ρ A'=>cK i (aj (ij ix T A F (W ρ) ρ) A') ρ):=⟨Hc Lk hit.h iT.to hT hN hc hi hx Gv hs hf⟩
theorem k_{T:String}{x:Str}{p:Pos}{e:Expr}{h:List Tr->Rs Tr}(hc:jT X (.type T) (rF X h))(hm:X.mg x=none)(ha:QA X (e::es) L)(hv:bootBuiltins x=some (.type T):=by rfl) (hg:Gl X x:=by rfl) (hn:x≠"__name__":=by decide) (iS:(x==("__debug__":Str))=false:=by decide) (eJ:bx (e::es)=true:=by rfl):NE X (.Call (.Name x p) (e::es) [] pos) (fun ρ=>ba h (L ρ)):=⟨DZ hc hm ha.h hv hg hn iS eJ⟩
end
section
variable {X:Cx}{o e:Expr}{es:List Expr}{p pos apos:Pos}{F:av->Ab->Rz Tr}{L:av->Ab->Rz (List Tr)}{h:List Tr->Ab->Rz Tr}{x:Str}{st:Stmt}{ps:List Str}{f:Addr}{fd:FuncData}{k:Nat}
theorem OV(D:uI X.K X.mg x st ps f fd)(G:hX X.prog X.w X.K X.mg X.base (qv X.prog X.w) k f fd ps (wL X.K h))(hr:dC k X.A)(ha:ZL X (e::es) L)(hx:X.ex=[]:=by rfl) (hg:Gl X x:=by rfl) (iS:(x==("__debug__":Str))=false:=by decide) (eJ:bx (e::es)=true:=by rfl):ZE X (.Call (.Name x p) (e::es) [] pos) (fun ρ A=>(L ρ A).bind h):=⟨OF D G hr ha.h hx hg iS eJ⟩
end
section
variable {X:Cx}{a b o i e value:Expr}{es:List Expr}{pos pos' p apos gk:Pos}{F G E:av->Ab->Rz Tr}{L:av->Ab->Rz (List Tr)}{h:Tr->Tr->Rs Tr}
theorem vU{op:CmpOp}(ho:wI X (compareOp op) h)(h1:ZE X a F)(h2:ZE X b G)(hm:behindInMarks op b=false:=by first|exact oG _|rfl|with_unfolding_all rfl):ZT X (.Compare a [op] [b] pos) (fun ρ A=>iP (j4 h (F ρ A) (G ρ))):=⟨KD ho h1.h h2.h hm⟩
theorem xT{T:String}{x:Str}{h:List Tr->Rs Tr}(hc:jl X (.type T) h)(hm:X.mg x=none)(ha:ZL X (e::es) L)(hv:bootBuiltins x=some (.type T):=by rfl) (hg:Gl X x:=by rfl) (hn:x≠"__name__":=by decide) (iS:(x==("__debug__":Str))=false:=by decide) (eJ:bx (e::es)=true:=by rfl):ZE X (.Call (.Name x p) (e::es) [] pos) (fun ρ A=>pK h (L ρ A)):=⟨D6 hc hm ha.h hv hg hn iS eJ⟩
end
section
variable {X:Cx}{a b e:Expr}{es:List Expr}{pos:Pos}{F G:av->Rs Tr}{L:av->Rs (List Tr)}{A:av->Rs Bool}{scope:Scope}{N':List Str}{ix:List (Option Nat)}{elt iter tg:Expr}{ifs:List Expr}{T:iU}{W:av->Rs (List Tr)}
theorem Ec{i:Nat}{x:Str}{px nC:Pos}(Lk:eQ X N' ix scope)(hit:QJ X tg iter W)(iT:xM X scope N' tg elt ifs T A F)(hT:fx T)(hN:X.N.Nodup:=by assumption) (hc:X.calm=true:=by rfl) (hi:X.N[i]?=some x:=by rfl) (hx:Loc X.env.scope x:=by first|exact Or.inl rfl|exact Or.inr rfl) (Gv:swapsWith (.ListComp elt [⟨tg,iter,ifs,0⟩] scope pos) (some (.Name x px)) nC.line X.env=pure true:=by rfl) (hs:isSet iter=false:=by rfl) (hf:X.fn x=true\/X.env.scope.names.lookup x=some .local:=by first|exact .inl rfl|exact .inr rfl|assumption):ZS X (.Assign [.Name x px] (.ListComp elt [⟨tg,iter,ifs,0⟩] scope pos) nC) (fun ρ A'=>cK i (gr (ij ix T A F (W (bq A' ρ)) (bq A' ρ)) A') ρ):=⟨D7 Lk hit.h iT.to hT hN hc hi hx Gv hs hf⟩
end
section
variable {X:Cx}{a b e:Expr}{es:List Expr}{pos:Pos}{F:av->Ab->Rz Tr}{P:av->Ab->Rz Bool}{c n:Str}{tp hp:Pos}{xs:List Str}{i:Nat}{body OI:List Stmt}{TF:Stmt}{G G2:av->Ab->Rz Out}
theorem Ed(h:ZE X a F)(he:jj a=true:=by rfl):ZT X a (fun ρ A=>Ca (F ρ A)):=⟨KG h.h he⟩
end
section
variable {X:Cx}{e:Expr}{F:av->Rs Tr}{P1 P2:av->Rs (Option Int)}{lo hi:Option Expr}{p2 pos:Pos}
theorem OW(he:QE X e F)(hl:QO X lo P1)(hu:QO X hi P2):QE X (.Subscript e (.Slice lo hi none p2) pos) (fun ρ=>KI (F ρ) (P1 ρ) (P2 ρ)):=⟨ON he.h hl.h hu.h⟩
end
theorem uh.XJ {P:Program}{w:World}{K:PySem.W.Frag}{mg:Str->Option Value}{base:Heap}{x qual:Str}{st:Stmt}{f:Addr}{fd:FuncData}{N ps:List Str}{k:Nat}{h:List Tr->Rs Tr}(Fn:uh K x qual st f fd)(S:eB N ps (aD st))(len:∀ts t,h ts=.ok t->ts.length=ps.length)
  (hZ:∀(dw:Value) (A:Around) (outer:List Env) (s:Shared) (H:Hp) (E:XK),dC k (A.deeper (envOfC qual (aD st) s.heap.objs.size f dw))->
   ∃G,QB (j3 qg P w K mg base N qual (aD st) f dw A outer s H E).CN (dy st) G/\∀ts t,h ts=.ok t->sE (G (startT N.length ts))=.ok t):hX P w K mg base qg (k+1) f fd ps (spT K h):=
 Fn.Xn S len fun dw A outer s H E hr=>let⟨G,h,q⟩:=hZ dw A outer s H E hr;⟨G,h.h,q⟩
theorem uh.TQ {P:Program}{w:World}{K:PySem.W.Frag}{mg:Str->Option Value}{base:Heap}{x qual:Str}{st:Stmt}{f:Addr}{fd:FuncData}{N ps:List Str}{k:Nat}{h:List Tr->Rs Tr}(Fn:uh K x qual st f fd)(S:eB N ps (aD st))(len:∀ts t,h ts=.ok t->ts.length=ps.length)
  (hZ:∀(dw:Value) (A:Around) (outer:List Env) (s:Shared) (H:Hp) (E:XK),dC k (A.deeper (envOfC qual (aD st) s.heap.objs.size f dw))->
   ∃G,ZB (j3 qg P w K mg base N qual (aD st) f dw A outer s H E).CN (dy st) G/\∀ts t,h ts=.ok t->dh ts=true/\fc (G (startT N.length ts) [])=.ok t):hX P w K mg base qg (k+1) f fd ps (spT K h):=
 Fn.XC S len fun dw A outer s H E hr=>let⟨G,h,q⟩:=hZ dw A outer s H E hr;⟨G,h.h,q⟩
theorem uh.TR {P:Program}{w:World}{K:PySem.W.Frag}{mg:Str->Option Value}{base:Heap}{x qual:Str}{st:Stmt}{f:Addr}{fd:FuncData}{N ps:List Str}{k:Nat}{h:List Tr->Ab->Rz Tr}(Fn:uh K x qual st f fd)(S:eB N ps (aD st))(len:∀ts A,h ts A≠ .bad->ts.length=ps.length)
  (hZ:∀(dw:Value) (A:Around) (outer:List Env) (s:Shared) (H:Hp) (E:XK),dC k (A.deeper (envOfC qual (aD st) s.heap.objs.size f dw))->
   ∃G,ZB (j3 (qv P w) P w K mg base N qual (aD st) f dw A outer s H E) (dy st) G/\∀ts A,h ts A≠ .bad->h ts A=dD (G (startT N.length ts) A)):hX P w K mg base (qv P w) (k+1) f fd ps (wL K h):=
 Fn.t_ S len fun dw A outer s H E hr=>let⟨G,h,q⟩:=hZ dw A outer s H E hr;⟨G,h.h,q⟩
end L2
namespace L2
open PySem PySem.Spec PyProof.Rows
def AI:List Tr->Option (List Key)
 |[]=>some []
 |t::ts=>match GP t,AI ts with
  |some k,some ks=>some (k::ks)
  |_,_=>none
def nV:Tr->Option (List Key)
 |.tup ts=>AI ts
 |_=>none
def iQ(aA:List (List Key×Tr))(k:List Key):Option Tr:=(aA.find? fun kv=>decide (kv.1=k)).map (·.2)
section
variable {K:PySem.W.Frag}
theorem uW{H:Vw}:∀{ts:List Tr} {vs:List V} {ks:List Key},aJ K H vs ts->AI ts=some ks->vs=ks.map kV
 |[],_,_,r,e=>by cases e;cases r;rfl
 |t::ts,_,ks,r,e=>by
  cases r with
  |cons h r=>
   unfold AI at e;split at e
   ·rename_i e1 e2;cases e;rw[As h e1,uW r e2];rfl
   ·cases e
theorem la{B:bN}{H:Hp}{v:V}{t:Tr}{ks:List Key}(r:Rep K (aN B H) v t)(e:nV t=some ks):∃b,v=.ref b/\H b=some (.tup (ks.map kV)):=by
 unfold nV at e;split at e
 ·obtain⟨a,vs,rfl,h,rr⟩:=r.fJ;have:=uW rr e;subst this;exact⟨a,rfl,aK _ _ h⟩
 ·cases e
theorem sO{H:Vw}(k:List Key):∀{ax:List (List Key×V)} {aA:List (List Key×Tr)},ax.map (·.1)=aA.map (·.1)->aJ K H (ax.map (·.2)) (aA.map (·.2))->(iQ aA k=none/\lT ax k=none)\/∃t v,iQ aA k=some t/\lT ax k=some v/\Rep K H v t
 |[],[],_,_=>.inl ⟨rfl,rfl⟩
 |[],_::_,e,_=>by cases e
 |_::_,[],e,_=>by cases e
 |(k1,v1)::ax,(k2,t2)::aA,e,r=>by
  rw[aC,aC]at e;injection e with e1 e2
  have qj:k1=k2:=e1;subst qj;cases r with
  |cons h r=>
   by_cases q:k1=k
   ·refine .inr ⟨t2,v1,?_,kI q,h⟩;unfold iQ;rw[dY,bj (show(k1,t2).1=k from q)]
    rfl
   ·rw[kJ q];have e3:iQ ((k1,t2)::aA) k=iQ aA k:=by
     unfold iQ;rw[dY,aX (show¬(k1,t2).1=k from q)]
    rw[e3];exact sO k e2 r
theorem Rep.qB {H:Vw}{v:V}{aA:List (List Key×Tr)}(h:Rep K H v (.aI aA)):∃a ax,v=.ref a/\Rd H.H a (.dT ax)/\ax.map (·.1)=aA.map (·.1)/\aJ K H (ax.map (·.2)) (aA.map (·.2)):=by
 cases h;exact⟨_,_,rfl,by assumption,by assumption,by assumption⟩
theorem Ee{B:bN}{H:Hp}{x y:V}{ty:Tr}{aA:List (List Key×Tr)}{k:List Key}(r:Rep K (aN B H) x (.aI aA))(r2:Rep K (aN B H) y ty)(ek:nV ty=some k):
  ∃a o,x=.ref a/\pR H a y o/\((iQ aA k=none/\o=none)\/∃t v,iQ aA k=some t/\o=some v/\Rep K (aN B H) v t):=by
 obtain⟨a,ax,rfl,h,e,rr⟩:=r.qB;obtain⟨b,rfl,hb⟩:=la r2 ek;refine⟨a,_,rfl,.inr ⟨ax,k,b,h.same aK,rfl,hb,rfl⟩,?_⟩;rcases sO k e rr with⟨h1,h2⟩|⟨t,v,h1,h2,h3⟩
 ·exact .inl ⟨h1,h2⟩
 ·exact .inr ⟨t,v,h1,h2,h3⟩
end
section
variable {X:Cx}{a b:Expr}{pos:Pos}{F G:av->Rs Tr}
def oD:Tr->Tr->Rs Tr
 |.aI aA,t=>(BU (nV t)).bind fun k=>BU (iQ aA k)
 |_,_=>.bad
theorem OX(hu:X.A.units+1<cLine):MA X (rT X oD):=by
 intro value slice pins s σ H x y v u Q I rx ry ⟨B,tx,ty,hb,r1,r2,q⟩ hs;unfold oD at q;split at q
 ·obtain⟨k,ek,qk⟩:=fR (Fi.bind q);obtain⟨t,et,qt⟩:=fR qk;obtain⟨a,o,rfl,g,ho⟩:=Ee r1 r2 ek;rcases ho with⟨h1,_⟩|⟨t',w,h1,rfl,lS⟩
  ·cases et.symm.trans h1
  ·cases et.symm.trans h1;cases(show v=Value.ref a from rx);exact tail_any (pA I g) qO.lookup (oM hu I g ry fun w' s' I' rv=>⟨w,H,I',rv,qt w H (aw.refl H) lS⟩) hs
 ·exact(show False from q).elim
theorem nW(hu:X.A.units+1<cLine)(ha:QE X a F)(hb:QE X b G)(hs:qd b:=by exact fun _ _=>rfl):QE X (.Subscript a b pos) (fun ρ=>cM oD (F ρ) (G ρ)):=
 ⟨(Ih (OX hu) ha.h hb.h hs).weak fun _ _ _ q=>kO q⟩
def CT:Tr->Tr->Rs Tr
 |x,.aI aA=>(BU (nV x)).bind fun k=>.ok (.bl (iQ aA k).isSome)
 |_,_=>.bad
def Ef:Tr->Tr->Rs Tr
 |x,.aI aA=>(BU (nV x)).bind fun k=>.ok (.bl (!(iQ aA k).isSome))
 |_,_=>.bad
theorem Eg(hu:X.A.units+1<cLine):wI X (compareOp .In) CT:=by
 intro pins s σ H x y v u Q I rx ry ⟨B,tx,ty,hb,r1,r2,q⟩;unfold CT at q;split at q
 ·obtain⟨k,ek,qk⟩:=fR (Fi.bind q);obtain⟨a,o,rfl,g,ho⟩:=Ee r2 r1 ek;cases(show u=Value.ref a from ry);refine SX hu I g rx fun s' I'=>⟨.bl _,H,I',rfl,?_⟩;rcases ho with⟨h1,rfl⟩|⟨t',w,h1,rfl,_⟩<;>rw[h1]at qk<;>exact qk _ H (aw.refl H) (.bl _)
 ·exact(show False from q).elim
theorem KN(hu:X.A.units+1<cLine):wI X (compareOp .NotIn) Ef:=by
 intro pins s σ H x y v u Q I rx ry ⟨B,tx,ty,hb,r1,r2,q⟩;unfold Ef at q;split at q
 ·obtain⟨k,ek,qk⟩:=fR (Fi.bind q);obtain⟨a,o,rfl,g,ho⟩:=Ee r2 r1 ek;cases(show u=Value.ref a from ry);refine Gj hu I g rx fun s' I'=>⟨.bl _,H,I',rfl,?_⟩;rcases ho with⟨h1,rfl⟩|⟨t',w,h1,rfl,_⟩<;>rw[h1]at qk<;>exact qk _ H (aw.refl H) (.bl _)
 ·exact(show False from q).elim
end
end L2
namespace L2
open PySem PySem.Spec PyProof.Rows
def jw(aA:List (List Key×Tr))(k:List Key)(t:Tr):List (List Key×Tr):=
 if(aA.any fun kv=>decide (kv.1=k))=true then aA.map (fun kv=>if kv.1=k then(kv.1,t)else kv)else aA++[(k,t)]
def lb(aA more:List (List Key×Tr)):List (List Key×Tr):=more.foldl (fun acc kv=>jw acc kv.1 kv.2) aA
structure de(K:PySem.W.Frag)(H:Vw)(ax:List (List Key×V))(aA:List (List Key×Tr)):Prop where
 keys:ax.map (·.1)=aA.map (·.1)
 vals:aJ K H (ax.map (·.2)) (aA.map (·.2))
section
variable {K:PySem.W.Frag}{H H':Vw}
theorem de.nil:de K H [] []:=⟨rfl,.nil⟩
theorem de.same {ax:List (List Key×V)}{aA:List (List Key×Tr)}(s:cD H H')(h:de K H ax aA):de K H' ax aA:=⟨h.keys,h.vals.same s⟩
theorem de.cons {k:List Key}{v:V}{t:Tr}{ax:List (List Key×V)}{aA:List (List Key×Tr)}(r:Rep K H v t)(h:de K H ax aA):de K H ((k,v)::ax) ((k,t)::aA):=⟨by rw[aC,aC,h.keys],.cons r h.vals⟩
theorem de.inv {k:List Key}{v:V}{ax:List (List Key×V)}{aA:List (List Key×Tr)}(h:de K H ((k,v)::ax) aA):∃t r,aA=(k,t)::r/\Rep K H v t/\de K H ax r:=by
 obtain⟨e,r⟩:=h
 match aA,e,r with
 |(k2,t)::rest,e,r=>
  rw[aC,aC]at e;injection e with e1 e2
  have qj:k=k2:=e1;subst qj;cases r with
  |cons h1 h2=>exact⟨t,rest,rfl,h1,e2,h2⟩
theorem de.any (k:List Key):∀{ax:List (List Key×V)} {aA:List (List Key×Tr)},de K H ax aA->(ax.any fun kv=>decide (kv.1=k))=aA.any fun kv=>decide (kv.1=k)
 |[],aA,h=>by
  have e:=h.keys;cases aA with
  |nil=>rfl
  |cons a b=>cases e
 |(j,v)::ax,aA,h=>by
  obtain⟨t,r,rfl,_,h2⟩:=h.inv;rw[ja,ja,de.any k h2]
theorem de.map (k:List Key){y:V}{u:Tr}(ry:Rep K H y u):∀{ax:List (List Key×V)} {aA:List (List Key×Tr)},de K H ax aA->de K H (ax.map fun kv=>if kv.1=k then(kv.1,y)else kv) (aA.map fun kv=>if kv.1=k then(kv.1,u)else kv)
 |[],aA,h=>by
  have e:=h.keys;cases aA with
  |nil=>exact .nil
  |cons a b=>cases e
 |(j,v)::ax,aA,h=>by
  obtain⟨t,r,rfl,h1,h2⟩:=h.inv;rw[aC,aC];by_cases e:j=k
  ·rw[ab (show(j,v).1=k from e),ab (show(j,t).1=k from e)];exact .cons ry (de.map k ry h2)
  ·rw[ae (show¬(j,v).1=k from e),ae (show¬(j,t).1=k from e)];exact .cons h1 (de.map k ry h2)
theorem de.snoc (k:List Key){y:V}{u:Tr}(ry:Rep K H y u):∀{ax:List (List Key×V)} {aA:List (List Key×Tr)},de K H ax aA->de K H (ax++[(k,y)]) (aA++[(k,u)])
 |[],aA,h=>by
  have e:=h.keys;cases aA with
  |nil=>exact .cons ry .nil
  |cons a b=>cases e
 |(j,v)::ax,aA,h=>by
  obtain⟨t,r,rfl,h1,h2⟩:=h.inv;exact .cons h1 (de.snoc k ry h2)
theorem de.put (k:List Key){y:V}{u:Tr}(ry:Rep K H y u){ax:List (List Key×V)}{aA:List (List Key×Tr)}(h:de K H ax aA):de K H (putK ax k y) (jw aA k u):=by
 unfold putK jw;rw[h.any k];by_cases e:(aA.any fun kv=>decide (kv.1=k))=true
 ·rw[ab e,ab e];exact h.map k ry
 ·rw[ae e,ae e];exact h.snoc k ry
theorem de.length {ax:List (List Key×V)}{aA:List (List Key×Tr)}(h:de K H ax aA):ax.length=aA.length:=by
 have e:=b9 List.length h.keys;rw[ak,ak]at e;exact e
end
def jx(A:Ab)(t tk tv:Tr):Option Ab:=match t,nV tk with
 |.at i,some k=>match A[i]? with
  |some (.aI aA)=>if aA.length<ik then some (A.set i (.aI (jw aA k tv)))else none
  |_=>none
 |_,_=>none
def uX(v:Rz Tr)(o k:Ab->Rz Tr)(ρ:av):Rz Out:=v.bind fun tv A=>(o A).bind fun t A=>(k A).bind fun tk A=>match jx A t tk tv with
 |some A'=>.ok (.nx ρ) A'
 |none=>.bad
theorem sP{A A':Ab}{t tk tv:Tr}(e:jx A t tk tv=some A'):∃j aA key,t=.at j/\nV tk=some key/\A[j]?=some (.aI aA)/\aA.length<ik/\A'=A.set j (.aI (jw aA key tv)):=by
 unfold jx at e;split at e
 ·rename_i ek;split at e
  ·rename_i eo;split at e
   ·rename_i hl;cases e;exact⟨_,_,_,rfl,ek,eo,hl,rfl⟩
   ·cases e
  ·cases e
 ·cases e
section
variable {X:Cx}{o i value:Expr}{pos pos':Pos}{F G E:av->Ab->Rz Tr}
theorem qC(hu:X.A.units+1<cLine)(ho:ZO X o F)(hi:ZE X i G)(hv:ZE X value E):
  ZS X (.Assign [.Subscript o i pos'] value pos) (fun ρ A=>uX (E ρ A) (F ρ) (G ρ) ρ):=
 ⟨(Gk hu ho.h hi.h hv.h B9).weak fun D σ H ⟨B0,H0,B,A,ρ,hb,g,ha,r,n,q⟩=>ic hb g ha r n q.bind fun tv A1 v B1 H1 q1 g1 fI r1 rv _=>ic hb g1 fI r1 n (cJ.bind q1) fun t A2 w B2 H2 q2 g2 oQ r2 lS OY=>ic hb g2 oQ r2 n (cJ.bind q2) fun tk A3 y B3 H3 q3 g3 wJ r3 ry IL=>by
   have XM:=lS.same IL.eR;have TU:=(rv.same OY.eR).same IL.eR;split at q3
   ·rename_i ed;obtain⟨j,aA,key,rfl,ek,eo,hl,rfl⟩:=sP ed;obtain⟨c,rfl,sG⟩:=XM.sD;obtain⟨hd,ax,h1,h2,h3⟩:=wJ.get sG eo;have h2:de X.K (aN B3 H3) ax aA:=⟨h2,h3⟩;obtain⟨b,rfl,eb⟩:=la ry ek;have hp:=h2.put key TU;obtain⟨g4,h6⟩:=wJ.write (o:=.aI (jw aA key tv)) (u:=.dT (putK ax key v)) sG ⟨hd,_,aH,hp.keys,by rw[lK hd];exact hp.vals⟩;exact⟨c,_,rfl,vD.t h1 eb (by rw[h2.length,<-h9];exact hl),q3 σ B3 _ (g3.trans hb g4) h6 (r3.grow n g4) n⟩
   ·exact q3.elim⟩
end
end L2
namespace L2
open PySem PySem.Spec PyProof.Rows
def Eh(A:Ab)(t tk:Tr):Option Int:=match t,nV tk with
 |.at i,some k=>match A[i]? with
  |some (.aI aA)=>match iQ aA k with
   |some (.int n)=>some n
   |_=>none
  |_=>none
 |_,_=>none
theorem Cd{A:Ab}{t tk:Tr}{n:Int}(e:Eh A t tk=some n):∃j aA key,t=.at j/\nV tk=some key/\A[j]?=some (.aI aA)/\iQ aA key=some (.int n):=by
 unfold Eh at e;split at e
 ·rename_i ek;split at e
  ·rename_i eo;split at e
   ·rename_i ev;cases e;exact⟨_,_,_,rfl,ek,eo,ev⟩
   ·cases e
  ·cases e
 ·cases e
def Ei(o k v:Ab->Rz Tr)(ρ:av)(A:Ab):Rz Out:=(o A).bind fun t A=>(k A).bind fun tk A=>match Eh A t tk with
 |some n=>(v A).bind fun tv A=>match tv with
  |.int c=>match jx A t tk (.int (n - c))with
   |some A'=>.ok (.nx ρ) A'
   |none=>.bad
  |_=>.bad
 |none=>.bad
section
variable {X:Cx}{o i value:Expr}{pos pos':Pos}{F G E:av->Ab->Rz Tr}
theorem Hf(hu:X.A.units+1<cLine)(ho:ZO X o F)(hi:ZE X i G)(hv:ZE X value E)(ha:∀ov iv new,augStore i ov iv new=(do holding [new,ov,iv] (setItem ov iv new);release [new,ov,iv] [];pure .next):=by intros;rfl):
  ZS X (.AugAssign (.Subscript o i pos') .Sub value pos) (fun ρ A=>Ei (F ρ) (G ρ) (E ρ) ρ A):=
 ⟨(Gm hu ho.h hi.h hv.h JI ha).weak fun D σ H ⟨B0,H0,B,A,ρ,hb,g,ha,r,n,q⟩=>ic hb g ha r n q.bind fun t A1 w B1 H1 q1 g1 fI r1 lS _=>ic hb g1 fI r1 n (cJ.bind q1) fun tk A2 y B2 H2 q2 g2 oQ r2 ry OY=>by
   have XN:=lS.same OY.eR;split at q2
   ·rename_i m em;obtain⟨j,aA,key,rfl,ek,eo,ev⟩:=Cd em;obtain⟨c,rfl,sG⟩:=XN.sD;obtain⟨hd,ax,h1,h2,h3⟩:=oQ.get sG eo;obtain⟨b,rfl,eb⟩:=la ry ek;rcases sO key h2 h3 with⟨z1,_⟩|⟨t',v,z1,z2,rv⟩
    ·cases ev.symm.trans z1
    ·cases ev.symm.trans z1;cases rv.int_inv;refine⟨c,_,rfl,by have:=pR.t h1 eb;rw[z2]at this;exact this,ic hb g2 oQ r2 n (cJ.bind q2) fun tv A3 u B3 H3 q3 g3 wJ r3 ru IL=>?_⟩;split at q3
     ·rename_i cc;refine⟨m,cc,rfl,ru.int_inv,?_⟩;split at q3
      ·rename_i ed;obtain⟨j',OZ,XO,ej,XQ,XR,hl,rfl⟩:=sP ed;cases ej;cases ek.symm.trans XQ;have O0:=IL.eR.x _ _ sG;obtain⟨VN,O1,f1,f2,f3⟩:=wJ.get O0 XR;have f2:de X.K (aN B3 H3) O1 OZ:=⟨f2,f3⟩;have hp:=f2.put key (.int (m - cc));obtain⟨b',XT,XU⟩:=la (ry.same IL.eR) ek;cases XT;obtain⟨g4,h6⟩:=wJ.write (o:=.aI (jw OZ key (.int (m - cc)))) (u:=.dT (putK O1 key (.int (m - cc)))) O0 ⟨VN,_,aH,hp.keys,by rw[lK VN];exact hp.vals⟩;exact⟨_,vD.t f1 XU (by rw[f2.length,<-h9];exact hl),q3 σ B3 _ (g3.trans hb g4) h6 (r3.grow n g4) n⟩
      ·exact q3.elim
     ·exact q3.elim
   ·exact q2.elim⟩
end
end L2
namespace L2
open PySem PySem.Spec PyProof.Rows
def KO(i:Nat)(r:Ab->Rz Tr)(ρ:av)(A:Ab):Rz Out:=match ar ρ i with
 |.ok (.int n)=>(r A).bind fun t A=>match t with
  |.int c=>.ok (.nx (ρ.set i (.sh (.int (n+c))))) A
  |_=>.bad
 |_=>.bad
section
variable {X:Cx}{e:Expr}{pos pos':Pos}{F:av->Ab->Rz Tr}
theorem KQ(i:Nat){x:Str}(he:ZE X e F)(hN:X.N.Nodup:=by assumption) (hi:X.N[i]?=some x:=by rfl) (hx:Loc X.env.scope x:=by first|exact Or.inl rfl|exact Or.inr rfl) (hf:X.fn x=true\/X.env.scope.names.lookup x=some .local:=by first|exact .inl rfl|exact .inr rfl|assumption):
  ZS X (.AugAssign (.Name x pos') .Add e pos) (fun ρ A=>KO i (F ρ) ρ A):=
 ⟨(Jv hN hi hx he.h JH hf).weak fun D σ H ⟨B0,H0,B,A,ρ,hb,g,ha,r,n,q⟩=>by
   unfold KO at q;split at q
   ·rename_i m em;have e1:ρ[i]?=some (.sh (.int m)):=by
     unfold ar at em;split at em
     ·rename_i h;cases em;exact h
     ·cases em
    obtain⟨v,ev,rv⟩:=r.sh i _ e1;cases rv.int_inv;refine⟨_,ev,ic hb g ha r n q.bind fun t A1 w B1 H1 q1 g1 fI r1 lS _=>?_⟩;split at q1
    ·rename_i c;exact⟨m,c,rfl,lS.int_inv,q1 _ B1 H1 g1 fI (r1.set i (.int (m+c))) (n.set i _)⟩
    ·exact q1.elim
   ·exact q.elim⟩
end
end L2
namespace L2
open PySem PySem.Spec PyProof.Rows
section
variable {prog:Program}{w:World}{A:Around}{E:Value->Shared->Prop}{s:Shared}{d it:Addr}{o:Obj}{es:Array DictEntry}{ep i:Nat}
theorem xU{Q:Value->Shared->Prop}(T:s.TypeIs (.ref d) "dict")(nd:(d==sysModules)=false)(e1:s.heap.get? d=some o)(e2:o.data=.dict es ep)
  (q:Q (.ref s.heap.objs.size) {s with heap:=s.heap.push {cls:=.type "dict_keyiterator",data:=.fields #[.ref d,.int 0 0,.int es.size 0,.int ep 0]}}):wpAny (model prog w) A (pyIter (.ref d)) Q E s:=by
 refine rY T F.slot_dict_iter (dM F.slot_dict_iter T F.entry_dict_iter ?G (F.args_dict_iter_1 _))
 case G=>
  unfold Builtin.«dict.__iter__»;refine aa ?G2
  case G2=>
   unfold Builtin.Dict.dictSlotNone;refine aa (wpAny_notOrdered_dict T (show wpAny _ _ (pure (Value.ref d)) _ _ s from af ?G3))
   case G3=>
    show wpAny _ _ (Builtin.Dict.showsAll d>>=_) _ _ s;unfold Builtin.Dict.showsAll;rw[ae (fun z=>by rw[nd]at z;cases z)];refine aa (af (aa (rZ e1 e2 (aa (wpAny_dictEpoch e1 e2 (aa (cB (af ⟨_,rfl,"dict_keyiterator",_,⟨_,aQ _ rfl,rfl⟩,mG.lookup,?_⟩))))))));simpa[rawInt]using q
theorem xV{Q:Option Value->Shared->Prop}(st:s.heap.IsKeyIter it d i es.size ep)(e1:s.heap.get? d=some o)(e2:o.data=.dict es ep)(hi:i<es.size)
  (q:∀h',h'.IsKeyIter it d (i+1) es.size ep->Heap.SameBut it s.heap h'->Q (some es[i].key) {s with heap:=h'}):wpAny (model prog w) A (pyNext (.ref it)) Q E s:=by
 have T:=st.typeIs;obtain⟨oi,f1,f2,f3⟩:=id st;unfold pyNext;refine aa (kA (jD (name:=Str.ofString "__next__") T mG (dM mG T F.entry_dict_keyiterator_next ?G (F.args_dict_keyiterator_next_1 _))))
 case G=>
  refine aa (af (aa (aa ?G2)))
  case G2=>
   first|refine aa (mJ T (af (aa (jb f1 f3 ?G3))))|refine aa (mO T (af (aa (jb f1 f3 ?G3))))
   case G3=>
    simp only[show Builtin.Dict_items.ownsTuple "dict_keyiterator"=false by decide,bS,bB];show wpAny _ _ (if(Value.ref d==Value.none)=true then _ else _) _ _ s;rw[ae (fun z=>by cases z)];refine aa (af (aa (rZ e1 e2 ?G4)))
    case G4=>
     rw[ae (by simp)];refine aa (af (aa (wpAny_dictEpoch e1 e2 ?G5)))
     case G5=>
      rw[ae (by simp)];refine af ?G6
      case G6=>
       have n0:¬((i:Int)<0):=by omega
       simp only[n0,bB,gD,bP hi];have ud:(s.heap.update it (Obj.mapFields (·.setIfInBounds 1 (rawInt ((i:Int)+1))))).IsKeyIter it d (i+1) es.size ep:=
        ⟨_,iV _ f1 (Obj.isFreed_of_fields (Obj.data_mapFields f3 _)),(Obj.cls_mapFields ..).trans f2,by rw[Obj.data_mapFields f3];simp[rawInt]⟩
       refine aa ?G7
       case G7=>
        first|refine aa (mJ T (af (aa (rg T ?G8))))|refine aa (mO T (af (aa (rg T ?G8))))
        case G8=>
         show wpAny _ _ (setField (.ref it) 1 (rawInt ((i:Int)+1))>>=_) _ _ s;refine aa (wpAny_setField f1 f3 (by simp) (aa (cu (aa (rg (s:={s with heap:=s.heap.update it (Obj.mapFields (·.setIfInBounds 1 (rawInt ((i:Int)+1))))}) ud.typeIs ?G9)))))
         case G9=>
          show wpAny _ _ (pure es[i].key) _ _ _;exact af (af ⟨_,rfl,af (q _ ud (gC ..))⟩)
theorem AJ{Q:Option Value->Shared->Prop}(hh:A.handled=none)(st:s.heap.IsKeyIter it d i es.size ep)(e1:s.heap.get? d=some o)(e2:o.data=.dict es ep)(hi:es.size<=i)
  (q:∀h',Heap.ExtBut it s.heap h'->Q none {s with heap:=h'}):wpAny (model prog w) A (pyNext (.ref it)) Q E s:=by
 have T:=st.typeIs;obtain⟨oi,f1,f2,f3⟩:=id st;unfold pyNext;refine aa (kA (jD (name:=Str.ofString "__next__") T mG (dM mG T F.entry_dict_keyiterator_next ?G (F.args_dict_keyiterator_next_1 _))))
 case G=>
  refine aa (af (aa (aa ?G2)))
  case G2=>
   first|refine aa (mJ T (af (aa (jb f1 f3 ?G3))))|refine aa (mO T (af (aa (jb f1 f3 ?G3))))
   case G3=>
    simp only[show Builtin.Dict_items.ownsTuple "dict_keyiterator"=false by decide,bS,bB];show wpAny _ _ (if(Value.ref d==Value.none)=true then _ else _) _ _ s;rw[ae (fun z=>by cases z)];refine aa (af (aa (rZ e1 e2 ?G4)))
    case G4=>
     rw[ae (by simp)];refine aa (af (aa (wpAny_dictEpoch e1 e2 ?G5)))
     case G5=>
      rw[ae (by simp)];refine af ?G6
      case G6=>
       have n0:¬((i:Int)<0):=by omega
       simp only[n0,bB,gD,Array.getElem?_eq_none hi];refine aa ?G7
       case G7=>
        first|refine aa (mJ T (af ?G8))|refine aa (mO T (af ?G8))
        case G8=>
         show wpAny _ _ (setField (.ref it) 0 .none>>=_) _ _ s;refine aa (wpAny_setField f1 f3 (by simp) (show wpAny _ _ (newExc (.type "StopIteration") []>>=_) _ _ _ from aa ?G9))
         case G9=>
          simp only[newExc,newTuple];refine aa (cB (aa (m:=firstArgMember _ _) (wpAny_of_eq (a:=Value.none) (by first|rfl|(simp only[firstArgMember];rfl)) (cB ?XW (by size_fits)))) (by size_fits))
          case XW=>
           simp only[raiseNew];refine aa (wpAny_handled ?XX)
           case XX=>
            rw[show A.in1.handled=none from hh];refine aa (af (wpAny_throw ?XY))
            case XY=>
             refine aa (ke (T:="StopIteration") (b:=true) ⟨_,aQ _ rfl,rfl⟩ isSubtype_stop (af (q _ (((gC ..).extBut.push _).push _))))
end
end L2
namespace L2
open PySem PySem.Spec PyProof.Rows
def TV(a:Addr)(o:Obj)(ax:List (List Key×V)):It:=
 ⟨fun i H=>H a=some (.gI o (.dT ax))/\i<ax.length,fun i H x H'=>H'=H/\∃k v b,ax[i]?=some (k,v)/\x=.ref b/\H b=some (.tup (k.map kV)),fun i H=>H a=some (.gI o (.dT ax))/\ax.length<=i⟩
theorem zt{H:Hp}:∀{ax:List (List Key×V)} {xs:List (List Key×Addr×Value)},KT H ax xs->∀{i:Nat} {x:List Key×Addr×Value},xs[i]?=some x->∃v,ax[i]?=some (x.1,v)/\H x.2.1=some (.tup (x.1.map kV))
 |_,_,.nil,_,_,e=>by simp at e
 |(k,v)::_,_,.cons h t,i,x,e=>by
  cases i with
  |zero=>
   simp at e;subst e;obtain⟨h1,h2,_⟩:=h;have Ce:k=_:=h1;subst Ce;exact⟨v,rfl,h2⟩
  |succ j=>exact zt t (by simpa using e)
theorem Ej{P:Program}{w:World}{K:PySem.W.Frag}{tg:Expr}(a it:Addr)(o:Obj)(ax:List (List Key×V))(es:Array DictEntry)(ep:Nat)(hd:o.data=.dict es ep):Turn P w K tg (TV a o ax) [it] it (fun i h=>h.IsKeyIter it a i es.size ep) where
 mem:=by simp
 obj:=fun i h st b hb=>by
  have e:b=it:=by simpa using hb
  subst e;obtain⟨o,e,c,d⟩:=st;exact⟨o,e,fun v z=>by rw[d]at z;cases z⟩
 keep:=fun i h h' st k=>by
  obtain⟨o,e,c⟩:=st;exact⟨o,k it (by simp) o e,c⟩
 item:=by
  intro X hP hw hK hc i pins s σ H E I hf st ⟨hg,hi⟩;subst hP hw hK;obtain⟨ho,hz,hs,xs,rel,o',Jo,vo,h1,h2,h3,h4,h5⟩:=(show bY X.prog X.w H s.heap a (.gI o (.dT ax))from I.bV a _ hg);rw[ho]at h1;cases h1;rw[hd]at h3;cases h3;obtain⟨f0,f1,f2,f3,f4,f5⟩:=hf it (by simp);have hl:ax.length=xs.length:=Paired.length rel;have hsz:es.size=xs.length:=by rw[<-bc,h4,ak]
  have jq:i<es.size:=by rw[hsz,<-hl];exact hi
  have hx:xs[i]?=some xs[i]:=ay (by rw[<-hl];exact hi)
  obtain⟨v,ek,eb⟩:=zt rel hx;have key:es[i].key=Value.ref xs[i].2.1:=by
   have:es.toList[i]?=some (entryOfKey (tupleKind (aR X.prog X.w)) xs[i]):=by rw[h4,aL,hx];rfl
   rw[cf,bP jq]at this;rw[Option.some.inj this];rfl
  refine xV st ho hd jq fun h' ud sb=>?_
  have I1:Inv X pins σ H {s with heap:=h'}:=I.turned (t':=s.toks) (fun b o hb e=>(sb.2 b hb).trans e) f0 f1 f3 f4 f5;obtain⟨oi,e,c,d⟩:=id ud;exact⟨_,rfl,w8 (s:={s with heap:=h'}) e c d (by decide) ⟨.ref xs[i].2.1,H,I1,key,⟨rfl,_,_,_,ek,rfl,eb⟩,ud,fun b hb=>(hf b hb).1⟩⟩
 done:=by
  intro X hP hw hK hc i pins s σ H E I hf st ⟨hg,hi⟩;subst hP hw hK;obtain⟨ho,hz,hs,xs,rel,o',Jo,vo,h1,h2,h3,h4,h5⟩:=(show bY X.prog X.w H s.heap a (.gI o (.dT ax))from I.bV a _ hg);rw[ho]at h1;cases h1;rw[hd]at h3;cases h3;obtain⟨f0,f1,f2,f3,f4,f5⟩:=hf it (by simp);have hl:ax.length=xs.length:=Paired.length rel;have hsz:es.size=xs.length:=by rw[<-bc,h4,ak]
  exact AJ (I.ok.hd hc) st ho hd (by rw[hsz,<-hl];exact hi) fun h' eb=>⟨rfl,I.turned (t':=s.toks) (fun b o hb e=>eb b o hb e) f0 f1 f3 f4 f5⟩
 self:=fun _ _ _ _ _ st h=>wpAny_pyIter_keyiter st h
def Ek(aA:List (List Key×Tr)):Rs (List Tr):=if aA.all (fun p=>p.1.all keyOk)=true then .ok (aA.map fun p=>.tup (p.1.map l6))else .bad
def p7(r:Rs Tr):Rs (List Tr):=r.bind fun t=>match t with
 |.aI aA=>Ek aA
 |_=>.bad
theorem oU{K:PySem.W.Frag}{W:Vw}:∀{k:List Key},k.all keyOk=true->aJ K W (k.map kV) (k.map l6)
 |[],_=>.nil
 |a::k,h=>by
  rw[d_,aE]at h;exact .cons (B5 h.1) (oU h.2)
theorem Cf{K:PySem.W.Frag}{B:bN}{H:Hp}{a:Addr}{o:Obj}{ax:List (List Key×V)}{aA:List (List Key×Tr)}(h:(aN B H).H a=some (.gI o (.dT ax)))(e:ax.map (·.1)=aA.map (·.1))(hk:aA.all (fun p=>p.1.all keyOk)=true):kP K B (TV a o ax) H (aA.map fun p=>.tup (p.1.map l6)):=by
 have hl:ax.length=aA.length:=by have q:=b9 List.length e;rw[ak,ak]at q;exact q
 refine⟨fun i B' H' hi s hb=>⟨aK _ _ (s.h _ _ h),by rw[ak]at hi;rw[hl];exact hi⟩,fun i B' H' x Iu hi s hb ⟨eh,k,v,b,ek,ex,eb⟩=>?_,fun B' H' s=>⟨aK _ _ (s.h _ _ h),by rw[ak,hl];exact aq _⟩⟩;subst eh ex;have e1:(ax.map (·.1))[i]?=some k:=by rw[aL,ek];rfl
 rw[e,aL]at e1;cases e2:aA[i]? with
 |none=>rw[e2]at e1;cases e1
 |some p=>
  rw[e2]at e1;have e3:p.1=k:=Option.some.inj e1;refine⟨aw.refl _,.tup (k.map l6),by rw[aL,e2,<-e3];rfl,.tup (hb.tup eb) (oU ?_)⟩;rw[<-e3];exact bA.mp hk p (bg e2)
section
variable {X:Cx}{pins:List (Addr×Obj)}{σ:St}
theorem O2{tg l:Expr}{F:av->Rs Tr}(hl:PE X l (tP X F)):PI X tg l (tJ X fun ρ=>p7 (F ρ)):=by
 intro pins s σ H R I ⟨B,ρ,hb,r,q⟩;refine dN (hl pins s σ H (fun x H1=>∃(a:Addr) (ax:List (List Key×V)) (aA:List (List Key×Tr)),x=.ref a/\aw H H1/\Rd (aN B H1).H a (.dT ax)/\ax.map (·.1)=aA.map (·.1)/\aA.all (fun p=>p.1.all keyOk)=true/\∀J H',vM X B H H'->kP X.K B J H' (aA.map fun p=>.tup (p.1.map l6))->R J H') I ⟨B,ρ,hb,r,q.bind.mono fun t qt v H1 s1 r1=>?_⟩) fun v s1 ⟨x,H1,I1,r1,a,ax,aA,ex,sm,rd,ek,hk,k⟩=>?_
 ·skip
  split at qt
  ·obtain⟨a,ax,e0,h,e,rr⟩:=r1.qB;obtain⟨z,q1⟩:=eV qt;exact⟨a,ax,_,e0,s1,h,e,z,q1⟩
  ·exact qt.elim
 ·subst ex;cases r1;have VO:Rd H1 a (.dT ax):=rd.same aK;have hv:B.hd a=false:=by
   cases z:B.hd a with
   |false=>rfl
   |true=>
    have n:(aN B H1).H a=none:=by show(if B.hd a=true then none else H1 a)=none;rw[ab z]
    rcases rd with h|⟨o,h⟩<;>(rw[n]at h;cases h)
  obtain⟨hz,hs,xs,rel,o,es,ep,h1,h2,h3,h4,h5⟩:=(show bY X.prog X.w H1 s1.heap a (.dT ax)from VO.ok I1.bV);refine xU ⟨o,h1,h2.1⟩ hs h1 h3 ?_
  have fin:∀{H2:Hp},Inv X pins σ H2 s1->H2 a=some (.gI o (.dT ax))->vM X B H H2->Q0 X pins σ tg R (.ref s1.heap.objs.size) {s1 with heap:=s1.heap.push {cls:=.type "dict_keyiterator",data:=.fields #[.ref a,.int 0 0,.int es.size 0,.int ep 0]}}:=fun{H2} I2 e2 tf=>
   ⟨s1.heap.objs.size,[s1.heap.objs.size],_,TV a o ax,H2,rfl,I2.kept (t':=s1.toks) fun b o e=>aB _ e,Ej a _ o ax es ep h3,⟨_,aQ _ rfl,rfl,rfl⟩,fun b hb=>by
    have e:b=s1.heap.objs.size:=by simpa using hb
    subst e;exact I2.vt (aq _) (I2.bV.fresh (aq _)),k _ H2 tf (Cf (by rw[cV hv];exact e2) ek hk)⟩
  rcases VO with e1|⟨o',e1⟩
  ·refine fin (I1.frozen e1 (.t _) h1) aH (.inr ⟨H1,a,o,_,.t ax,sm,hv,e1,rfl,fun o' u e0=>?_⟩);have q:=I1.base.jZ a o' u e0;rw[e1]at q;cases q
  ·have eo:o'=o:=by
    have q:=(show bY X.prog X.w H1 s1.heap a (.gI o' (.dT ax))from I1.bV a _ e1).1;rw[h1]at q;cases q;rfl
   subst eo;exact fin I1 e1 (.inl sm)
theorem AK{tg l:Expr}{F:av->Rs Tr}(hl:QE X l F):QJ X tg l (fun ρ=>p7 (F ρ)):=⟨O2 hl.h⟩
end
end L2
namespace L2
open PySem PySem.Spec PySem.Calls PyProof.Rows
theorem zu:typeLookup (.type "tuple") "keys"=pure none:=by rw[nc,mS];kernel_rfl
def jM(xs more:List (List Key×Addr×Value)):List (List Key×Addr×Value):=more.foldl (fun acc p=>storedH acc p.1 p.2.1 p.2.2) xs
theorem xW(xs:List (List Key×Addr×Value))(k:List Key)(b:Addr)(u:Value):(storedH xs k b u).length<=xs.length+1:=by
 unfold storedH;split
 ·rw[ak];omega
 ·rw[aY];exact aq _
section
variable {prog:Program}{w:World}{A:Around}{E:Value->Shared->Prop}{s:Shared}
theorem xX{a:Addr}{xs:Array Value}{k:Nat}{sl:Array (Option Value)}{Q:Option Value->Shared->Prop}(hx:s.heap.get? a=some {cls:=.type "tuple",dict:=none,data:=.seq xs k,slots:=sl}) (hA:A.handled=none)
  (h:∀h' tk,(∀b o,s.heap.get? b=some o->h'.get? b=some o)->Q none {s with heap:=h',toks:=tk}):wpAny (model prog w) A (getAttr? (.ref a) "keys") Q E s:=by
 obtain⟨hp,g,d,tk,os⟩:=s;have hT:∀vQ,(⟨hp,g,d,vQ,os⟩:Shared).TypeIs (.ref a) "tuple":=fun _=>⟨_,hx,rfl⟩;have f1:=sub_AttributeError;have f3:=qV.lookup;have f4:=qV.bind (.ref a);have f5:=am_tuple_getattr_none;unfold getAttr? getAttrBy? getAttrBy
 repeat(any_goals (first|assumption|exact hT _|((with_reducible show wpAny _ _ (call (Value.builtin "tuple.__getattribute__") _ _) _ _ _);refine hJ qV (hT _) am_entry_tuple_getattribute (F.args_tuple_getattribute_2 _ _) (meets_getattribute_miss_tuple a xs k sl "keys" _ zu (by decide+kernel) (by size_fits)) ⟨hx,hA,fun h' vQ e Cc=>?_⟩)|wp_step))
 obtain⟨t',u',he⟩:=Cc.there;have TH:∀vQ,(⟨h',g,d,vQ,os⟩:Shared).TypeIs (.ref e) "AttributeError":=fun _=>⟨_,he,rfl⟩;show wpAny _ _ (getattributeRaised _ _ _ _ _ _ _) _ _ _;unfold getattributeRaised
 repeat(any_goals (first|assumption|exact TH _|wp_step))
 exact h h' vQ Cc.of.keeps
structure Rp(prog:Program)(w:World)(A:Around)(h0:Heap)(I:Addr)(items:List Value)(It:Nat->Heap->Prop):Prop where
 keep:∀{i h h'},It i h->(∀o,h.get? I=some o->h'.get? I=some o)->It i h'
 item:∀{i:Nat} {s:Shared} {x:Value} {E:Value->Shared->Prop} {Q:Option Value->Shared->Prop},It i s.heap->(∀b o,h0.get? b=some o->s.heap.get? b=some o)->items[i]?=some x->(∀h',It (i+1) h'->Heap.SameBut I s.heap h'->Q (some x) {s with heap:=h'})->wpAny (model prog w) A (pyNext (.ref I)) Q E s
 stop:∀{i:Nat} {s:Shared} {E:Value->Shared->Prop} {Q:Option Value->Shared->Prop},A.handled=none->It i s.heap->(∀b o,h0.get? b=some o->s.heap.get? b=some o)->items.length<=i->(∀h',(∀b o,b≠I->s.heap.get? b=some o->h'.get? b=some o)->Q none {s with heap:=h'})->wpAny (model prog w) A (pyNext (.ref I)) Q E s
theorem Hg{h0:Heap}{l I:Addr}{items:List Value}(hl:h0.IsList l items.toArray):Rp prog w A h0 I items (fun i h=>h.IsListIter I l i):=by
 have O3:∀{h:Heap},(∀b o,h0.get? b=some o->h.get? b=some o)->h.IsList l items.toArray:=fun{h} k=>by obtain⟨o,e,x⟩:=hl;exact⟨o,k _ _ e,x⟩
 exact⟨fun⟨o,e,x⟩ k=>⟨o,k _ e,x⟩,fun it kp e h=>wpAny_pyNext_list_item it (O3 kp) (by simpa using e) h,fun hh it kp e h=>wpAny_pyNext_list_end hh it (O3 kp) (by simpa using e) h⟩
theorem KR{h0:Heap}{l I:Addr}{items:List Value}(hl:h0.IsTuple l items.toArray):Rp prog w A h0 I items (fun i h=>h.IsTupleIter I l i):=by
 have O3:∀{h:Heap},(∀b o,h0.get? b=some o->h.get? b=some o)->h.IsTuple l items.toArray:=fun{h} k=>by obtain⟨o,e,x⟩:=hl;exact⟨o,k _ _ e,x⟩
 exact⟨fun⟨o,e,x⟩ k=>⟨o,k _ e,x⟩,fun it kp e h=>wpAny_pyNext_tuple_item it (O3 kp) (by simpa using e) h,fun hh it kp e h=>wpAny_pyNext_tuple_end hh it (O3 kp) (by simpa using e) h⟩
theorem Cg{h0:Heap}{d I:Addr}{items:List Value}{It:Nat->Heap->Prop}{pairs:List (List Key×Addr×Value)}{R:Result->Shared->Prop}(hu:A.units+1<cLine)(hh:A.handled=none)(W:Rp prog w A.in1 h0 I items It)(hlen:items.length=pairs.length)
  (hp:∀(j:Nat) (t:Value),items[j]?=some t->∃ad b k v,t=.ref ad/\h0.IsTuple ad #[.ref b,v]/\(∀h':Heap,(∀b o,h0.get? b=some o->h'.get? b=some o)->(tupleKind (aR prog w)).is h' k b)/\pairs[j]?=some (k,b,v))
  (XZ:h0.get? d=none) (TX:h0.get? I=none) (TY:d≠I) (hz:pairs.length<=100000)
  (hR:∀h' vQ,(∀b o,h0.get? b=some o->h'.get? b=some o)->h'.DictOfH (tupleKind (aR prog w)) d (jM [] pairs)->R (.ok (.ret .none)) {s with heap:=h',toks:=vQ}):
  ∀(r i:Nat) (h:Heap) (tk:Nat) (ax:List (List Key×Addr×Value)),pairs.length - i=r->i<=pairs.length->ax.length<=i->jM ax (pairs.drop i)=jM [] pairs->(∀b o,h0.get? b=some o->h.get? b=some o)->It i h->h.DictOfH (tupleKind (aR prog w)) d ax->(∀x∈ax,∀h':Heap,(∀b o,h0.get? b=some o->h'.get? b=some o)->(tupleKind (aR prog w)).is h' x.1 x.2.1)->
   codeAny (model prog w) A (.builtin "dict.update.loop" ⟨[.ref d,.ref I,rawInt i,.none],[]⟩) R {s with heap:=h,toks:=tk}:=by
 have nd:∀{b:Addr} {o:Obj},h0.get? b=some o->b≠d:=fun{b o} e z=>by rw[z,XZ]at e;cases e
 have nI:∀{b:Addr} {o:Obj},h0.get? b=some o->b≠I:=fun{b o} e z=>by rw[z,TX]at e;cases e
 have mv:∀{h h':Heap} {ax:List (List Key×Addr×Value)},(∀b o,h0.get? b=some o->h'.get? b=some o)->(∀o,h.get? d=some o->h'.get? d=some o)->(∀x∈ax,∀h':Heap,(∀b o,h0.get? b=some o->h'.get? b=some o)->(tupleKind (aR prog w)).is h' x.1 x.2.1)->h.DictOfH (tupleKind (aR prog w)) d ax->h'.DictOfH (tupleKind (aR prog w)) d ax:=by
  intro h h' ax kp kd ki ⟨o,es,ep,e1,e2,e3,e4,e5,e6⟩;exact⟨o,es,ep,kd _ e1,e2,e3,e4,fun x hx=>ki x hx h' kp,e6⟩
 intro r
 induction r with
 |zero=>
  intro i h tk ax hr hi hk hm kp it dd ki;have e:i=pairs.length:=by omega
  subst e;refine fP uV ?_
  rw[gA js _];show wpAny _ A.in1 (pyNext (.ref I)>>=_) _ _ _;refine aa (W.stop (s:={s with heap:=h,toks:=tk}) hh it kp (by rw[hlen];exact aq _) fun h' eb=>?_);rw[i6]at hm;have IM:∀b o,h0.get? b=some o->h'.get? b=some o:=fun b o e=>eb b o (nI e) (kp b o e);have Il:=mv (h':=h') IM (fun o e=>eb d o TY e) ki dd;show wpAny _ A.in1 (Builtin.Dict.addKeywords d []>>=_) _ _ _;refine aa (af (af ?_));exact hR h' tk IM (by rw[<-hm];exact Il)
 |succ r ih=>
  intro i h tk ax hr hi hk hm kp it dd ki;have dO:i<pairs.length:=by omega
  have TZ:i<items.length:=by omega
  obtain⟨ad,b,k,v,et,tp,O4,ep⟩:=hp i items[i] (by simp[TZ]);have vo:pairs[i]=(k,b,v):=by rw[ay dO]at ep;exact Option.some.inj ep
  refine fP uV ?_
  rw[gA js _];show wpAny _ A.in1 (pyNext (.ref I)>>=_) _ _ _;refine aa (W.item (s:={s with heap:=h,toks:=tk}) it kp (x:=.ref ad) (by rw[ay TZ,et]) fun h' T1 sb=>?_);have IM:∀b o,h0.get? b=some o->h'.get? b=some o:=fun b o e=>(sb.2 b (nI e)).trans (kp b o e);have Il:=mv (h':=h') IM (fun o e=>(sb.2 d TY).trans e) ki dd;obtain⟨ot,e1,e2,n,e3⟩:=tp;have hT:Shared.TypeIs {s with heap:=h',toks:=tk} (.ref ad) "tuple":=⟨ot,IM _ _ e1,e2⟩;refine aa ?_
  refine cu ?_
  refine aa (wpAny_tryCatch ?_);unfold Builtin.Dict.pairItems;refine aa (fo hT ?_);rw[ab (by decide)];refine aa (ko (IM _ _ e1) e3 ?_);refine af ?_
  show wpAny _ A.in1 (holding [.ref b,v] (dictSet d (.ref b) v)) _ _ _;refine cu (wpAny_dictSet_heap (knd:=tupleKind (aR prog w)) (hsz:=by rw[bT];omega) (i4 hu) (O4 _ IM) Il fun h2 FJ Rq=>?_);show wpAny _ A.in1 (pure _) _ _ _;refine af ⟨fq js _,?_⟩;have hc:rawInt ((i:Int)+1)=rawInt ((i+1:Nat):Int):=by push_cast;rfl
  rw[hc];refine ih (i+1) h2 _ (storedH ax k b v) (by omega) dO ?_ ?_ (fun b o e=>(Rq.2 b (nd e)).trans (IM b o e)) ?_ FJ ?_
  ·exact aZ (xW ax k b v) (by omega)
  ·rw[jB dO,vo]at hm;exact hm
  ·exact W.keep T1 fun o e=>(Rq.2 I (cv TY)).trans e
  ·intro x hx;unfold storedH at hx;split at hx
   ·obtain⟨y,hy,rfl⟩:=bp.mp hx;unfold putAt;split
    ·exact ki y hy
    ·exact ki y hy
   ·rcases bF.mp hx with hx|hx
    ·exact ki x hx
    ·rw[cn.mp hx];exact O4
theorem zw{l:Addr}{items:List Value}{pairs:List (List Key×Addr×Value)}{Q:Value->Shared->Prop}{k0:Nat}{Rr:Array (Option Value)}{tn:String}(hu:A.units+4<cLine)(hh:A.handled=none)(O5:tn="list"\/tn="tuple")(hx:s.heap.get? l=some {cls:=.type tn,dict:=none,data:=.seq items.toArray k0,slots:=Rr}) (hlen:items.length=pairs.length)
  (hp:∀(j:Nat) (t:Value),items[j]?=some t->∃ad b k v,t=.ref ad/\s.heap.IsTuple ad #[.ref b,v]/\(∀h':Heap,(∀b o,s.heap.get? b=some o->h'.get? b=some o)->(tupleKind (aR prog w)).is h' k b)/\pairs[j]?=some (k,b,v)) (hz:pairs.length<=100000)
  (h:∀h' vQ,(∀b o,s.heap.get? b=some o->h'.get? b=some o)->h'.DictOfH (tupleKind (aR prog w)) s.heap.objs.size (jM [] pairs)->Q (.ref s.heap.objs.size) {s with heap:=h',toks:=vQ}):
  wpAny (model prog w) A (call (.type "dict") [.ref l]) Q E s:=by
 refine callType_codes (Q₁:=fun obj bZ=>obj=.ref s.heap.objs.size/\bZ={s with heap:=s.heap.push {cls:=.type "dict",data:=.dict #[]}}) F.kt_called_dict (F.kt_typeCall_dict_1 _) F.entry_dict_init (kt_code_dict_new _ ⟨rfl,rfl⟩) ?_
 rintro obj bZ ⟨rfl,rfl⟩
 have Gi:(s.heap.push {cls:=.type "dict",data:=.dict #[]}).DictOf (aR prog w) s.heap.objs.size []:=Heap.DictOf.new s.heap;have O6:(s.heap.push {cls:=.type "dict",data:=.dict #[]}).DictOfH (tupleKind (aR prog w)) s.heap.objs.size []:=Heap.DictOfH.new s.heap;have FP:=aB {cls:=.type "dict",data:=.dict #[]} hx;refine⟨Gi.typeIs,F.args_dict_init_2 _ _,?_⟩;unfold Builtin.«dict.__init__»;refine aa ?_
 unfold Builtin.Dict.selfAndRest;refine aa (wpAny_notOrdered_dict Gi.typeIs ?_);show wpAny _ _ (pure (s.heap.objs.size,[Value.ref l])) _ _ _;refine af ?_
 show wpAny _ _ (Builtin.Dict.updateFrom "dict.__init__" s.heap.objs.size (.ref l) [] .none) _ _ _;unfold Builtin.Dict.updateFrom;have tail:∀(h1:Heap) (qE:Nat),(∀b o,(s.heap.push {cls:=.type "dict",data:=.dict #[]}).get? b=some o->h1.get? b=some o)->∀(I:Addr) (It:Nat->Heap->Prop) (oI:Obj),I=h1.objs.size->Rp prog w A.in1.in1 s.heap I items It->It 0 (h1.push oI)->
   codeAny (model prog w) A.in1 (.builtin "dict.update.loop" ⟨[.ref s.heap.objs.size,.ref I,rawInt 0,.none],[]⟩) (wants (fun r oF=>r=.none/\Q (.ref s.heap.objs.size) oF) E) {s with heap:=h1.push oI,toks:=qE}:=by
  intro h1 qE k1 I It oI eI W X0;subst eI;have k2:∀b o,s.heap.get? b=some o->h1.get? b=some o:=fun b o e=>k1 b o (aB _ e);have X1:h1.get? s.heap.objs.size=some {cls:=.type "dict",data:=.dict #[]}:=k1 _ _ (aQ _ rfl);have dO:s.heap.objs.size<h1.objs.size:=az X1;refine Cg (s:=s) (h0:=s.heap) (A:=A.in1) (by show A.units+1+1<cLine;omega) hh W hlen hp (by
   cases e:s.heap.get? s.heap.objs.size with
   |none=>rfl
   |some o=>exact absurd (az e) (du _)) (by
   cases e:s.heap.get? h1.objs.size with
   |none=>rfl
   |some o=>exact absurd (az (k2 _ _ e)) (du _)) (bo dO) hz (fun h' vQ kp dd=>⟨rfl,h h' vQ kp dd⟩) _ 0 _ _ [] rfl (bK _) (aq _) rfl (fun b o e=>aB _ (k2 b o e)) X0 ?_ (fun x hx=>by cases hx)
  obtain⟨o,es,ep,e,x1,x2,x3,x4,x5⟩:=O6;exact⟨o,es,ep,aB _ (k1 _ _ e),x1,x2,x3,(fun x hx=>by cases hx),x5⟩
 rcases O5 with rfl|rfl
 ·have hT:Shared.TypeIs {s with heap:=s.heap.push {cls:=.type "dict",data:=.dict #[]}} (.ref l) "list":=⟨_,FP,rfl⟩;refine aa (fo hT ?_);rw[ab (by decide)];refine aa (zo FP hh fun h1 qE k1=>?_);rw[ab (show(none:Option Value).isNone=true from rfl)];have hl:s.heap.IsList l items.toArray:=⟨_,hx,rfl,_,rfl⟩;refine aa (hW ?_);refine aa (m5 (show h1.IsList l items.toArray from⟨_,k1 _ _ FP,rfl,_,rfl⟩) ?_);refine af ⟨fq js _,?_⟩;exact tail h1 qE k1 _ _ {cls:=.type "list_iterator",data:=.fields #[.ref l,.int 0 0]} rfl (Hg hl) (by exact⟨_,aQ _ rfl,rfl,rfl⟩)
 ·have hT:Shared.TypeIs {s with heap:=s.heap.push {cls:=.type "dict",data:=.dict #[]}} (.ref l) "tuple":=⟨_,FP,rfl⟩;refine aa (fo hT ?_);rw[ab (by decide)];refine aa (xX FP hh fun h1 qE k1=>?_);rw[ab (show(none:Option Value).isNone=true from rfl)];have hl:s.heap.IsTuple l items.toArray:=⟨_,hx,rfl,_,rfl⟩;refine aa (hW ?_);refine aa (mZ (show h1.IsTuple l items.toArray from⟨_,k1 _ _ FP,rfl,_,rfl⟩) ?_);refine af ⟨fq js _,?_⟩;exact tail h1 qE k1 _ _ {cls:=.type "tuple_iterator",data:=.fields #[.ref l,.int 0 0]} rfl (KR hl) (by exact⟨_,aQ _ rfl,rfl,rfl⟩)
end
def nX:List Tr->Option (List (List Key×Tr))
 |[]=>some []
 |.tup [k,v]::r=>match nV k,nX r with
  |some key,some l=>some ((key,v)::l)
  |_,_=>none
 |_=>none
def cP:List Tr->Rs Tr
 |[.lst ts]=>match nX ts with
  |some aA=>if aA.length<=100000 then .ok (.aI (lb [] aA))else .bad
  |none=>.bad
 |[.tup ts]=>match nX ts with
  |some aA=>if aA.length<=100000 then .ok (.aI (lb [] aA))else .bad
  |none=>.bad
 |_=>.bad
def gL(ax more:List (List Key×V)):List (List Key×V):=more.foldl (fun acc kv=>putK acc kv.1 kv.2) ax
theorem lg:∀(more ax:List (List Key×V)),(gL ax more).length<=ax.length+more.length
 |[],ax=>by show ax.length<=ax.length+0;omega
 |p::r,ax=>by
  have h1:=lg r (putK ax p.1 p.2);have h2:=kK ax p.1 p.2;show(gL (putK ax p.1 p.2) r).length<=_;rw[bb];omega
theorem de.merge {K:PySem.W.Frag}{H:Vw}:∀{more:List (List Key×V)} {MG:List (List Key×Tr)} {ax:List (List Key×V)} {aA:List (List Key×Tr)},de K H more MG->de K H ax aA->de K H (gL ax more) (lb aA MG)
 |[],MG,ax,aA,h,h0=>by
  have e:=h.keys;cases MG with
  |nil=>exact h0
  |cons a b=>cases e
 |(j,v)::more,MG,ax,aA,h,h0=>by
  obtain⟨t,r,rfl,h1,h2⟩:=h.inv;exact de.merge (more:=more) (MG:=r) (aA:=jw aA j t) h2 (h0.put j h1)
theorem KT.merge {H:Hp}:∀{more:List (List Key×V)} {ms:List (List Key×Addr×Value)} {ax:List (List Key×V)} {xs:List (List Key×Addr×Value)},KT H more ms->KT H ax xs->KT H (gL ax more) (jM xs ms):=by
 intro more ms ax xs r;unfold KT at r
 induction r generalizing ax xs with
 |nil=>intro q;exact q
 |@cons p q ps qs h t ih=>
  intro r0;obtain⟨h1,h2,h3⟩:=h;have:=ih (KT.put r0 p.1 (b:=q.2.1) (y:=p.2) (u:=q.2.2) h2 h3);rw[h1]at this;show KT H (gL (putK ax p.1 p.2) ps) (jM (storedH xs q.1 q.2.1 q.2.2) qs);rw[h1];exact this
section
variable {X:Cx}{pins:List (Addr×Obj)}{σ:St}{H:Hp}{s:Shared}{B:bN}
theorem Ci{t:Tr}{ts:List Tr}{aA:List (List Key×Tr)}(h:nX (t::ts)=some aA):∃k v key l,t=.tup [k,v]/\nV k=some key/\nX ts=some l/\aA=(key,v)::l:=by
 unfold nX at h;split at h
 ·cases‹t::ts=[]›
 ·rename_i k v r e;cases e;cases e1:nV k with
  |none=>rw[e1]at h;cases h
  |some key=>
   cases e2:nX ts with
   |none=>rw[e1,e2]at h;cases h
   |some l=>rw[e1,e2]at h;cases h;exact⟨k,v,key,l,rfl,e1,rfl,rfl⟩
 ·cases h
theorem iF{h0:Heap}{b:Addr}{k:List Key}{P:Program}{w:World}(e:(tupleKind (aR P w)).is h0 k b):∀h':Heap,(∀b o,h0.get? b=some o->h'.get? b=some o)->(tupleKind (aR P w)).is h' k b:=by
 intro h' kp;obtain⟨o,aV,n,h1,h2,h3,h4⟩:=e;exact⟨o,aV,n,kp _ _ h1,h2,h3,h4⟩
theorem xY(I:Inv X pins σ H s):∀{vs:List V} {ts:List Tr} {aA:List (List Key×Tr)} {aV:List Value},aJ X.K (aN B H) vs ts->nX ts=some aA->Vals vs aV->
  ∃(ax:List (List Key×V)) (ps:List (List Key×Addr×Value)),de X.K (aN B H) ax aA/\KT H ax ps/\aV.length=ps.length/\∀(j:Nat) (t:Value),aV[j]?=some t->∃ad b k v,t=.ref ad/\s.heap.IsTuple ad #[.ref b,v]/\(∀h':Heap,(∀b o,s.heap.get? b=some o->h'.get? b=some o)->(tupleKind (aR X.prog X.w)).is h' k b)/\ps[j]?=some (k,b,v)
 |[],[],_,_,_,e,rv=>by cases e;cases rv;exact⟨[],[],.nil,.nil,rfl,fun j t e=>by simp at e⟩
 |[],_::_,_,_,h,_,_=>by cases h
 |v::vs,ts,aA,aV,h,e,rv=>by
  cases h with
  |cons h r=>
   obtain⟨k,w',key,l,rfl,ek,el,rfl⟩:=Ci e;cases rv with
   |cons h1 rv=>
    obtain⟨ax,ps,q1,q2,q3,q4⟩:=xY I r el rv;obtain⟨ad,us,rfl,hq,rr⟩:=h.fJ;cases h1;obtain⟨x1,x2,rfl,rk,lS⟩:=Ag rr;obtain⟨vA,CU,pl,_⟩:=I.tuple (.inl (.inl (aK _ _ hq)));obtain⟨u1,u2,rfl,r1,r2⟩:=vals2 CU;obtain⟨b,rfl,hb⟩:=la rk ek;cases(show u1=Value.ref b from r1);refine⟨(key,_)::ax,(key,b,u2)::ps,.cons lS q1,.cons ⟨rfl,hb,r2⟩ q2,by rw[bb,bb,q3],fun j t et=>?_⟩;cases j with
    |zero=>cases et;exact⟨ad,b,key,u2,rfl,pl,iF (mf I.bV hb),rfl⟩
    |succ j=>exact q4 j t et
theorem jy(hu:X.A.units+4<cLine)(hc:X.calm=true):jT X (.type "dict") (rF X cP):=by
 intro pins s σ H xs us Q I rv ⟨B,ts,hb,r,q⟩;have key:∃tr oC aA,ts=[tr]/\(tr=.lst oC\/tr=.tup oC)/\nX oC=some aA/\aA.length<=100000/\∀v H',aw H H'->Rep X.K (aN B H') v (.aI (lb [] aA))->(∀p,v=.ref p->Kp H H' p)->Q v H':=by
  unfold cP at q;split at q
  ·rename_i oC;cases e:nX oC with
   |none=>rw[e]at q;exact(show False from q).elim
   |some aA=>
    rw[e]at q;obtain⟨h0,z⟩:=eV q;exact⟨_,oC,aA,rfl,.inl rfl,e,h0,z⟩
  ·rename_i oC;cases e:nX oC with
   |none=>rw[e]at q;exact(show False from q).elim
   |some aA=>
    rw[e]at q;obtain⟨h0,z⟩:=eV q;exact⟨_,oC,aA,rfl,.inr rfl,e,h0,z⟩
  ·exact(show False from q).elim
 obtain⟨tr,oC,aA,rfl,T2,ep,hz,k⟩:=key;obtain⟨x,rfl,h⟩:=h8 r;obtain⟨u,rfl,ru⟩:=vals1 rv;have src:∃(a:Addr) (vs:List V) (tn:String) (aV:List Value) (n0:Nat) (Rr:Array (Option Value)),x=.ref a/\(tn="list"\/tn="tuple")/\aJ X.K (aN B H) vs oC/\Vals vs aV/\s.heap.get? a=some {cls:=.type tn,dict:=none,data:=.seq aV.toArray n0,slots:=Rr}:=by
  rcases T2 with rfl|rfl
  ·obtain⟨a,vs,rfl,h,rr⟩:=h.lst_inv;obtain⟨z0,aV,n0,uY,hx⟩:=(show bY X.prog X.w H s.heap a (.lst vs)from I.bV a _ (gm h));exact⟨a,vs,"list",aV,n0,_,rfl,.inl rfl,rr,uY,hx⟩
  ·obtain⟨a,vs,rfl,h,rr⟩:=h.fJ;obtain⟨_,aV,uY,o,hx,c1,n0,c2,c3⟩:=(show bY X.prog X.w H s.heap a (.tup vs)from I.bV a _ (aK _ _ h));obtain⟨oc,od,Zr,z6⟩:=o;simp only at c1 c2 c3;subst c1 c2 c3;exact⟨a,vs,"tuple",aV,n0,z6,rfl,.inr rfl,rr,uY,hx⟩
 obtain⟨a,vs,tn,aV,n0,Rr,rfl,O5,rr,uY,hx⟩:=src;cases(show u=Value.ref a from ru);obtain⟨ax,ps,q1,q2,q3,q4⟩:=xY I rr ep uY;have hl:ax.length=aA.length:=q1.length;have X2:ps.length<=100000:=by rw[<-Paired.length q2,hl];exact hz
 refine zw hu (I.ok.hd hc) O5 hx q3 q4 X2 fun h' vQ kp dd=>?_
 have hf:H s.heap.objs.size=none:=I.fresh;have X3:(gL [] ax).length<=sizeLine:=by have:=lg ax [];rw[dX]at this;rw[bT];omega
 have T3:(s.heap.objs.size==sysModules)=false:=by
  have:=I.big;exact e8 (ef this)
 have km:KT (upd H s.heap.objs.size (.dT (gL [] ax))) (gL [] ax) (jM [] ps):=(KT.merge q2 (show KT H [] []from .nil)).keeps fun b ys e=>(au fun z=>by rw[z,hf]at e;cases e).trans e;obtain⟨o,es,vo,e1,e2,e3,e4,_,e6⟩:=dd;refine⟨.ref s.heap.objs.size,_,I.laid (t':=vQ) (o:=.dT (gL [] ax)) kp (aq _) ⟨X3,T3,_,km,o,es,vo,e1,e2,e3,e4,e6⟩,rfl,k _ _ (aw.upd hf) (.aI (.inl (hb.new hf)) ?_ ?_) fun p' e=>by cases e;exact .upd hf (fun _ _ z=>by cases z)⟩
 ·exact(de.merge q1 de.nil).keys
 ·exact(de.merge q1 de.nil).vals.same (aT (aw.upd hf))
end
end L2
namespace L2
open PySem PySem.Spec PyProof.Rows
section
variable {X:Cx}{K:PySem.W.Frag}{B:bN}{H H':Hp}{A:Ab}{a:Addr}{u u' u0:HO}
theorem pX.ha (w:pX H H' a u u' u0)(hv:B.hd a=false)(h:HA K B A H):HA K B A H':=by
 refine⟨w.hb h.hb,fun i o e=>?_,h.inj,h.lt⟩;obtain⟨c,h1,h2⟩:=h.ob i o e;refine⟨c,h1,?_⟩;have f':c≠a:=fun z=>by have q:=h2.hd;rw[z,hv]at q;cases q
 have eq:H' c=H c:=by rw[w.to,au f']
 cases o with
 |lst ts=>obtain⟨h0,vs,h1,h2⟩:=h2;exact⟨h0,vs,eq.trans h1,w.BZ h2⟩
 |lV aA=>obtain⟨h0,vs,h1,h2⟩:=h2;exact⟨h0,vs,eq.trans h1,h2.keys,w.BZ h2.vals⟩
 |aI aA=>obtain⟨h0,vs,h1,h2,h3⟩:=h2;exact⟨h0,vs,eq.trans h1,h2,w.BZ h3⟩
 |GX x=>obtain⟨h0,oe,h1,h2⟩:=h2;exact⟨h0,oe,eq.trans h1,h2⟩
 |tb x q=>obtain⟨h0,h1,h2⟩:=h2;exact⟨h0,h1,eq.trans h2⟩
 |ins c fs=>
  obtain⟨h0,dx,wH,h1,h2,h3,h4,h5⟩:=h2;exact⟨h0,dx,wH,eq.trans h1,w.l5 h2 (fun z=>by cases z) (fun _ _ d z=>by cases z<;>cases d),h3,h4,w.BZ h5⟩
theorem vM.ha (h:vM X B H H')(r:HA K B A H):HA K B A H':=by
 rcases h with s|⟨H1,a,o,u0,hk,s,hv,ha,rfl,h0⟩
 ·exact r.same s
 ·exact pX.ha (u:=u0) ⟨ha,rfl,.inl ⟨rfl,o,rfl⟩,hk⟩ hv (r.same s)
theorem vM.El {B2:bN}{H2:Hp}{A2:Ab}(h:vM X B H H')(hb:HB B H)(g:Grows B H' B2 H2)(r:HA K B2 A2 H2):
  ∃Hu,Grows B H B2 Hu/\HA K B2 A2 Hu/\(∀{B3:bN} {v:V} {t:Tr},Rep K (aN B3 H2) v t->Rep K (aN B3 Hu) v t)/\(∀{σ:St} {ρ:av},a_ K B2 H2 σ ρ->a_ K B2 Hu σ ρ)/\∀k:Hp->Prop,k Hu->gf X H2 k:=by
 rcases h with s|⟨H1,a,o,u0,hk,s,hv,ha,rfl,h0⟩
 ·exact⟨H2,(Grows.of s).trans hb g,r,fun r=>r,fun r=>r,fun k q=>.inl q⟩
 ·have e1:(aN B (upd H1 a (.gI o u0))).H a=some (.gI o u0):=by rw[cV hv];exact aH
  have e2:=g.eR.h _ _ e1;have e3:H2 a=some (.gI o u0):=aK _ _ e2;have w:pX H2 (upd H2 a u0) a (.gI o u0) u0 u0:=⟨e3,rfl,.inr ⟨rfl,o,rfl⟩,hk⟩;have Rl:B2.hd a=false:=by
   cases q:B2.hd a with
   |false=>rfl
   |true=>
    have n:(aN B2 H2).H a=none:=by show(if B2.hd a=true then none else H2 a)=none;rw[ab q]
    rw[n]at e2;cases e2
  refine⟨upd H2 a u0,⟨⟨fun b ob e=>?_,fun b i e=>g.eR.x b i e⟩,fun b ob c e=>?_,g.hd,fun b i e n=>?_⟩,w.ha Rl r,fun r=>w.rep r,fun r=>w.zf r,fun k q=>.inr ⟨a,o,u0,hk,e3,h0,q⟩⟩
  ·by_cases z:b=a
   ·subst z;have q:=s _ _ (aK _ _ e);rw[ha]at q;cases q;rw[cV Rl];exact aH
   ·have q:(aN B (upd H1 a (.gI o u0))).H b=some ob:=gv e fun e=>by rw[au z];exact s _ _ e
    exact gv (g.eR.h _ _ q) fun e=>by rw[au z];exact e
  ·have q:=s _ _ e;by_cases z:b=a
   ·subst z;rw[ha]at q;cases q;exact aH
   ·rw[au z];exact g.kp b ob c (by rw[au z];exact q)
  ·have q:=g.nw b i e n;refine s.free ?_
   by_cases z:b=a
   ·subst z;rw[aH]at q;cases q
   ·rw[au z]at q;exact q
end
def O7(r:Rz Out):Rz Out:=match r with
 |.ok o A=>.ok o A
 |_=>.bad
theorem Hh{xc:Tr->Ab->Prop}{r:Rz Out}{k:Out->Ab->Prop}(q:cJ xc (O7 r) k):cJ (fun _ _=>False) r k:=by
 cases r with
 |ok o A=>exact q
 |exc c A=>exact(show False from q).elim
 |bad=>exact q
section
variable {X:Cx}{tg iter:Expr}{body:List Stmt}{W:av->Rs (List Tr)}{T:iU}{G:av->Ab->Rz Out}{pos:Pos}
theorem KU(hi:QJ X tg iter W)(hg:QG X tg T)(hT:fx T)(hb:ZB X body G)(hp:PassesOwn (model X.prog X.w) X.A X.env X.xe:=by first|exact g7|exact gY) (hc:X.calm=true:=by rfl)
  (hs:isSet iter=false:=by rfl):ZS X (.For tg iter body [] pos) (fun ρ A=>O7 (gz T G (aj (W ρ) A) ρ)):=
 ⟨(vw hp hc hi.h hg.h hb.h (cG hs)).Ky.weak fun D σ H ⟨B0,H0,B,A,ρ,nR,g,ha,r,n,q⟩=>⟨B,ρ,ha.hb,r,(gc (cJ.bind (Hh q))).mono fun ts qt J H1 tf gt=>by
   have fI:=tf.ha ha;have uk:HB B H1:=fI.hb;refine⟨fun i m bM H'=>m=ts.length - i/\i<=ts.length/\∃B' A' dF,Grows B H1 B' H'/\HA X.K B' A' H'/\a_ X.K B' H' bM dF/\cQ dF/\cJ (fun _ _=>False) (fz T G (ts.drop i) dF A') (iD X D B0 H0),⟨_,rfl,bK _,B,A,ρ,.refl,fI,tf.zf r,n,qt⟩,?_⟩
   rintro i m bM H' ⟨rfl,hi,B',A',dF,g',dz,r',n',q'⟩
   by_cases dO:i<ts.length
   ·rw[jB dO]at q';refine .inr ⟨gt.go i B' H' dO g'.eR dz.hb,fun mC H2=>∃B2 A2 ρ2,Grows B H1 B2 H2/\HA X.K B2 A2 H2/\a_ X.K B2 H2 mC ρ2/\cQ ρ2/\cJ (fun _ _=>False) (fz T G (ts.drop (i+1)) ρ2 A2) (iD X D B0 H0),
     fun mC H2 x=>⟨ts.length - (i+1),by omega,rfl,dO,x⟩,fun x H2 hx=>?_⟩
    obtain⟨s2,t,et,rt⟩:=gt.yO i B' H' x H2 dO g'.eR dz.hb hx;have GI:ts[i]=t:=by rw[ay dO]at et;exact Option.some.inj et
    rw[GI]at q';have g2:Grows B H1 B' H2:=g'.trans uk (.of s2);refine Ay hT uk g2 (dz.same s2) (r'.same s2) n' rt (cJ.bind q') fun ρ1 wG H3 q1 g3 wJ r3 n3 _=>?_
    refine⟨B,H1,B',A',ρ1,uk,g3,wJ,r3,n3,((cJ.bind q1).imp fun c Tv x=>x.elim).mono fun o A4 qo=>?_⟩;cases o with
    |nx ρ2=>exact fun xH B4 H4 g4 jJ r4 n4=>⟨B4,A4,ρ2,g4,jJ,r4,n4,qo⟩
    |ct ρ2=>exact fun xH B4 H4 g4 jJ r4 n4=>⟨B4,A4,ρ2,g4,jJ,r4,n4,qo⟩
    |bk ρ2=>
     intro xH B4 H4 g4 jJ r4 n4;obtain⟨Hu,gu,O8,ru,rs,ku⟩:=tf.El ha.hb g4 jJ;exact ku _ (qo xH B4 Hu (g.trans nR gu) O8 (rs r4) n4)
    |ret t=>
     intro v B4 H4 g4 jJ r4;obtain⟨Hu,gu,O8,ru,rs,ku⟩:=tf.El ha.hb g4 jJ;exact ku _ (qo v B4 Hu (g.trans nR gu) O8 (ru r4))
   ·have e:i=ts.length:=by omega
    subst e;rw[i6]at q';obtain⟨Hu,gu,O8,ru,rs,ku⟩:=tf.El ha.hb g' dz;exact .inl ⟨gt.stop B' H' g'.eR,ku _ (q' bM B' Hu (g.trans nR gu) O8 (rs r') n')⟩⟩⟩
def gg(T:iU)(G:av->Ab->Rz Out)(j:Nat):Nat->Nat->av->Ab->Rz Out
 |0,_,_,_=>.bad
 |m+1,i,ρ,A=>match A[j]? with
  |some (.lst us)=>match us[i]? with
   |none=>.ok (.nx ρ) A
   |some t=>(aj (T t ρ) A).bind fun ρ1 A=>(G ρ1 A).bind fun o A=>match o with
    |.nx ρ2=>gg T G j m (i+1) ρ2 A
    |.ct ρ2=>gg T G j m (i+1) ρ2 A
    |.bk ρ2=>.ok (.nx ρ2) A
    |.ret t=>.ok (.ret t) A
  |_=>.bad
def loopAt(T:iU)(G:av->Ab->Rz Out)(m:Nat)(r:Rz Tr)(ρ:av):Rz Out:=r.bind fun t A=>match t with
 |.at j=>match A[j]? with
  |some (.lst _)=>gg T G j m 0 ρ A
  |_=>.bad
 |_=>.bad
inductive T4(X:Cx)(F:av->Ab->Rz Tr)(σ:St)(H:Hp)(R:It->Hp->Prop):Prop
 |mk (B:bN) (A:Ab) (ρ:av):HA X.K B A H->a_ X.K B H σ ρ->cQ ρ->(cJ (XE X B H) (F ρ A) fun t A'=>∃j us,t=.at j/\A'[j]?=some (.lst us)/\∀a B' H',Grows B H B' H'->HA X.K B' A' H'->B'.ix a=some j->R (Q2 X.K a) H')->T4 X F σ H R
theorem O9{F:av->Ab->Rz Tr}(h:PE X iter (tE X F)):PI X tg iter (T4 X F):=by
 intro pins s σ H R I ⟨B,A,ρ,ha,r,n,q⟩;refine dN (h pins s σ H (fun x H1=>∃a vs,x=.ref a/\H1 a=some (.lst vs)/\R (Q2 X.K a) H1) I ⟨B,A,ρ,ha,r,n,q.mono fun t A1 ⟨j,us,et,ej,k⟩ v B1 H1 g1 fI rv=>?_⟩) fun v s1 ⟨x,H1,I1,r1,a,vs,ex,e1,k⟩=>?_
 ·subst et;obtain⟨a,rfl,sG⟩:=rv.sD;obtain⟨hd,vs,h1,h2⟩:=fI.get sG ej;exact⟨a,vs,rfl,h1,k a B1 H1 g1 fI sG⟩
 ·subst ex;cases r1;obtain⟨aV,rv,pl,hz⟩:=I1.list (iA.of e1);refine m5 pl.isList ?_
  refine⟨s1.heap.objs.size,[s1.heap.objs.size],_,_,H1,rfl,I1.kept (t':=s1.toks) fun b o e=>aB _ e,uw a _,⟨_,aQ _ rfl,rfl,rfl⟩,fun b hb=>?_,k⟩;have e:b=s1.heap.objs.size:=by simpa using hb
  subst e;exact I1.vt (aq _) (I1.bV.fresh (aq _))
theorem Em{K:PySem.W.Frag}{B:bN}{A:Ab}{H:Hp}{a:Addr}{j:Nat}{us:List Tr}(ha:HA K B A H)(hx:B.ix a=some j)(ej:A[j]?=some (.lst us)):∃vs,H a=some (.lst vs)/\aJ K (aN B H) vs us:=by
 obtain⟨hd,vs,h1,h2⟩:=ha.get hx ej;exact⟨vs,h1,h2⟩
theorem AL(m:Nat){F:av->Ab->Rz Tr}(hi:ZE X iter F)(hg:QG X tg T)(hT:fx T)(hb:ZB X body G)(hp:PassesOwn (model X.prog X.w) X.A X.env X.xe:=by first|exact g7|exact gY) (hc:X.calm=true:=by rfl)
  (hs:isSet iter=false:=by rfl):ZS X (.For tg iter body [] pos) (fun ρ A=>loopAt T G m (F ρ A) ρ):=
 ⟨(vw hp hc (O9 hi.h) hg.h hb.h (cG hs)).weak fun D σ H ⟨B0,H0,B,A,ρ,nR,g,ha,r,n,q⟩=>⟨B,A,ρ,ha,r,n,((cJ.bind q).imp fun c A' x=>x.grow nR g).mono fun t A1 qt=>by
   have key:∃j us,t=.at j/\A1[j]?=some (.lst us)/\cJ (XE X B0 H0) (gg T G j m 0 ρ A1) (iD X D B0 H0):=by
    split at qt
    ·rename_i j;split at qt
     ·rename_i us ej;exact⟨j,us,rfl,ej,qt⟩
     ·exact qt.elim
    ·exact qt.elim
   obtain⟨j,us,et,ej,qt⟩:=key;refine⟨j,us,et,ej,fun a B1 H1 IP fI FP=>?_⟩;have g1:Grows B0 H0 B1 H1:=g.trans nR IP;have uk:HB B1 H1:=fI.hb;refine⟨fun i k bM H'=>∃B' A' dF,Grows B1 H1 B' H'/\HA X.K B' A' H'/\a_ X.K B' H' bM dF/\cQ dF/\cJ (XE X B0 H0) (gg T G j k i dF A') (iD X D B0 H0),⟨m,B1,A1,ρ,.refl,fI,r.grow n IP,n,qt⟩,?_⟩
   rintro i k bM H' ⟨B',A',dF,g',dz,r',n',q'⟩
   have Cc:B'.ix a=some j:=g'.eR.x a j FP;cases k with
   |zero=>exact(show False from q').elim
   |succ k=>
    unfold gg at q';split at q'
    ·rename_i oC T5;obtain⟨vs,e1,rr⟩:=Em dz Cc T5;have hl:=rr.length;split at q'
     ·rename_i eu;refine .inl ⟨⟨vs,iA.of e1,?_⟩,q' bM B' H' (g1.trans nR g') dz r' n'⟩;rw[hl];exact j6.mp eu
     ·rename_i t eu;obtain⟨v,ev,rv⟩:=rr.get eu;refine .inr ⟨⟨vs,v,iA.of e1,ev⟩,fun mC H2=>∃B2 A2 ρ2,Grows B1 H1 B2 H2/\HA X.K B2 A2 H2/\a_ X.K B2 H2 mC ρ2/\cQ ρ2/\cJ (XE X B0 H0) (gg T G j k (i+1) ρ2 A2) (iD X D B0 H0),
       fun mC H2 x=>⟨k,i7 k,x⟩,fun x H2 hx=>?_⟩
      obtain⟨eh,hx⟩:=hx;subst eh;have ex:v=x:=by have z:=hx vs (iA.of e1);rw[ev]at z;exact Option.some.inj z
      subst ex;refine Ay hT uk g' dz r' n' rv (cJ.bind q') fun ρ1 wG H3 q1 g3 wJ r3 n3 _=>?_
      refine⟨B1,H1,B',A',ρ1,uk,g3,wJ,r3,n3,((cJ.bind q1).imp fun c Tv x=>x.grow nR g1).mono fun o A4 qo=>?_⟩;cases o with
      |nx ρ2=>exact fun xH B4 H4 g4 jJ r4 n4=>⟨B4,A4,ρ2,g4,jJ,r4,n4,qo⟩
      |ct ρ2=>exact fun xH B4 H4 g4 jJ r4 n4=>⟨B4,A4,ρ2,g4,jJ,r4,n4,qo⟩
      |bk ρ2=>exact fun xH B4 H4 g4 jJ r4 n4=>qo xH B4 H4 (g1.trans nR g4) jJ r4 n4
      |ret t=>exact fun v B4 H4 g4 jJ r4=>qo v B4 H4 (g1.trans nR g4) jJ r4
    ·exact(show False from q').elim⟩⟩
end
end L2
namespace L2
open PySem
def Rt(m:Nat):Nat->Nat->Nat
 |0,i=>i
 |k+1,i=>Rt m k ((i*5+1) % (m+1))
def AM(m:Nat):Bool:=(List.range (m+1)).all fun i=>(List.range (m+1)).all fun j=>(List.range (m+1)).any fun k=>Rt m k i==j
theorem X4:AM 7=true:=by decide+kernel
theorem T6:AM 31=true:=by decide+kernel
theorem En{m i j:Nat}(hm:m=7\/m=31)(hi:i<=m)(hj:j<=m):∃k,k<=m/\Rt m k i=j:=by
 have h:AM m=true:=by rcases hm with rfl|rfl;exact X4;exact T6
 unfold AM at h;have h1:=bA.mp (bA.mp h i (cI.mpr (mW hi))) j (cI.mpr (mW hj));obtain⟨k,hk,e⟩:=j_.mp h1;exact⟨k,eZ (cI.mp hk),eq_of_beq e⟩
def zx(m:Nat):Nat->Nat×Nat->Nat×Nat
 |0,p=>p
 |k+1,p=>zx m k (SetTable.leap m p.1 p.2)
theorem AN{m:Nat}:∀(a b:Nat) (p:Nat×Nat),zx m (a+b) p=zx m b (zx m a p)
 |0,b,p=>by rw[kx];rfl
 |a+1,b,p=>by rw[Nat.add_right_comm];exact AN a b _
theorem AO{m:Nat}:∀(k:Nat) (p:Nat×Nat),(zx m k p).2=p.2/32 ^k
 |0,p=>by rw[Nat.pow_zero,Nat.div_one];rfl
 |k+1,p=>by
  show(zx m k (SetTable.leap m p.1 p.2)).2=_;rw[AO k];show p.2/32/32 ^k=_;rw[Nat.div_div_eq_div_mul,Nat.pow_succ,Nat.mul_comm]
theorem Eo{m:Nat}:∀(k:Nat) (p:Nat×Nat),p.1<=m->(zx m k p).1<=m
 |0,p,h=>h
 |k+1,p,h=>Eo k _ (eZ (fZ _ (jc m)))
theorem xZ{m:Nat}:∀(k i:Nat),zx m k (i,0)=(Rt m k i,0)
 |0,i=>rfl
 |k+1,i=>by
  show zx m k ((i*5+1+0/32) % (m+1),0/32)=_;rw[Nat.zero_div,Nat.add_zero,xZ k];rfl
theorem reach{m i j pt:Nat}(hm:m=7\/m=31)(hi:i<=m)(hp:pt<2 ^64)(hj:j<=m):∃k,k<=m+13/\(zx m k (i,pt)).1=j:=by
 have h2:(zx m 13 (i,pt)).2=0:=by
  rw[AO];exact Nat.div_eq_of_lt (bQ hp (by decide))
 have h1:=Eo (m:=m) 13 (i,pt) hi;obtain⟨k,hk,e⟩:=En hm h1 hj;refine⟨13+k,by omega,?_⟩;rw[AN,show zx m 13 (i,pt)=((zx m 13 (i,pt)).1,0) by rw[<-h2],xZ];exact e
theorem vV(h:Int):SetTable.bits h<2 ^64:=by
 unfold SetTable.bits;have h1:=rN h (show(2 ^64:Int)≠0 by decide);have h2:=rh h (show(0:Int)<2 ^64 by decide);omega
theorem gU{m i:Nat}:i<=SetTable.runEnd m i/\SetTable.runEnd m i<=i+9/\(i<=m->SetTable.runEnd m i<=m):=by
 unfold SetTable.runEnd;split<;>exact⟨by omega,by omega,fun _=>by omega⟩
theorem vW{m j:Nat}{owner:Array (Option Nat)}(ho:owner.getD j (some 0)=none):∀(k fuel i pt:Nat),k<fuel->(zx m k (i,pt)).1=j->∃j',SetTable.layClean.free m owner fuel i pt=some j'/\owner.getD j' (some 0)=none
 |k,0,i,pt,h,_=>by omega
 |k,f+1,i,pt,h,e=>by
  unfold SetTable.layClean.free;cases q:(List.range (SetTable.runEnd m i+1 - i)).find? (fun k=>(owner.getD (i+k) (some 0)).isNone)with
  |some c=>
   have hc:=List.find?_some q;refine⟨i+c,rfl,?_⟩;cases z:owner.getD (i+c) (some 0)with
   |none=>rfl
   |some _=>rw[z]at hc;cases hc
  |none=>
   have h0:=List.find?_eq_none.mp q 0 (cI.mpr (by have:=(gU (m:=m) (i:=i)).1;omega));cases k with
   |zero=>
    have e':i=j:=e;subst e';rw[Nat.add_zero,ho]at h0;exact absurd rfl h0
   |succ k=>exact vW ho k f _ _ (by omega) e
structure LC(m:Nat)(L:List Nat)(owner:Array (Option Nat)):Prop where
 sz:owner.size=m+1
 nd:L.Nodup
 le:∀x∈L,x<=m
 at':∀(j c:Nat),owner[j]?=some (some c)↔L[c]?=some j
theorem Ru:∀(n:Nat) (L:List Nat),L.length<n->∃j,j<n/\j∉L
 |0,_,h=>by omega
 |n+1,L,h=>by
  by_cases q:n∈L
  ·obtain⟨j,hj,nj⟩:=Ru n (L.erase n) (by rw[List.length_erase_of_mem q];have:=List.length_pos_of_mem q;omega);exact⟨j,by omega,fun z=>nj ((List.mem_erase_of_ne (by omega)).mpr z)⟩
  ·exact⟨n,by omega,q⟩
theorem getD_none{owner:Array (Option Nat)}{j:Nat}(h:owner.getD j (some 0)=none):owner[j]?=some none:=by
 rw[b_]at h;cases e:owner[j]? with
 |none=>rw[e]at h;cases h
 |some x=>rw[e]at h;exact b9 some h
theorem LC.free {m:Nat}{L:List Nat}{owner:Array (Option Nat)}(h:LC m L owner){j:Nat}(hj:j<=m)(n:j∉L):owner.getD j (some 0)=none:=by
 have dO:j<owner.size:=by rw[h.sz];omega
 rw[b_,bP dO];cases e:owner[j]with
 |none=>rfl
 |some c=>
  have:=(h.at' j c).mp (by rw[bP dO,e]);exact absurd (bg this) n
theorem LC.snoc {m:Nat}{L:List Nat}{owner:Array (Option Nat)}(h:LC m L owner){j:Nat}(hj:owner[j]?=some none):LC m (L++[j]) (owner.setIfInBounds j (some L.length)):=by
 have dO:j<owner.size:=(mH.mp hj).1;have nm:j∉L:=fun z=>by
  obtain⟨c,hc⟩:=dI z;have:=(h.at' j c).mpr hc;rw[hj]at this;cases this
 refine⟨by rw[Array.size_setIfInBounds];exact h.sz,?_,?_,fun i c=>?_⟩
 ·rw[gV];refine⟨h.nd,by simp,fun a ha b hb=>?_⟩;rw[cn.mp hb];exact fun z=>nm (z▸ha)
 ·intro x hx;rcases bF.mp hx with hx|hx
  ·exact h.le x hx
  ·rw[cn.mp hx];rw[h.sz]at dO;omega
 ·by_cases z:i=j
  ·subst z;rw[Array.getElem?_setIfInBounds_self_of_lt dO];constructor
   ·intro e;cases e;rw[dH (aq _),eU];rfl
   ·intro e;by_cases hc:c<L.length
    ·rw[b8 hc]at e;exact absurd (bg e) nm
    ·have h1:=(cb.mp e).1;rw[aY,eY]at h1;have:c=L.length:=by omega
     rw[this]
  ·rw[Array.getElem?_setIfInBounds_ne (cv z),h.at'];by_cases hc:c<L.length
   ·rw[b8 hc]
   ·rw[dH (by omega),j6.mpr (by omega)];constructor
    ·intro e;cases e
    ·intro e;have h2:=bg e;exact absurd (cn.mp h2) z
def iG(m:Nat)(acc:Option (Array (Option Nat)×Nat))(h:Int):Option (Array (Option Nat)×Nat):=do
    let(owner,k)<-acc
    let j<-SetTable.layClean.free m owner (SetTable.turns m) (SetTable.bits h % (m+1)) (SetTable.bits h)
    pure (owner.setIfInBounds j (some k),k+1)
theorem x6{m:Nat}(hm:m=7\/m=31):∀(hs:List Int) (L:List Nat) (owner:Array (Option Nat)),LC m L owner->L.length+hs.length<=m+1->∃L' jN,hs.foldl (iG m) (some (owner,L.length))=some (jN,L'.length)/\LC m L' jN/\L'.length=L.length+hs.length
 |[],L,owner,h,_=>⟨L,owner,rfl,h,rfl⟩
 |x::hs,L,owner,h,hl=>by
  rw[bb]at hl;obtain⟨j,hj,nj⟩:=Ru (m+1) L (by omega);have hf:=h.free (eZ hj) nj;obtain⟨k,hk,e⟩:=reach (pt:=SetTable.bits x) (i:=SetTable.bits x % (m+1)) hm (eZ (fZ _ (jc m))) (vV x) (eZ hj);obtain⟨j',e1,e2⟩:=vW hf k (SetTable.turns m) _ _ (by unfold SetTable.turns;omega) e;have h':=h.snoc (getD_none e2);obtain⟨L',jN,q1,q2,q3⟩:=x6 hm hs _ _ h' (by rw[aY,eY];omega);refine⟨L',jN,?_,q2,by rw[q3,aY,eY,bb];omega⟩;rw[fU];have es:iG m (some (owner,L.length)) x=some (owner.setIfInBounds j' (some L.length),L.length+1):=by
   unfold iG;show(SetTable.layClean.free m owner (SetTable.turns m) (SetTable.bits x % (m+1)) (SetTable.bits x)).bind _=_;rw[e1];rfl
  rw[es];rw[aY]at q1;exact q1
theorem jX{α:Type}:∀(l:List α),(List.range l.length).filterMap (fun i=>l[i]?)=l
 |[]=>rfl
 |x::l=>by
  rw[bb,List.range_succ_eq_map,iw,List.filterMap_map];show x::(List.range l.length).filterMap (fun i=>l[i]?)=_;rw[jX l]
theorem Hi{m f mv:Nat}{ld pl:Bool}(hm:m=7\/m=31){es:Array (Int×Value)}(hn:es.size<=m):∃t' order,SetTable.laid m f mv ld pl (es.map (·.1))=some (t',order)/\t'.mask=m/\t'.dummies=#[]/\t'.led=ld/\t'.plain=pl/\kY t'.place/\(∀x∈t'.place.toList,x<=m)/\t'.place.size=es.size/\(order.filterMap (es[·]?)).toList.Perm es.toList:=by
 have h0:LC m [] (Array.replicate (m+1) none):=⟨by simp,fQ,(fun x hx=>by cases hx),fun j c=>by
  constructor
  ·intro e;rw[Array.getElem?_replicate]at e;split at e<;>cases e
  ·intro e;simp at e⟩
 have Ep:(es.map (·.1)).toList.length=es.size:=by simp
 obtain⟨L,owner,q1,q2,q3⟩:=x6 hm (es.map (·.1)).toList [] _ h0 (by rw[Ep];show 0+es.size<=_;omega);rw[Ep]at q3;have q3:L.length=es.size:=q3.trans (kx _);have ec:SetTable.layClean m (es.map (·.1))=some owner:=by
  unfold SetTable.layClean;rw[<-Array.foldl_toList];show Option.map _ ((es.map (·.1)).toList.foldl (iG m) (some (Array.replicate (m+1) none,([]:List Nat).length)))=_;rw[q1];rfl
 have KW:∀j c,owner.getD j none=some c↔L[c]?=some j:=fun j c=>by
  rw[<-q2.at',b_];cases e:owner[j]? with
  |none=>simp
  |some x=>simp
 have O_:((List.range (m+1)).filterMap fun j=>(owner.getD j none).map (j,·)).Pairwise fun a b=>a.1<b.1:=by
  refine List.Pairwise.filterMap _ (fun a a' T7 b hb b' lF=>?_) List.pairwise_lt_range;cases e:owner.getD a none with
  |none=>rw[e]at hb;cases hb
  |some c=>
   cases e':owner.getD a' none with
   |none=>rw[e']at lF;cases lF
   |some c'=>rw[e]at hb;rw[e']at lF;cases hb;cases lF;exact T7
 have O':((List.range (m+1)).filterMap fun j=>(owner.getD j none).map (j,·)).Pairwise fun a b=>a.2≠b.2:=by
  refine List.Pairwise.filterMap _ (fun a a' T7 b hb b' lF=>?_) List.pairwise_lt_range;cases e:owner.getD a none with
  |none=>rw[e]at hb;cases hb
  |some c=>
   cases e':owner.getD a' none with
   |none=>rw[e']at lF;cases lF
   |some c'=>
    rw[e]at hb;rw[e']at lF;cases hb;cases lF;intro z;have z:c=c':=z;subst z;have h1:=(KW _ _).mp e;have h2:=(KW _ _).mp e';rw[h1]at h2;cases h2;exact absurd T7 (du _)
 have mem:∀p:Nat×Nat,p∈((List.range (m+1)).filterMap fun j=>(owner.getD j none).map (j,·))↔L[p.2]?=some p.1:=fun p=>by
  rw[iW];constructor
  ·rintro ⟨j,_,e⟩
   cases q:owner.getD j none with
   |none=>rw[q]at e;cases e
   |some c=>rw[q]at e;cases e;exact(KW _ _).mp q
  ·intro e;refine⟨p.1,cI.mpr (mW (q2.le _ (bg e))),?_⟩;rw[(KW _ _).mpr e];rfl
 have IQ:(((List.range (m+1)).filterMap fun j=>(owner.getD j none).map (j,·)).map (·.2)).Perm (List.range es.size):=by
  refine(mI ?_ List.nodup_range).mpr fun c=>?_
  ·exact List.Pairwise.map _ (fun a b h=>h) O'
  ·rw[bp,cI];constructor
   ·rintro ⟨p,hp,rfl⟩
    have:=(cb.mp ((mem p).mp hp)).1;omega
   ·intro hc;exact⟨(L[c]'(by omega),c),(mem _).mpr (ay (by omega)),rfl⟩
 refine⟨_,_,by unfold SetTable.laid;rw[ec];rfl,rfl,rfl,rfl,rfl,?_,?_,?_,?_⟩
 ·show List.Pairwise _ ((List.map _ _).toArray).toList;exact List.Pairwise.map _ (fun a b h=>h) O_
 ·intro x hx;have Cc:x∈((List.range (m+1)).filterMap fun j=>(owner.getD j none).map (j,·)).map (·.1):=by simpa using hx
  obtain⟨p,hp,rfl⟩:=bp.mp Cc;exact q2.le _ (bg ((mem p).mp hp))
 ·have:=IQ.length_eq;rw[ak,iy]at this;show((List.map _ _).toArray).size=_;rw[aS,ak];exact this
 ·rw[Array.toList_filterMap];have:=IQ.filterMap (fun i=>es[i]?);refine(show List.Perm (List.filterMap _ _) _ from this).trans ?_
  have e:=jX es.toList;rw[bc]at e;have e2:(fun i:Nat=>es.toList[i]?)=fun i=>es[i]? :=funext fun i=>by rw[cf]
  rw[e2]at e;rw[e]
section
variable {t:SetTable}
def bJ(t:SetTable):Nat->SetTable.Probe->SetTable.Probe
 |0,p=>p
 |k+1,p=>bJ t k (t.advance p)
theorem dE:∀(a b:Nat) (p:SetTable.Probe),bJ t (a+b) p=bJ t b (bJ t a p)
 |0,b,p=>by rw[kx];rfl
 |a+1,b,p=>by rw[Nat.add_right_comm];exact dE a b _
theorem vX:∀(c:Nat) (p:SetTable.Probe),p.more=c->(bJ t (c+1) p).j=(SetTable.leap t.mask p.i p.perturb).1/\(bJ t (c+1) p).i=(SetTable.leap t.mask p.i p.perturb).1/\(bJ t (c+1) p).perturb=(SetTable.leap t.mask p.i p.perturb).2/\(bJ t (c+1) p).more<=9
 |0,p,h=>by
  show(t.advance p).j=_/\(t.advance p).i=_/\(t.advance p).perturb=_/\(t.advance p).more<=9;unfold SetTable.advance;rw[ae (by omega)];refine⟨rfl,rfl,rfl,?_⟩;show SetTable.runEnd t.mask _ - _<=9;have:=(gU (m:=t.mask) (i:=(SetTable.leap t.mask p.i p.perturb).1)).2.1;omega
 |c+1,p,h=>by
  have e:t.advance p={p with j:=p.j+1,more:=p.more - 1}:=by unfold SetTable.advance;rw[ab (by omega)]
  have:=vX c {p with j:=p.j+1,more:=p.more - 1} (by show p.more - 1=c;omega);show(bJ t (c+1) (t.advance p)).j=_/\(bJ t (c+1) (t.advance p)).i=_/\(bJ t (c+1) (t.advance p)).perturb=_/\(bJ t (c+1) (t.advance p)).more<=9;rw[e];exact this
theorem uZ{j0:Nat}:∀(k:Nat) (p:SetTable.Probe),p.more<=9->(zx t.mask (k+1) (p.i,p.perturb)).1=j0->∃N,N<=10*(k+1)/\(bJ t N p).j=j0
 |0,p,h,e=>⟨p.more+1,by omega,(vX p.more p rfl).1.trans e⟩
 |k+1,p,h,e=>by
  obtain⟨h1,h2,h3,h4⟩:=vX (t:=t) p.more p rfl;obtain⟨N,hN,q⟩:=uZ (j0:=j0) k (bJ t (p.more+1) p) h4 (by rw[h2,h3];exact e);exact⟨p.more+1+N,by omega,by rw[dE];exact q⟩
theorem x8(hm:t.mask=7\/t.mask=31)(h:Int){j0:Nat}(hj:j0<=t.mask):∃N,N<=10*(t.mask+13)/\(bJ t N (t.probeStart h)).j=j0:=by
 obtain⟨k,hk,e⟩:=reach (pt:=SetTable.bits h) (i:=SetTable.bits h % (t.mask+1)) hm (eZ (fZ _ (jc _))) (vV h) hj;cases k with
 |zero=>exact⟨0,bK _,e⟩
 |succ k=>
  obtain⟨N,hN,q⟩:=uZ k (t.probeStart h) (by
   show SetTable.runEnd t.mask _ - _<=9;have:=(gU (m:=t.mask) (i:=SetTable.bits h % (t.mask+1))).2.1;omega) e
  exact⟨N,by omega,q⟩
def PB(t:SetTable)(p:SetTable.Probe):Prop:=p.j+p.more<=t.mask/\p.dummy=none
theorem PB.VP {p:SetTable.Probe}(h:PB t p):PB t (t.advance p):=by
 unfold SetTable.advance;split
 ·exact⟨by have:=h.1;show p.j+1+(p.more - 1)<=_;omega,h.2⟩
 ·refine⟨?_,h.2⟩;show(SetTable.leap t.mask p.i p.perturb).1+(SetTable.runEnd t.mask (SetTable.leap t.mask p.i p.perturb).1 - (SetTable.leap t.mask p.i p.perturb).1)<=_;have hl:(SetTable.leap t.mask p.i p.perturb).1<=t.mask:=eZ (fZ _ (jc _));have:=gU (m:=t.mask) (i:=(SetTable.leap t.mask p.i p.perturb).1);have:=this.2.2 hl;omega
theorem PB.start (h:Int):PB t (t.probeStart h):=by
 refine⟨?_,rfl⟩;show SetTable.bits h % (t.mask+1)+(SetTable.runEnd t.mask _ - SetTable.bits h % (t.mask+1))<=_;have hl:SetTable.bits h % (t.mask+1)<=t.mask:=eZ (fZ _ (jc _));have:=gU (m:=t.mask) (i:=SetTable.bits h % (t.mask+1));have:=this.2.2 hl;omega
theorem nY(hd:t.dummies=#[]) (j:Nat):t.slot j=.empty\/∃i,t.slot j=.live i/\t.place[i]?=some j:=by
 unfold SetTable.slot;dsimp only;split
 ·rename_i e;exact .inr ⟨_,rfl,eq_of_beq e⟩
 ·rw[hd,ae (by unfold SetTable.has;simp)];exact .inl rfl
theorem zy(hd:t.dummies=#[]) {j:Nat} (h:j∉t.place.toList):t.slot j=.empty:=by
 rcases nY hd j with e|⟨i,_,e⟩
 ·exact e
 ·exact absurd (by rw[<-cf]at e;exact bg e) h
end
end L2
namespace L2
open PySem PySem.Spec PyProof.Rows
section
variable {t t':SetTable}{L L':List Nat}{h:Int}{j:Nat}
def zz(t:SetTable)(L:List Nat)(h:Int)(j:Nat):Prop:=∃N,(bJ t N (t.probeStart h)).j=j/\∀n,n<N->(bJ t n (t.probeStart h)).j∈L
theorem zz.mono (s:∀x∈L,x∈L')(p:zz t L h j):zz t L' h j:=by
 obtain⟨N,e,k⟩:=p;exact⟨N,e,fun n hn=>s _ (k n hn)⟩
theorem oV(e:t.mask=t'.mask):∀(n:Nat) (p:SetTable.Probe),bJ t n p=bJ t' n p
 |0,_=>rfl
 |n+1,p=>by
  have q:t.advance p=t'.advance p:=by unfold SetTable.advance;rw[e]
  show bJ t n (t.advance p)=bJ t' n (t'.advance p);rw[q];exact oV e n _
theorem zz.mask (e:t.mask=t'.mask)(p:zz t L h j):zz t' L h j:=by
 obtain⟨N,k⟩:=p;have q:t.probeStart h=t'.probeStart h:=by unfold SetTable.probeStart;rw[e]
 refine⟨N,?_⟩;rw[<-q,<-oV e];refine⟨k.1,fun n hn=>?_⟩;rw[<-oV e];exact k.2 n hn
theorem sQ:∀(n:Nat) (p:SetTable.Probe),n<=p.more->bJ t n p={p with j:=p.j+n,more:=p.more - n}
 |0,p,_=>rfl
 |n+1,p,hn=>by
  have e:t.advance p={p with j:=p.j+1,more:=p.more - 1}:=by unfold SetTable.advance;rw[ab (by omega)]
  show bJ t n (t.advance p)=_;rw[e,sQ n _ (by show n<=p.more - 1;omega)];show({p with j:=p.j+1+n,more:=p.more - 1 - n}:SetTable.Probe)=_;rw[show p.j+1+n=p.j+(n+1) by omega,show p.more - 1 - n=p.more - (n+1) by omega]
theorem nZ(p:SetTable.Probe):bJ t (p.more+1) p={p with j:=(SetTable.leap t.mask p.i p.perturb).1,more:=SetTable.runEnd t.mask (SetTable.leap t.mask p.i p.perturb).1 - (SetTable.leap t.mask p.i p.perturb).1,i:=(SetTable.leap t.mask p.i p.perturb).1,perturb:=(SetTable.leap t.mask p.i p.perturb).2}:=by
 rw[dE,sQ _ _ (aq _)];show t.advance _=_;unfold SetTable.advance;rw[ae (by show¬p.more - p.more>0;omega)]
theorem u4{owner:Array (Option Nat)}:∀(f i pt:Nat) {j:Nat} (p:SetTable.Probe),SetTable.layClean.free t.mask owner f i pt=some j->p.j=i->p.i=i->p.perturb=pt->p.more=SetTable.runEnd t.mask i - i->∃N,(bJ t N p).j=j/\∀n,n<N->¬owner.getD (bJ t n p).j (some 0)=none
 |0,i,pt,j,p,e,_,_,_,_=>by cases e
 |f+1,i,pt,j,p,e,e1,e2,e3,e4=>by
  unfold SetTable.layClean.free at e;have hr:=(gU (m:=t.mask) (i:=i)).1;cases q:(List.range (SetTable.runEnd t.mask i+1 - i)).find? (fun k=>(owner.getD (i+k) (some 0)).isNone)with
  |some c=>
   rw[q]at e;cases e;obtain⟨_,hc,hb⟩:=List.find?_range_eq_some.mp q;have hc:=cI.mp hc;refine⟨c,by rw[sQ c p (by omega)];show p.j+c=_;rw[e1],fun n hn z=>?_⟩;rw[sQ n p (by omega)]at z;have z:owner.getD (p.j+n) (some 0)=none:=z;have y:=hb n hn;rw[e1]at z;rw[z]at y;cases y
  |none=>
   rw[q]at e;obtain⟨N,h1,h2⟩:=u4 f _ _ (bJ t (p.more+1) p) e (by rw[nZ,e2,e3];rfl) (by rw[nZ,e2,e3];rfl) (by rw[nZ,e2,e3];rfl) (by rw[nZ,e2,e3];rfl);refine⟨p.more+1+N,by rw[dE];exact h1,fun n hn=>?_⟩;by_cases hl:n<=p.more
   ·rw[sQ n p hl];show¬owner.getD (p.j+n) (some 0)=none;intro z;have y:=List.find?_eq_none.mp q n (cI.mpr (by omega));rw[<-e1,z]at y;exact y rfl
   ·have en:n=p.more+1+(n - (p.more+1)):=by omega
    rw[en,dE];exact h2 _ (by omega)
theorem PB.bJ {p:SetTable.Probe}(b:PB t p):∀n,PB t (bJ t n p):=by
 intro n
 induction n generalizing p with
 |zero=>exact b
 |succ n ih=>exact ih b.VP
theorem x9(hm:t.mask=7\/t.mask=31):∀(hs KY:List Int) (L:List Nat) (owner:Array (Option Nat)),LC t.mask L owner->L.length=KY.length->(∀(c j:Nat) (h:Int),L[c]?=some j->KY[c]?=some h->zz t L h j)->L.length+hs.length<=t.mask+1->∃L' jN,hs.foldl (iG t.mask) (some (owner,L.length))=some (jN,L'.length)/\LC t.mask L' jN/\L'.length=L.length+hs.length/\∀(c j:Nat) (h:Int),L'[c]?=some j->(KY++hs)[c]?=some h->zz t L' h j
 |[],KY,L,owner,h,_,hp,_=>⟨L,owner,rfl,h,rfl,by rw[dq];exact hp⟩
 |x::hs,KY,L,owner,h,he,hp,hl=>by
  rw[bb]at hl;obtain⟨j,hj,nj⟩:=Ru (t.mask+1) L (by omega);have hf:=h.free (eZ hj) nj;obtain⟨k,hk,e⟩:=reach (pt:=SetTable.bits x) (i:=SetTable.bits x % (t.mask+1)) hm (eZ (fZ _ (jc _))) (vV x) (eZ hj);obtain⟨j',e1,e2⟩:=vW hf k (SetTable.turns t.mask) _ _ (by unfold SetTable.turns;omega) e;obtain⟨N,p1,p2⟩:=u4 _ _ _ (t.probeStart x) e1 rfl rfl rfl rfl;have h':=h.snoc (getD_none e2);have pn:zz t L x j':=⟨N,p1,fun n hn=>by
   have b:=((PB.start (t:=t) x).bJ n).1;have z:=p2 n hn;generalize (bJ t n (t.probeStart x)).j=y at b z⊢;by_cases m:y∈L
   ·exact m
   ·exact absurd (h.free (by omega) m) z⟩
  obtain⟨L',jN,q1,q2,q3,q4⟩:=x9 hm hs (KY++[x]) _ _ h' (by rw[aY,aY,he];rfl) (fun c y z hy hz=>by
   have sub:∀x∈L,x∈L++[j']:=fun x m=>dU _ m;by_cases hc:c<L.length
   ·rw[b8 hc]at hy;rw[b8 (by omega)]at hz;exact(hp c y z hy hz).mono sub
   ·have h1:=(cb.mp hy).1;rw[aY,eY]at h1;have ec:c=L.length:=by omega
    subst ec;rw[dH (aq _),eU]at hy;rw[dH (by omega),he,eU]at hz;cases hy;cases hz;exact pn.mono sub) (by rw[aY,eY];omega)
  refine⟨L',jN,?_,q2,by rw[q3,aY,eY,bb];omega,by rw[gE]at q4;exact q4⟩;rw[fU];have es:iG t.mask (some (owner,L.length)) x=some (owner.setIfInBounds j' (some L.length),L.length+1):=by
   unfold iG;show(SetTable.layClean.free t.mask owner (SetTable.turns t.mask) (SetTable.bits x % (t.mask+1)) (SetTable.bits x)).bind _=_;rw[e1];rfl
  rw[es];rw[aY]at q1;exact q1
theorem x_{es:Array (Int×Value)}:∀{l:List (Nat×Nat)},(∀p∈l,∃e,es[p.2]?=some e)->∀x∈List.zip ((l.map (·.2)).filterMap (fun i=>es[i]?)) (l.map (·.1)),∃p∈l,es[p.2]?=some x.1/\x.2=p.1
 |[],_,x,m=>by simp at m
 |p::l,h,x,m=>by
  obtain⟨e,he⟩:=h p (aP ..);rw[aC,aC,iw,he]at m;rcases a8.mp m with rfl|m
  ·exact⟨p,aP ..,he,rfl⟩
  ·obtain⟨q,hq,r⟩:=x_ (fun q hq=>h q (aO _ hq)) x m;exact⟨q,aO _ hq,r⟩
theorem Cj{m f mv:Nat}{ld pl:Bool}(hm:m=7\/m=31){es:Array (Int×Value)}(hn:es.size<=m){order:Array Nat}(e:SetTable.laid m f mv ld pl (es.map (·.1))=some (t,order)):∀x∈List.zip (order.filterMap (es[·]?)).toList t.place.toList,zz t t.place.toList x.1.1 x.2:=by
 have em:t.mask=m:=by
  unfold SetTable.laid at e;cases q:SetTable.layClean m (es.map (·.1))with
  |none=>rw[q]at e;cases e
  |some ow=>rw[q]at e;cases e;rfl
 subst em;have h0:LC t.mask [] (Array.replicate (t.mask+1) none):=⟨by simp,fQ,(fun x hx=>by cases hx),fun j c=>by
  constructor
  ·intro e;rw[Array.getElem?_replicate]at e;split at e<;>cases e
  ·intro e;simp at e⟩
 have Ep:(es.map (·.1)).toList.length=es.size:=by simp
 obtain⟨L,owner,q1,q2,q3,q4⟩:=x9 hm (es.map (·.1)).toList [] [] _ h0 rfl (fun c j h z=>by simp at z) (by rw[Ep];show 0+es.size<=_;omega);rw[Ep]at q3;have q3:L.length=es.size:=q3.trans (kx _);have ec:SetTable.layClean t.mask (es.map (·.1))=some owner:=by
  unfold SetTable.layClean;rw[<-Array.foldl_toList];show Option.map _ ((es.map (·.1)).toList.foldl (iG t.mask) (some (Array.replicate (t.mask+1) none,([]:List Nat).length)))=_;rw[q1];rfl
 have KW:∀j c,owner.getD j none=some c↔L[c]?=some j:=fun j c=>by
  rw[<-q2.at',b_];cases e:owner[j]? with
  |none=>simp
  |some x=>simp
 have mem:∀p:Nat×Nat,p∈((List.range (t.mask+1)).filterMap fun j=>(owner.getD j none).map (j,·))↔L[p.2]?=some p.1:=fun p=>by
  rw[iW];constructor
  ·rintro ⟨j,_,e⟩
   cases q:owner.getD j none with
   |none=>rw[q]at e;cases e
   |some c=>rw[q]at e;cases e;exact(KW _ _).mp q
  ·intro e;refine⟨p.1,cI.mpr (mW (q2.le _ (bg e))),?_⟩;rw[(KW _ _).mpr e];rfl
 generalize Pa:((List.range (t.mask+1)).filterMap fun j=>(owner.getD j none).map (j,·))=live at mem;have e':t.place=(live.map (·.1)).toArray/\order=(live.map (·.2)).toArray:=by
  unfold SetTable.laid at e;rw[ec]at e;have e:=Option.some.inj e;have e1:=b9 (fun z=>z.1.place) e;have e2:=b9 (fun z=>z.2) e;rw[<-Pa];exact⟨e1.symm,e2.symm⟩
 intro x hx;rw[e'.1,e'.2,Array.toList_filterMap]at hx;have hex:∀p∈live,∃e,es[p.2]?=some e:=fun p hp=>by
  have:=(cb.mp ((mem p).mp hp)).1;exact⟨_,bP (by omega)⟩
 obtain⟨p,hp,h1,h2⟩:=x_ hex x hx;have hL:=(mem p).mp hp;have hh:([]++(es.map (·.1)).toList)[p.2]?=some x.1.1:=by
  rw[kc,cf,Array.getElem?_map,h1];rfl
 rw[h2];refine(q4 _ _ _ hL hh).mono fun y hy=>?_
 obtain⟨c,hc⟩:=dI hy;rw[e'.1];show y∈live.map (·.1);exact bp.mpr ⟨(y,c),(mem _).mpr hc,rfl⟩
theorem vY(hr:kY t.place){i:Nat}(e:t.place[i]?=some j):t.slot j=.live i:=by
 obtain⟨hi,ev⟩:=mH.mp e;have gd:t.place.getD i 0=j:=by rw[b_,e];rfl
 have⟨q0,q1,q2⟩:=below_at hr j;have eb:SetTable.below t.place j=i:=by
  rcases Nat.lt_trichotomy (SetTable.below t.place j) i with h|h|h
  ·have h1:=q2 _ (aq _) (kq h hi);have h2:=hr.lt h hi;omega
  ·exact h
  ·have:=q1 i h;omega
 unfold SetTable.slot;dsimp only;rw[eb,e,ab (bD _)]
theorem slot_mem(hr:kY t.place)(m:j∈t.place.toList):¬t.slot j=.empty:=by
 obtain⟨i,hi⟩:=dI m;rw[cf]at hi;rw[vY hr hi];intro z;cases z
theorem Er(hd:t.dummies=#[]) {ha:Nat->Int}:∀(N fuel:Nat) (p:SetTable.Probe),N<fuel->PB t p->t.slot (bJ t N p).j=.empty->
  (∃n,SetTable.probe.go t ha h fuel p=some (.empty (bJ t n p).j none)/\t.slot (bJ t n p).j=.empty/\(bJ t n p).j<=t.mask/\∀k,k<n->∃i,t.slot (bJ t k p).j=.live i/\t.place[i]?=some (bJ t k p).j/\¬ha i=h)\/
   ∃n i,SetTable.probe.go t ha h fuel p=some (.candidate (bJ t n p).j i (bJ t (n+1) p))/\n<N/\t.slot (bJ t n p).j=.live i/\t.place[i]?=some (bJ t n p).j/\∀k,k<n->∃i,t.slot (bJ t k p).j=.live i/\t.place[i]?=some (bJ t k p).j/\¬ha i=h
 |N,0,p,hf,_,_=>by omega
 |N,f+1,p,hf,pb,e=>by
  unfold SetTable.probe.go;rcases nY hd p.j with q|⟨i,q,qi⟩
  ·rw[q];refine .inl ⟨0,by rw[pb.2];rfl,q,?_,fun k hk=>by omega⟩;have:=pb.1;show p.j<=_;omega
  ·rw[q];cases N with
   |zero=>
    rw[show(bJ t 0 p).j=p.j from rfl,q]at e;cases e
   |succ N=>
    show(∃n,(if(ha i==h)=true then _ else _)=_/\_)\/∃n i',(if(ha i==h)=true then _ else _)=_/\_;by_cases z:(ha i==h)=true
    ·rw[ab z];exact .inr ⟨0,i,rfl,by omega,q,qi,fun k hk=>by omega⟩
    ·rw[ae z];have z:¬ha i=h:=fun y=>z (by rw[y];exact bD _);have step:∀{n:Nat},(∀k,k<n->∃i,t.slot (bJ t k (t.advance p)).j=.live i/\t.place[i]?=some (bJ t k (t.advance p)).j/\¬ha i=h)->∀k,k<n+1->∃i,t.slot (bJ t k p).j=.live i/\t.place[i]?=some (bJ t k p).j/\¬ha i=h:=fun hk k hl=>by
      cases k with
      |zero=>exact⟨i,q,qi,z⟩
      |succ k=>exact hk k (by omega)
     rcases Er hd N f (t.advance p) (by omega) pb.VP e with⟨n,a1,a2,a3,a4⟩|⟨n,i',a1,a2,a3,a4,a5⟩
     ·exact .inl ⟨n+1,a1,a2,a3,step a4⟩
     ·exact .inr ⟨n+1,i',a1,by omega,a3,a4,step a5⟩
end
end L2
namespace L2
open PySem PySem.Spec PySem.Calls PyProof.Rows
def n5(w:World)(p:Int×Value):Int×Value:=p
def p8(w:World)(h:Heap)(a:Addr)(ss:List Value):Prop:=
 ∃(o:Obj) (es:Array (Int×Value)) (ep:Nat) (t:SetTable) (l:List (Int×Value)),h.get? a=some o/\o.ExactSet/\o.data=.set es ep t/\es.toList=l.map (n5 w)/\(l.map (·.2)).Perm ss/\True/\es.size<scanBound/\
  t.fits es.size=true/\(wK w=true\/t.led=true)/\kY t.place
theorem p8.typeIs {w:World}{s:Shared}{a:Addr}{ss:List Value}(h:p8 w s.heap a ss):s.TypeIs (.ref a) "set":=by
 obtain⟨o,es,ep,t,l,ho,hex,_⟩:=h;exact⟨o,ho,hex.1⟩
theorem p8.keep {w:World}{h h':Heap}{a:Addr}{ss:List Value}(x:p8 w h a ss)(k:∀o,h.get? a=some o->h'.get? a=some o):p8 w h' a ss:=by
 obtain⟨o,es,ep,t,l,ho,r⟩:=x;exact⟨o,es,ep,t,l,k o ho,r⟩
theorem sR{w:World}(l:List (Int×Value)):l.map (n5 w)=l:=List.map_id' l
theorem zA{w:World}{l es:List (Int×Value)}(hp:es.Perm (l.map (n5 w))):∃l':List (Int×Value),es=l'.map (n5 w)/\l'.Perm l:=⟨es,(sR es).symm,by rw[sR]at hp;exact hp⟩
def uo(p:Int×Value):Value:=p.2
def iR(l:List (Int×Value))(i:Nat)(v:Value):Prop:=(l[i]?).map uo=some v
section
variable {prog:Program}{w:World}{A:Around}{E:Value->Shared->Prop}{s:Shared}{I a:Addr}{o:Obj}{es:Array (Int×Value)}{ep:Nat}{t:SetTable}
theorem ya{l:List (Int×Value)}(he:es.toList=l.map (n5 w))(p:Nat):es[p]?=(l[p]?).map (n5 w):=by
 rw[<-cf,he,aL]
theorem zB(hb:wK w=true)(hd:o.data=.set es ep t)(hf:t.fits es.size=true){l:List (Int×Value)}(he:(pickOrder (w.params.setOrder a ep) es).toList=l.map (n5 w))(hl:l.length=es.size)(f':I≠a)(A':Around)(hh:A'.handled=none):
  Walks prog w A' I [I,a] [I] l.length (iR l) (fun i h=>h.get? I=some (pJ (rawInt 0) i a es.size ep)/\h.get? a=some o) where
 sub:=fun b hb=>by simp at hb;simp[hb]
 frame:=fun i h h' st k=>⟨k I (by simp) _ st.1,k a (by simp) _ st.2⟩
 item:=fun i s Q E hi st hQ=>by
  have e1:(pickOrder (w.params.setOrder a ep) es)[i]?=(l[i]?).map (n5 w):=by rw[<-cf,he,aL]
  rw[ay hi]at e1;refine vN (slot:=0) (r:=some ((n5 w l[i]).2,0)) hh st.1 st.2 hd hf (fun B E' Q' q=>uU hb st.2 hd hf (by rw[e1];exact q)) (fun x nx e h' g sb=>?_) fun e=>nomatch e;cases e;exact hQ _ h' s.toks (by unfold iR;rw[ay hi];rfl) ⟨g,(sb.2 a (cv f')).trans st.2⟩ fun b o hb e=>sb.extBut b o (fun z=>hb (by simp[z])) e
 done:=fun s Q E st hQ=>by
  have e1:(pickOrder (w.params.setOrder a ep) es)[l.length]?=none:=by
   rw[<-cf,he,aL,j6.mpr (aq _)];rfl
  refine vN (slot:=0) (r:=none) hh st.1 st.2 hd hf (fun B E' Q' q=>uU hb st.2 hd hf (by rw[e1];exact q)) (fun x nx e=>nomatch e) fun _ h' eb=>?_
  exact hQ h' s.toks fun b o hb e=>eb b o (fun z=>hb (by simp[z])) e
 self:=fun i s Q E st hQ=>vO st.1 hQ
theorem Ck(hb:wK w=false)(hl:t.led=true)(hz:t.plain=true\/es.size<=1)(hr:kY t.place)(hd:o.data=.set es ep t)(hf:t.fits es.size=true){l:List (Int×Value)}(he:es.toList=l.map (n5 w))(f':I≠a)(A':Around)(hh:A'.handled=none):
  Walks prog w A' I [I,a] [I] l.length (iR l) (fun i h=>h.get? I=some (pJ (rawInt (slotAt t i:Nat)) i a es.size ep)/\h.get? a=some o):=by
 have hlen:l.length=es.size:=by have q:=b9 List.length he;rw[bc,ak]at q;exact q.symm
 have MH:t.place.size=es.size:=by
  simp only[SetTable.fits,aE,g9]at hf;exact hf.1
 exact{
  sub:=fun b hb=>by simp at hb;simp[hb]
  frame:=fun i h h' st k=>⟨k I (by simp) _ st.1,k a (by simp) _ st.2⟩
  item:=fun i s Q E hi st hQ=>by
   have e0:es[i]?=some (n5 w l[i]):=by rw[ya he,ay hi];rfl
   have e1:t.place[i]?=some (t.place.getD i 0):=by rw[b_,bP (by omega)];rfl
   refine vN (slot:=slotAt t i) (r:=some ((n5 w l[i]).2,t.place.getD i 0+1)) hh st.1 st.2 hd hf (fun B E' Q' q=>xJ hb hl hz st.2 hd hf (by rw[sJ hr (by omega),e0,e1];exact q)) (fun x nx e h' g sb=>?_) fun e=>nomatch e;cases e;exact hQ _ h' s.toks (by unfold iR;rw[ay hi];rfl) ⟨g,(sb.2 a (cv f')).trans st.2⟩ fun b o hb e=>sb.extBut b o (fun z=>hb (by simp[z])) e
  done:=fun s Q E st hQ=>by
   have e1:es[l.length]?=none:=mK.mpr (by omega)
   refine vN (slot:=slotAt t l.length) (r:=none) hh st.1 st.2 hd hf (fun B E' Q' q=>xJ hb hl hz st.2 hd hf (by rw[sJ hr (by omega),e1];exact q)) (fun x nx e=>nomatch e) fun _ h' eb=>?_
   exact hQ h' s.toks fun b o hb e=>eb b o (fun z=>hb (by simp[z])) e
  self:=fun i s Q E st hQ=>vO st.1 hQ}
theorem yb{tp:Addr}{ot:Obj}{ps:List Nat}{m:Nat}(hd:o.data=.set es ep t)(hf:t.fits es.size=true)(Rm:ot.data=.seq (ps.map fun i=>rawInt (i:Nat)).toArray m){l l':List (Int×Value)}(he:es.toList=l.map (n5 w))(X5:∀i:Nat,l'[i]?=(ps[i]?).bind fun p=>l[p]?)(MH:∀p∈ps,p<l.length)
  (hlen:l'.length=ps.length) (f':I≠a) (X6:I≠tp) (A':Around) (hh:A'.handled=none):
  Walks prog w A' I [I,a,tp] [I] l'.length (iR l') (fun i h=>h.get? I=some (pJ (.ref tp) i a es.size ep)/\h.get? a=some o/\h.get? tp=some ot) where
 sub:=fun b hb=>by simp at hb;simp[hb]
 frame:=fun i h h' st k=>⟨k I (by simp) _ st.1,k a (by simp) _ st.2.1,k tp (by simp) _ st.2.2⟩
 item:=fun i s Q E hi st hQ=>by
  have Pb:i<ps.length:=by omega
  have pq:(ps.map fun i=>rawInt (i:Nat)).toArray[i]?=some (rawInt (ps[i]:Nat)):=by simp[Pb]
  have hp:ps[i]<l.length:=MH _ (gZ Pb);have e1:es[ps[i]]?=some (n5 w l[ps[i]]):=by rw[ya he,ay hp];rfl
  have e2:l'[i]?=some l[ps[i]]:=by rw[X5,ay Pb];exact ay hp
  refine D3 hh st.1 st.2.1 hd hf st.2.2 Rm (fun p e h1 h2 h' g sb=>?_) (fun z=>by rw[pq]at z;cases z) (fun v hv=>?_)
  ·rw[pq]at h1;have T8:((ps[i]:Nat):Int)=(p:Int):=by
    have q:=Option.some.inj h1;injection q
   have T9:ps[i]=p:=by omega
   subst T9;rw[e1]at h2;cases h2;exact hQ _ h' s.toks (by unfold iR;rw[e2];rfl) ⟨g,(sb.2 a (cv f')).trans st.2.1,(sb.2 tp (cv X6)).trans st.2.2⟩ fun b o hb e=>sb.extBut b o (fun z=>hb (by simp[z])) e
  ·rw[pq]at hv;cases hv;exact⟨_,_,rfl,e1⟩
 done:=fun s Q E st hQ=>by
  have pq:(ps.map fun i=>rawInt (i:Nat)).toArray[l'.length]?=none:=by simp[hlen]
  refine D3 hh st.1 st.2.1 hd hf st.2.2 Rm (fun p e h1=>by rw[pq]at h1;cases h1) (fun _ h' eb=>?_) (fun v hv=>by rw[pq]at hv;cases hv);exact hQ h' s.toks fun b o hb e=>eb b o (fun z=>hb (by simp[z])) e
 self:=fun i s Q E st hQ=>vO st.1 hQ
theorem Cm{ss:List Value}{Q:Value->Shared->Prop}(hS:p8 w s.heap a ss)
  (hQ:∀(h':Heap) (d:Drawn) (I:Addr) (fp:List Addr) (St:Nat->Heap->Prop) (l:List (Int×Value)),(l.map (·.2)).Perm ss->(∀b o,s.heap.get? b=some o->h'.get? b=some o)->s.heap.objs.size<=I->(∀b∈fp,b=a\/s.heap.objs.size<=b)->
   (∀A':Around,A'.handled=none->Walks prog w A' I fp [I] l.length (iR l) St)->St 0 h'->Q (.ref I) {s with heap:=h',drawn:=d}):wpAny (model prog w) A (pyIter (.ref a)) Q E s:=by
 obtain⟨o,es,ep,t,l,ho,hex,hd,he,hp,hn,hb,hf,hl,pq⟩:=id hS;have dO:a<s.heap.objs.size:=az ho;have hlen:l.length=es.size:=by have q:=b9 List.length he;rw[bc,ak]at q;exact q.symm
 refine rY hS.typeIs PySem.F.slot_set_iter (dM PySem.F.slot_set_iter hS.typeIs pY ?_ (PySem.F.args_set_iter_1 _));unfold Builtin.«frozenset.__iter__»;refine aa (m:=Builtin.Frozenset.slot0 "__iter__" _) (af ?_);refine aa ?_
 unfold Builtin.Frozenset.sizeOf;refine aa (iO ho hd hf (af ?_));refine aa ?_
 unfold setDrawn;refine aa (fm ho hd hf ?_);dsimp only;refine aa (lL (af ?_));refine fV (fun VQ=>?_) (fun VQ=>?_)
 ·
  refine aa (l7 _ _ _ _ (iy ..) fun ps d MH=>?_);have hz:((ps.map fun(i:Nat)=>rawInt i)).length<=sizeLine:=by
   rw[ak,MH.length_eq,iy];exact fits_of_scanBound hb
  refine aa (wpAny_newTuple (hsz:=hz) ?_);have IG:(s.heap.push {cls:=.type "tuple",data:=.seq (ps.map fun(i:Nat)=>rawInt i).toArray}).get? a=some o:=aB _ ho;have J5:(s.heap.push {cls:=.type "tuple",data:=.seq (ps.map fun(i:Nat)=>rawInt i).toArray}).objs.size=s.heap.objs.size+1:=Heap.size_push ..;refine aa (wpAny_setEpoch_of IG hd hf ?_);refine aa (cB ?_);refine af ⟨_,rfl,"set_iterator",_,⟨_,aQ _ rfl,rfl⟩,cy.lookup,?_⟩;have Pc:∀p∈ps,p<l.length:=fun p hm=>by
   have q:=cI.mp (MH.mem_iff.mp hm);omega
  have u5:(ps.map fun p=>l.getD p (0,Value.none)).Perm l:=by
   have q:=MH.map fun p=>l.getD p (0,Value.none);have e:(List.range es.size).map (fun p=>l.getD p (0,Value.none))=l:=by
    rw[<-hlen];refine i5 (by simp) fun i h1 h2=>?_
    simp[h2]
   rw[e]at q;exact q
  refine hQ _ d _ [_,a,s.heap.objs.size] _ (ps.map fun p=>l.getD p (0,Value.none)) ((u5.map _).trans hp) (fun b o e=>aB _ (aB _ e)) (by rw[J5];exact kB _) (fun b hm=>?_)
   (fun A' hA=>yb (ot:={cls:=.type "tuple",data:=.seq (ps.map fun(i:Nat)=>rawInt i).toArray}) (ps:=ps) hd hf rfl he (fun i=>?_) Pc (ak ..) ?_ ?_ A' hA)
   ⟨aQ _ rfl,aB _ IG,aB _ (aQ _ rfl)⟩
  ·simp only[a8,rK,or_false]at hm;rcases hm with rfl|rfl|rfl
   ·right;rw[J5];exact kB _
   ·left;rfl
   ·right;exact aq _
  ·rw[aL];cases e:ps[i]? with
   |none=>rfl
   |some p=>
    have pq:=Pc p (bg e);show some (l.getD p (0,Value.none))=l[p]?
    rw[bz,ay pq];rfl
  ·rw[J5];exact ef (i3 dO)
  ·rw[J5];exact Nat.succ_ne_self _
 ·refine aa (af ?_);refine aa (wpAny_setEpoch_of ho hd hf ?_);refine aa (cB ?_);refine af ⟨_,rfl,"set_iterator",_,⟨_,aQ _ rfl,rfl⟩,cy.lookup,?_⟩;have Rv:∀b∈[s.heap.objs.size,a],b=a\/s.heap.objs.size<=b:=fun b hm=>by
   simp only[a8,rK,or_false]at hm;rcases hm with rfl|rfl
   ·exact .inr (aq _)
   ·exact .inl rfl
  have f':s.heap.objs.size≠a:=ef dO;cases Rw:wK w with
  |true=>
   have T8:=B7 (w.params.setOrder a ep) es;rw[he]at T8;obtain⟨l2,e2,p2⟩:=zA T8;exact hQ _ s.drawn _ [_,a] _ l2 ((p2.map _).trans hp) (fun b o e=>aB _ e) (aq _) Rv (fun A' hA=>zB Rw hd hf e2 (p2.length_eq.trans hlen) f' A' hA) ⟨aQ _ rfl,aB _ ho⟩
  |false=>
   have X7:t.plain=true\/es.size<=1:=by
    cases hp:t.plain with
    |true=>exact .inl rfl
    |false=>
     refine .inr (rE fun hz=>VQ ?_);show(!wK w&&(!t.plain&&decide (es.size>1)))=true;rw[Rw,hp,bj hz]
     rfl
   have T_:t.led=true:=hl.resolve_left (by rw[Rw];exact cR);exact hQ _ s.drawn _ [_,a] _ l hp (fun b o e=>aB _ e) (aq _) Rv (fun A' hA=>Ck Rw T_ X7 pq hd hf he f' A' hA) ⟨aQ _ rfl,aB _ ho⟩
variable {ss:List Value}
theorem yc{R:Result->Shared->Prop}(hh:A.handled=none)(hS:p8 w s.heap a ss)(L:Addr)(VR:L≠a)(res:Value)(hL:s.heap.get? L=some {cls:=.type "list",data:=.seq #[] 0})
  (hR:∀h' tk d iq c' l,(l.map (·.2)).Perm ss->(∀b o,b≠L->s.heap.get? b=some o->h'.get? b=some o)->h'.get? L=some {cls:=.type "list",dict:=none,data:=.seq iq c',slots:=#[]}->ItemsOf (iR l) iq l.length->
   R (.ok (.ret res)) {s with heap:=h',toks:=tk,drawn:=d}) (hn:ss.length<=sizeLine):
  wpAny (model prog w) A.in1 (Builtin.List.listExtendWith (.ref L) (.ref a) res) (fun fin s'=>match fin with|.done f=>R (.ok f) s'|.again c'=>c'.quiet=true/\codeAny (model prog w) A c' R s') (fun e s'=>R (.error e) s') s:=by
 have Pd:L<s.heap.objs.size:=az hL;unfold Builtin.List.listExtendWith;refine aa (fo (T:="set") hS.typeIs ?_);have h1:Builtin.List.listSameRef (.ref L) (.ref a)=false:=by simp[Builtin.List.listSameRef,VR]
 have h2:(Value.type "set"==Value.type "list")=false:=by decide
 have h3:(Value.type "set"==Value.type "tuple")=false:=by decide
 simp only[h1,h2,h3,m9,bS,bB];refine aa (Cm hS fun fH d I fp St l hp hk hI Rv W st=>?_);have hlen:l.length=ss.length:=by have q:=hp.length_eq;rw[ak]at q;exact q
 have T':Shared.TypeIs {s with heap:=fH,drawn:=d} (.ref a) "set":=by
  obtain⟨o,ho,hc⟩:=hS.typeIs;exact⟨o,hk _ _ ho,hc⟩
 have VS:L∉fp:=fun m=>by
  rcases Rv L m with e|e
  ·exact VR e
  ·exact absurd (bQ Pd e) (du _)
 have Zs:L≠I:=bo (bQ Pd hI);have Ua:=hk _ _ hL;have key:∀(h:Heap) (c₁ tk:Nat),St 0 h->(∀b o,b≠L->s.heap.get? b=some o->h.get? b=some o)->h.get? L=some {cls:=.type "list",data:=.seq #[] c₁}->
   codeAny (model prog w) A (.builtin "list.extend.loop" ⟨[.ref L,.ref I,res],[]⟩) R {s with heap:=h,toks:=tk,drawn:=d}:=by
  intro h c₁ tk eJ Rx Pe;refine codeAny_extend_loopS (W A.in1 hh).toS (by omega) L VS res l.length 0 _ #[] c₁ rfl (bK _) eJ Pe (ItemsOf.nil _) fun s' iq c' hm zC oW=>?_
  rw[Moved.eq_with hm];refine hR s'.heap s'.toks d iq c' l hp (fun b o hb e=>hm.heap b o (fun KZ=>?_) (Rx b o hb e)) zC oW;rcases a8.mp KZ with e'|KZ
  ·exact hb e'
  ·exact absurd (bQ (az e) hI) (by rw[cn.mp KZ];exact du _)
 refine aa (cu (D5 T' ?_));refine fV (fun _=>?_) (fun _=>af ⟨fq PySem.F.plain_extend_loop _,key _ 0 _ st (fun b o _ e=>hk b o e) Ua⟩);refine aa (hW ?_);refine aa ?_
 show wpAny _ _ (updateSeq L (·.push .none)>>=fun _=>updateSeq L (·.pop)) _ _ _;refine aa (wpAny_updateSeq Ua rfl ?_);have IS:=iV (Obj.mapSeq (·.push Value.none)) Ua rfl;refine wpAny_updateSeq (hz:=by seq_fits) IS rfl ?_
 have Pf:=iV (Obj.mapSeq (·.pop)) IS rfl;refine af ⟨fq PySem.F.plain_extend_loop _,key _ _ _ ?_ (fun b o hb e=>?_) Pf⟩
 ·refine(W A.in1 hh).frame 0 _ _ st fun b hb o e=>?_
  have VT:b≠L:=fun z=>VS (z▸hb);exact(lD _ _ (cv VT)).trans ((lD _ _ (cv VT)).trans e)
 ·exact(lD _ _ (cv hb)).trans ((lD _ _ (cv hb)).trans (hk b o e))
theorem vZ{R:List Value->Shared->Prop}(hh:A.handled=none)(hS:p8 w s.heap a ss)(hn:ss.length<=sizeLine)
  (h:∀(h':Heap) (tk:Nat) (d:Drawn) (l:List (Int×Value)),(l.map (·.2)).Perm ss->(∀b o,s.heap.get? b=some o->h'.get? b=some o)->s.heap.objs.size<=h'.objs.size->R (l.map uo) {s with heap:=h',toks:=tk,drawn:=d}):wpAny (model prog w) A (collect (.ref a)) R E s:=by
 have dO:a<s.heap.objs.size:=by obtain⟨o,ho,_⟩:=hS.typeIs;exact az ho
 have items:∀(l:List (Int×Value)) (acc:Array Value),ItemsOf (iR l) acc l.length->acc.toList=l.map uo:=fun l acc hi=>by
  refine List.ext_getElem? fun i=>?_
  rw[aL,cf];cases e:acc[i]? with
  |none=>
   have h1:acc.size<=i:=mK.mp e;rw[hi.1]at h1;rw[j6.mpr h1];rfl
  |some v=>exact(hi.2 i v e).symm
 unfold collect;refine aa (wpAny_runValue (fP entry_proto_collect' ?_));rw[gA wR _];show wpAny _ A.in1 (newList []>>=fun l=>again (.builtin "list.__iadd__" ⟨[l,.ref a],[]⟩)) _ _ s;refine aa (cB ?_);refine af ⟨fq mM _,fP entry_list_iadd' ?_⟩;rw[gA mM _];have hL:(s.heap.push {cls:=.type "list",data:=.seq ([]:List Value).toArray}).get? s.heap.objs.size=some {cls:=.type "list",data:=.seq #[]}:=aQ _ rfl;show wpAny _ A.in1 (Builtin.List.listExtendWith (.ref s.heap.objs.size) (.ref a) (.ref s.heap.objs.size)) _ _ _;have key:=yc (prog:=prog) (A:=A) (s:={s with heap:=s.heap.push {cls:=.type "list",data:=.seq ([]:List Value).toArray}}) (ss:=ss)
  (R:=fun(q:Result) (s':Shared)=>∃(h':Heap) (tk:Nat) (d:Drawn) (iq:Array Value) (c':Nat) (l:List (Int×Value)),q=.ok (.ret (.ref s.heap.objs.size))/\s'={s with heap:=h',toks:=tk,drawn:=d}/\
   (l.map (·.2)).Perm ss/\(∀b o,s.heap.get? b=some o->h'.get? b=some o)/\h'.get? s.heap.objs.size=some {cls:=.type "list",dict:=none,data:=.seq iq c',slots:=#[]}/\ItemsOf (iR l) iq l.length)
  hh (hS.keep fun o e=>aB _ e) s.heap.objs.size (ef dO) (.ref s.heap.objs.size) hL
  (fun h' tk d iq c' l hp hk zC oW=>⟨h',tk,d,iq,c',l,rfl,rfl,hp,fun b o e=>hk b o (bo (az e)) (aB _ e),zC,oW⟩) hn
 refine cT key (fun fin s' x=>?_) fun e s' x=>?_
 ·cases fin with
  |done f=>
   obtain⟨h',tk,d,iq,c',l,e,rfl,hp,hk,zC,oW⟩:=x;cases e;show wpAny _ A (load s.heap.objs.size>>=_) _ _ _;refine aa (kC zC ?_);refine af ?_
   rw[items l iq oW];exact h h' tk d l hp hk (fX (az zC))
  |again c₁=>
   refine⟨x.1,g8 x.2 fun q oF y=>?_⟩;obtain⟨h',tk,d,iq,c',l,rfl,rfl,hp,hk,zC,oW⟩:=y;show wpAny _ A (load s.heap.objs.size>>=_) _ _ _;refine aa (kC zC ?_);refine af ?_
   rw[items l iq oW];exact h h' tk d l hp hk (fX (az zC))
 ·obtain⟨_,_,_,_,_,_,e',_⟩:=x;cases e'
end
end L2
namespace L2
open PySem PySem.Spec PyProof.Rows
section
variable {prog:Program}{w:World}{A:Around}{E:Value->Shared->Prop}{s:Shared}
theorem Cn{d:Nat}{v:Value}(h:carriedByValue v=true):ofAClassStatement d v=pure false:=by
 cases v<;>first|(cases h;done)|(unfold ofAClassStatement;rfl)
theorem Hj{d:Nat}{k:Key}{v:Value}(h:(aR prog w).is k v=true):∃b,hashByValue d v=pure b:=by
 have h:nq k v=true:=h;cases k with
 |inl i=>cases v<;>first|exact⟨_,by unfold hashByValue;rfl⟩|cases h
 |inr z=>cases v<;>first|exact⟨_,by unfold hashByValue;rfl⟩|cases h
structure pM(t:SetTable)(n:Nat):Prop where
 dm:t.dummies=#[]
 ms:t.mask=7\/t.mask=31
 le:∀x∈t.place.toList,x<=t.mask
 sz:t.place.size=n
 Ry:n*5<t.mask*3
 rise:kY t.place
theorem pM.fits {t:SetTable}{n:Nat}(h:pM t n):t.fits n=true:=by
 unfold SetTable.fits SetTable.fill;rw[h.dm,h.sz,bD,kh,cp];have:=h.Ry;show n+0<=_;omega
theorem pM.odd {t:SetTable}{n:Nat}(h:pM t n):t.gaveWay=false:=by
 unfold SetTable.gaveWay;rcases h.ms with e|e<;>rw[e]<;>rfl
end
end L2
namespace L2
open PySem PySem.Spec PyProof.Rows
def NV(h:Heap):Nat->Tr->Value->Prop
 |0,t,v=>∃i w,t=.int i/\v=.int i w
 |d+1,t,v=>(∃i w,t=.int i/\v=.int i w)\/∃ts a o items n,t=.tup ts/\v=.ref a/\h.get? a=some o/\o.cls=.type "tuple"/\o.data=.seq items n/\ts.length=items.size/\∀(i:Nat) t v,ts[i]?=some t->items[i]?=some v->NV h d t v
structure NT(h:Heap)(d:Nat)(ts:List Tr)(a:Addr)(o:Obj)(items:Array Value)(n:Nat):Prop where
 g:h.get? a=some o
 c:o.cls=.type "tuple"
 dt:o.data=.seq items n
 l:ts.length=items.size
 k:∀(i:Nat) t v,ts[i]?=some t->items[i]?=some v->NV h d t v
theorem NV.inv {h:Heap}{d:Nat}{t:Tr}{v:Value}(x:NV h d t v):(∃i w,t=.int i/\v=.int i w)\/∃d' ts a o items n,d=d'+1/\t=.tup ts/\v=.ref a/\NT h d' ts a o items n:=by
 cases d with
 |zero=>exact .inl x
 |succ d=>
  rcases x with x|⟨ts,a,o,items,n,e1,e2,h1,h2,h3,h4,h5⟩
  ·exact .inl x
  ·exact .inr ⟨d,ts,a,o,items,n,rfl,e1,e2,h1,h2,h3,h4,h5⟩
theorem NV.keep {h h':Heap}(k:∀b o xs n,o.cls=Value.type "tuple"->o.data=.seq xs n->h.get? b=some o->h'.get? b=some o):∀{d:Nat} {t:Tr} {v:Value},NV h d t v->NV h' d t v
 |0,_,_,x=>x
 |d+1,t,v,x=>by
  rcases x with x|⟨ts,a,o,items,n,e1,e2,h1,h2,h3,h4,h5⟩
  ·exact .inl x
  ·exact .inr ⟨ts,a,o,items,n,e1,e2,k _ _ _ _ h2 h3 h1,h2,h3,h4,fun i t v e1 e2=>NV.keep k (h5 i t v e1 e2)⟩
theorem list_eq{ts us:List Tr}(hl:ts.length=us.length)(h:∀(i:Nat) t u,ts[i]?=some t->us[i]?=some u->t=u):ts=us:=
 i5 hl fun i h1 h2=>h i _ _ (ay h1) (ay h2)
theorem NV.fn {h:Heap}:∀{d:Nat} {t t':Tr} {v:Value},NV h d t v->NV h d t' v->t=t'
 |0,_,_,_,⟨i,w,e1,e2⟩,⟨i',w',qj,AQ⟩=>by subst e1 qj e2;injection AQ with e;rw[e]
 |d+1,_,_,_,x,y=>by
  rcases x with⟨i,w,e1,e2⟩|⟨ts,a,o,items,n,e1,e2,h1,h2,h3,h4,h5⟩<;>rcases y with⟨i',w',qj,AQ⟩|⟨oN,a',o',Es,n',qj,AQ,Ce,FN,wM,VU,Ub⟩
  ·subst e1 qj e2;injection AQ with e;rw[e]
  ·rw[e2]at AQ;cases AQ
  ·rw[e2]at AQ;cases AQ
  ·subst e1 qj e2;cases AQ;rw[h1]at Ce;cases Ce;rw[h3]at wM;cases wM;refine b9 Tr.tup (list_eq (h4.trans VU.symm) fun i t u a1 a2=>?_);have hi:=(cb.mp a1).1;have e:items[i]?=some (items[i]'(by omega)):=bP (by omega)
   exact NV.fn (h5 i _ _ a1 e) (Ub i _ _ a2 e)
theorem AR:∀{ts:List Tr},(∀(i:Nat) t,ts[i]?=some t->kR t=true)->ip ts=true
 |[],_=>rfl
 |t::ts,h=>by rw[ip,h 0 t rfl,AR fun i t e=>h (i+1) t (by simpa using e)];rfl
theorem NV.pl {h:Heap}:∀{d:Nat} {t:Tr} {v:Value},NV h d t v->kR t=true
 |0,_,_,⟨i,w,e1,e2⟩=>by subst e1;rfl
 |d+1,_,_,x=>by
  rcases x with⟨i,w,e1,e2⟩|⟨ts,a,o,items,n,e1,e2,h1,h2,h3,h4,h5⟩
  ·subst e1;rfl
  ·subst e1;rw[kR];refine AR fun i t e=>?_
   have hi:=(cb.mp e).1;exact NV.pl (h5 i _ _ e (bP (by omega)))
theorem NV.eqT {h:Heap}:∀{d:Nat} {t t':Tr} {v v':Value},NV h d t v->NV h d t' v'->eqT t t'=true->t=t'
 |0,_,_,_,_,⟨i,w,e1,e2⟩,⟨i',w',qj,AQ⟩,e=>by subst e1 qj;rw[L2.eqT]at e;rw[eq_of_beq e]
 |d+1,_,_,_,_,x,y,e=>by
  rcases x with⟨i,w,e1,e2⟩|⟨ts,a,o,items,n,e1,e2,h1,h2,h3,h4,h5⟩<;>rcases y with⟨i',w',qj,AQ⟩|⟨oN,a',o',Es,n',qj,AQ,Ce,FN,wM,VU,Ub⟩
  ·subst e1 qj;rw[L2.eqT]at e;rw[eq_of_beq e]
  ·subst e1 qj;simp only[L2.eqT]at e;cases e
  ·subst e1 qj;simp only[L2.eqT]at e;cases e
  ·subst e1 qj;rw[L2.eqT,<-nJ,aE,g9,bA]at e;refine b9 Tr.tup (list_eq e.2 fun i t u a1 a2=>?_);have hi:=(cb.mp a1).1;have jq:=(cb.mp a2).1;have q:=e.1 i (cI.mpr (by omega));rw[lI a1,lI a2]at q;exact NV.eqT (h5 i _ _ a1 (bP (by omega))) (Ub i _ _ a2 (bP (by omega))) q
theorem IT{s:Shared}:∀{d:Nat} {A:Around} {t t':Tr} {v v':Value},A.units+d<cLine->NV s.heap d t v->NV s.heap d t' v'->SeqAt.EqAt A s v v' (eqT t t')
 |d,A,t,t',v,v',hu,x,y=>by
  rcases x.inv with⟨i,w,rfl,rfl⟩|⟨d1,ts,a,o,items,n,ed,rfl,rfl,x1⟩<;>rcases y.inv with⟨i',w',rfl,rfl⟩|⟨d2,oN,a',o',Es,n',Zt,rfl,rfl,y1⟩
  ·rw[eqT];exact .int_int _ _ _ _
  ·simp only[eqT];exact .int_tuple _ _ ⟨o',y1.g,y1.c,n',y1.dt⟩ (by omega)
  ·simp only[eqT];exact .tuple_int _ _ ⟨o,x1.g,x1.c,n,x1.dt⟩ (by omega)
  ·have e2:d2=d1:=by omega
   subst e2;subst ed;refine An (fun b t e=>by cases e) (fun e=>?_) ?_
   ·cases e;rw[NV.fn x y];exact kU y.pl
   ·rw[eqT,<-nJ,x1.l,y1.l];refine .tuples ⟨o,x1.g,x1.c,n,x1.dt⟩ ⟨o',y1.g,y1.c,n',y1.dt⟩ (by omega) fun j h1 h2=>?_
    have a1:ts[j]?=some (ts[j]'(by rw[x1.l];exact h1)):=ay _
    have a2:oN[j]?=some (oN[j]'(by rw[y1.l];exact h2)):=ay _
    rw[lI a1,lI a2];exact IT (d:=d2) (by show A.units+1+d2<cLine;omega) (x1.k j _ _ a1 (bP h1)) (y1.k j _ _ a2 (bP h2))
 termination_by d=>d
section
variable {prog:Program}{w:World}{s:Shared}
def hT(w:World):Nat->Tr->Int
 |0,.int i=>FX w (.inl i)
 |d+1,.int i=>FX w (.inl i)
 |d+1,.tup ts=>reduceHash (Builtin.Tuple.tupleHashOf (ts.map (hT w d)))
 |_,_=>0
theorem K2{d:Nat}{i:Int}:hT w d (.int i)=FX w (.inl i):=by cases d<;>rfl
theorem AS:∀{d:Nat} {A:Around} {s:Shared} {t:Tr} {v:Value} {Q:Int->Shared->Prop} {E:Value->Shared->Prop},A.units+d<cLine->NV s.heap d t v->(∀tk,Q (hT w d t) {s with toks:=tk})->wpAny (model prog w) A (pyHash v) Q E s
 |d,A,s,t,v,Q,E,hu,x,h=>by
  rcases x.inv with⟨i,tk,rfl,rfl⟩|⟨d1,ts,a,o,items,n,ed,rfl,rfl,x1⟩
  ·rw[K2]at h;exact(aR prog w).pyHash (k:=.inl i) (AA (k:=.inl i) (t:=tk)) (h _)
  ·subst ed;have BL:s.TypeIs (.ref a) "tuple":=⟨o,x1.g,x1.c⟩;unfold pyHash
   first|unfold pyHashByItsType|skip
   first|refine aa (wpAny_cRoomFor_or (.inr (show A.units<cLine by omega)) ?_)|skip
   refine aa (kg BL kb.lookup ?_);show wpAny _ _ (if(some (Value.builtin "tuple.__hash__")==some Value.none)=true then _ else _) Q E s;rw[ae (by rw[beq_builtin_none];exact cR)];refine aa (kg BL kb.lookup ?_);show wpAny _ _ (callSpecialIfBoundUnlessNone? (.ref a) "__hash__" _>>=_) Q E s;refine aa (wpAny_callSpecialIfBoundUnlessNone?_slot BL kb (dM kb BL F.entry_tuple_hash ?_ (F.args_tuple_hash_1 _)));show wpAny _ _ (Builtin.Tuple.tupleItemsOf (.ref a)>>=_) _ _ s;refine aa (wpAny_tupleItemsOf x1.g x1.dt ?_);refine aa ?_
   rw[<-iX];refine iz _ (fun rest (b:Array Int) s'=>∃k tk,k<=ts.length/\rest=items.toList.drop k/\b.toList=(ts.take k).map (hT w d1)/\s'={s with toks:=tk}) _ ?_ ?_ _ _ ⟨0,s.toks,bK _,rfl,rfl,rfl⟩
   ·rintro y rest b s' ⟨k,tk,hk,hr,hb,rfl⟩
    have zD:k<items.toList.length:=by
     rcases Nat.lt_or_ge k items.toList.length with z|z
     ·exact z
     ·rw[List.drop_of_length_le z]at hr;cases hr
    rw[jB zD]at hr;injection hr with X8 VV
    rw[bc]at zD;have a1:ts[k]?=some (ts[k]'(by rw[x1.l];exact zD)):=ay _
    have a2:items[k]?=some y:=by rw[X8,bP zD];rfl
    have e:(ts.take (k+1)).map (hT w d1)=(ts.take k).map (hT w d1)++[hT w d1 (ts[k]'(by rw[x1.l];exact zD))]:=by
     rw[List.take_succ,a1,dZ];rfl
    refine aa (AS (d:=d1) (s:={s with toks:=tk}) (by show A.units+1+d1<cLine;omega) (x1.k k _ _ a1 a2) fun RA=>?_)
    first
     |exact af ⟨k+1,RA,by rw[x1.l];omega,VV,by rw[j7,hb,e],rfl⟩
     |exact aa (af (af ⟨k+1,RA,by rw[x1.l];omega,VV,by rw[j7,hb,e],rfl⟩))
   ·rintro b s' ⟨k,tk,hk,hr,hb,rfl⟩
    have ek:ts.take k=ts:=by
     refine qU ?_
     rw[x1.l,<-bc];exact List.drop_eq_nil_iff.mp hr.symm
    rw[ek]at hb;show wpAny _ _ (retInt (Builtin.Tuple.tupleHashOf b.toList)) _ _ _;rw[hb];refine wpAny_ret_mkInt ?_
    show wpAny _ _ (if(decide (-(2:Int) ^63<=Builtin.Tuple.tupleHashOf (ts.map (hT w d1)))&&decide (Builtin.Tuple.tupleHashOf (ts.map (hT w d1))<2 ^63))=true then _ else _) Q E _;rw[hT]at h;unfold reduceHash at h;by_cases hr:(decide (-(2:Int) ^63<=Builtin.Tuple.tupleHashOf (ts.map (hT w d1)))&&decide (Builtin.Tuple.tupleHashOf (ts.map (hT w d1))<2 ^63))=true
    ·rw[ab hr];rw[ab hr]at h;exact af (h _)
    ·rw[ae hr];rw[ae hr]at h;exact aa (hW (af (h _)))
 termination_by d=>d
theorem sS{h:Heap}{d:Nat}{ts:List Tr}{a:Addr}{o:Obj}{items:Array Value}{n:Nat}(x:NT h d ts a o items n):∀v∈items.toList,∃t,NV h d t v:=fun v m=>by
 obtain⟨i,e⟩:=dI m;rw[cf]at e;have hi:=(mH.mp e).1;exact⟨_,x.k i _ _ (ay (by rw[x.l];exact hi)) e⟩
theorem sT:∀{d n:Nat} {A:Around} {s:Shared} {t:Tr} {v:Value} {Q:Bool->Shared->Prop} {E:Value->Shared->Prop},d<=n->NV s.heap d t v->Q true s->wpAny (model prog w) A (eqIsQuiet n v) Q E s
 |d,m,A,s,t,v,Q,E,hd,x,h=>by
  rcases x.inv with⟨i,tk,rfl,rfl⟩|⟨d1,ts,a,o,items,n,ed,rfl,rfl,x1⟩
  ·rw[eqIsQuiet_byValue _ rfl];exact af h
  ·subst ed;obtain⟨m,rfl⟩:∃k,m=k+1:=⟨m - 1,by omega⟩;have BL:s.TypeIs (.ref a) "tuple":=⟨o,x1.g,x1.c⟩;unfold eqIsQuiet;refine aa (kg BL F.slot_tuple_eq.lookup ?_);show wpAny _ _ (isInstance (.ref a) (.type "tuple")>>=_) _ _ s;refine aa (ke BL isSubtype_tuple_tuple ?_);simp only[fW,bS,bB];refine aa (ko x1.g x1.dt ?_);refine aa ?_
   show wpAny _ _ (forIn items _ _) _ _ s;rw[<-iX];refine iz _ (fun rest r s'=>r.1=none/\s'=s/\∀v∈rest,∃t,NV s.heap d1 t v) _ ?_ ?_ _ _ ⟨rfl,rfl,sS x1⟩
   ·rintro v rest r s' ⟨hr,rfl,lU⟩
    obtain⟨t1,Pg⟩:=lU v aP;refine aa (sT (d:=d1) (by omega) Pg ?_);simp only[fW,bS,bB];exact af ⟨rfl,rfl,fun u FQ=>lU u (aO _ FQ)⟩
   ·rintro ⟨r1,r2⟩ s' ⟨hr,rfl,_⟩
    simp only at hr;subst hr;exact af h
 termination_by d=>d
theorem sU:∀{d n:Nat} {A:Around} {s:Shared} {t:Tr} {v:Value} {Q:Bool->Shared->Prop} {E:Value->Shared->Prop},d<=n->NV s.heap d t v->Q false s->wpAny (model prog w) A (ofAClassStatement n v) Q E s
 |d,m,A,s,t,v,Q,E,hd,x,h=>by
  rcases x.inv with⟨i,tk,rfl,rfl⟩|⟨d1,ts,a,o,items,n,ed,rfl,rfl,x1⟩
  ·rw[Cn rfl];exact af h
  ·subst ed;obtain⟨m,rfl⟩:∃k,m=k+1:=⟨m - 1,by omega⟩;have BL:s.TypeIs (.ref a) "tuple":=⟨o,x1.g,x1.c⟩;unfold ofAClassStatement;refine aa (fo BL ?_);dsimp only;rw[ab (by decide)];refine aa (af ?_);simp only[fW,bS,bB];refine aa (ko x1.g x1.dt ?_);dsimp only;refine aa ?_
   show wpAny _ _ (forIn items _ _) _ _ s;rw[<-iX];refine iz _ (fun rest r s'=>r.1=none/\s'=s/\∀v∈rest,∃t,NV s.heap d1 t v) _ ?_ ?_ _ _ ⟨rfl,rfl,sS x1⟩
   ·rintro v rest r s' ⟨hr,rfl,lU⟩
    obtain⟨t1,Pg⟩:=lU v aP;refine aa (sU (d:=d1) (by omega) Pg ?_);simp only[bS,bB];exact af ⟨rfl,rfl,fun u FQ=>lU u (aO _ FQ)⟩
   ·rintro ⟨r1,r2⟩ s' ⟨hr,rfl,_⟩
    simp only at hr;subst hr;exact af h
 termination_by d=>d
theorem Et:∀{d n:Nat} {A:Around} {s:Shared} {t:Tr} {v:Value} {Q:Bool->Shared->Prop} {E:Value->Shared->Prop},d<=n->NV s.heap d t v->(∀b,Q b s)->wpAny (model prog w) A (hashByValue n v) Q E s
 |d,m,A,s,t,v,Q,E,hd,x,h=>by
  rcases x.inv with⟨i,tk,rfl,rfl⟩|⟨d1,ts,a,o,items,n,ed,rfl,rfl,x1⟩
  ·obtain⟨b,e⟩:=Hj (prog:=prog) (w:=w) (d:=m) (show(aR prog w).is (.inl i) (.int i tk)=true from AA (k:=.inl i) (t:=tk));rw[e];exact af (h _)
  ·subst ed;obtain⟨m,rfl⟩:∃k,m=k+1:=⟨m - 1,by omega⟩;have BL:s.TypeIs (.ref a) "tuple":=⟨o,x1.g,x1.c⟩;unfold hashByValue;refine aa (kg BL kb.lookup ?_);refine aa (ko x1.g x1.dt ?_);dsimp only;refine aa ?_
   show wpAny _ _ (forIn items _ _) _ _ s;rw[<-iX];refine iz _ (fun rest r s'=>r.1=none/\s'=s/\∀v∈rest,∃t,NV s.heap d1 t v) _ ?_ ?_ _ _ ⟨rfl,rfl,sS x1⟩
   ·rintro v rest r s' ⟨hr,rfl,lU⟩
    obtain⟨t1,Pg⟩:=lU v aP;refine aa (Et (d:=d1) (by omega) Pg fun b=>?_);cases b with
    |true=>exact af ⟨rfl,rfl,fun u FQ=>lU u (aO _ FQ)⟩
    |false=>exact af (af (h _))
   ·rintro ⟨r1,r2⟩ s' ⟨hr,rfl,_⟩
    simp only at hr;subst hr;exact af (h _)
 termination_by d=>d
theorem Co{A:Around}{E:Value->Shared->Prop}{d:Nat}{t:Tr}{x:Value}{Q:Bool->Shared->Prop}(hd:d<=8)(hk:NV s.heap d t x){l:List Value}(hl:∀y∈l,∃t',NV s.heap d t' y)(h:Q false s):wpAny (model prog w) A (searchCouldBeSeen x l) Q E s:=by
 unfold searchCouldBeSeen;refine aa ?_
 refine iz _ (fun rest r s'=>r.1=none/\s'=s/\∀y∈rest,∃t',NV s.heap d t' y) _ ?_ ?_ _ _ ⟨rfl,rfl,hl⟩
 ·rintro v rest r s' ⟨hr,rfl,lU⟩
  obtain⟨t',hc⟩:=lU v aP;have nx:r.1=none/\s'=s'/\∀y∈rest,∃t',NV s'.heap d t' y:=⟨hr,rfl,fun u FQ=>lU u (aO _ FQ)⟩;dsimp only;refine fV (fun _=>af ⟨rfl,rfl,nx.2.2⟩) (fun _=>?_);refine aa (sT hd hk ?_);simp only[fW,bS,bB];refine aa (sT hd hc ?_);simp only[fW,bS,bB];refine aa (sU hd hk ?_);simp only[bS,bB];refine aa (sU hd hc ?_);simp only[bS,bB];exact af ⟨rfl,rfl,nx.2.2⟩
 ·rintro ⟨r1,r2⟩ s' ⟨hr,rfl,_⟩
  simp only at hr;subst hr;exact af h
end
end L2
namespace L2
open PySem PySem.Spec PyProof.Rows
def X9:TE:=fun σ H Q=>∃v,σ[0]?=some (some v)/\∀p,H p=none->∀q,upd H p (.lst []) q=none->Q (.ref q) (upd (upd H p (.lst [])) q (.tup [v,.ref p]))
structure NB(Y:Cx)(tg elt:Expr):Prop where
 g:PG Y tg (C8 0)
 e:PE Y elt X9
theorem NB.of {Y:Cx}{x:Str}{p0 p1 p2 p3:Pos}{x1:Nat}(hN:Y.N.Nodup)(hi:Y.N[0]?=some x:=by rfl) (hx:Loc Y.env.scope x:=by first|exact Or.inl rfl|exact Or.inr rfl) (hf:Y.fn x=true\/Y.env.scope.names.lookup x=some .local:=by first|exact .inl rfl|exact .inr rfl|assumption)
  (hv:Jn Y.env.scope x:=by first|exact Or.inl rfl|exact Or.inr (Or.inl rfl)|exact Or.inr (Or.inr rfl)) (hd:(x==("__debug__":Str))=false:=by decide) (pQ:(x==("__classdict__":Str))=false:=by decide):NB Y (.Name x p0) (.Tuple [.Name x p1,.List [] p2] x1 p3):=
 ⟨vq hN hi hx hf,(Dh (lE (C5 hi hv hd pQ) (lE (Di oJ) oJ))).weak fun σ H Q ⟨v,e,k⟩=>⟨v,e,(show 0<=sizeLine from bK _),fun p hp=>⟨(show 2<=sizeLine by decide),fun q hq=>k p hp q hq⟩⟩⟩
def K3:Nat->List Tr->List Tr
 |_,[]=>[]
 |n,t::ts=>.tup [t,.at n]::K3 (n+1) ts
def sV(r:Rs (List Tr))(A:Ab):Rz Tr:=match r with
 |.ok ts=>if gJ ts=true/\ts.length<=ik then .ok (.lst (K3 A.length ts)) (A++List.replicate ts.length (.lst []))else .bad
 |_=>.bad
def Eu(H:Hp):List Addr->Hp
 |[]=>H
 |p::ps=>Eu (upd H p (.lst [])) ps
theorem AU:∀{ps:List Addr} {H:Hp} {b:Addr} {o:HO},Eu H ps b=some o->(b∈ps/\o=.lst [])\/H b=some o
 |[],_,_,_,e=>.inr e
 |p::ps,H,b,o,e=>by
  rcases AU (ps:=ps) e with⟨h,z⟩|h
  ·exact .inl ⟨aO _ h,z⟩
  ·by_cases z:b=p
   ·subst z;rw[aH]at h;cases h;exact .inl ⟨aP ..,rfl⟩
   ·rw[au z]at h;exact .inr h
theorem HA.IU {K:PySem.W.Frag}:∀(ps:List Addr) {B:bN} {A:Ab} {H:Hp},HA K B A H->ps.Nodup->(∀p∈ps,H p=none)->
  ∃B',Grows B H B' (Eu H ps)/\HA K B' (A++List.replicate ps.length (.lst [])) (Eu H ps)/\(∀k p,ps[k]?=some p->B'.ix p=some (A.length+k))/\∀b,b∉ps->B'.hd b=B.hd b
 |[],B,A,H,ha,_,_=>⟨B,.refl,by rw[show List.replicate ([]:List Addr).length (Ao.lst [])=[]from rfl,dq];exact ha,fun k p e=>by simp at e,fun _ _=>rfl⟩
 |p::ps,B,A,H,ha,nd,hn=>by
  rw[dW]at nd;have hp:=hn p (aP ..);obtain⟨g1,fI⟩:=ha.push (o:=.lst []) (H':=upd H p (.lst [])) hp (aw.upd hp) ⟨qm,[],aH,.nil⟩;obtain⟨B',g,h1,h2,h3⟩:=HA.IU ps fI nd.2 fun q m=>by
   rw[au fun z=>nd.1 (by rw[<-z];exact m)];exact hn q (aO _ m)
  refine⟨B',g1.trans ha.hb g,?_,fun k q e=>?_,fun b m=>?_⟩
  ·rw[gE]at h1;exact h1
  ·cases k with
   |zero=>cases e;exact g.eR.x p A.length iC
   |succ k=>
    have q:=h2 k q e;rw[aY]at q;rw[q];show some (A.length+1+k)=_;rw[Nat.add_assoc,Nat.add_comm 1 k]
  ·rw[h3 b fun z=>m (aO _ z)];exact kX fun z=>m (by rw[z];exact aP ..)
theorem vM.Ph {X:Cx}{B:bN}{H H1 H2:Hp}(h:vM X B H H1)(s2:aw H1 H2):∃Hu,aw H Hu/\(∀b,H1 b=none->Hu b=H2 b)/\(∀{K:PySem.W.Frag} {B3:bN} {v:V} {t:Tr},Rep K (aN B3 H2) v t->Rep K (aN B3 Hu) v t)/\∀k:Hp->Prop,k Hu->gf X H2 k:=by
 rcases h with s|⟨H0,a,o,u0,hk,s,hv,ha,rfl,h0⟩
 ·exact⟨H2,s.trans s2,fun _ _=>rfl,fun r=>r,fun k q=>.inl q⟩
 ·have e3:H2 a=some (.gI o u0):=s2 _ _ aH;have w:pX H2 (upd H2 a u0) a (.gI o u0) u0 u0:=⟨e3,rfl,.inr ⟨rfl,o,rfl⟩,hk⟩;refine⟨upd H2 a u0,fun b ob e=>?_,fun b e=>?_,fun r=>w.rep r,fun k q=>.inr ⟨a,o,u0,hk,e3,h0,q⟩⟩
  ·have q:=s _ _ e;by_cases z:b=a
   ·subst z;rw[ha]at q;cases q;exact aH
   ·rw[au z];exact s2 _ _ (by rw[au z];exact q)
  ·exact au fun z=>by subst z;rw[aH]at e;cases e
structure Pj(K:PySem.W.Frag)(B:bN)(D:Addr)(H1 H:Hp)(e:Addr×Addr×V×Tr):Prop where
 q:H e.1=some (.tup [e.2.2.1,.ref e.2.1])
 p:H e.2.1=some (.lst [])
 n:H1 e.2.1=none
 m:H1 e.1=none
 d:e.2.1≠D
 r:Rep K (aN (fw B D) H) e.2.2.1 e.2.2.2
theorem Pj.up {K:PySem.W.Frag}{B:bN}{D:Addr}{H1 H H':Hp}{e:Addr×Addr×V×Tr}(h:Pj K B D H1 H e)(s:aw H H'):Pj K B D H1 H' e:=⟨s _ _ h.q,s _ _ h.p,h.n,h.m,h.d,h.r.same (aT s)⟩
theorem yd{K:PySem.W.Frag}{B B':bN}{D:Addr}{Hu:Hp}(hT:ib (aN (fw B D) Hu) (aN B' Hu)):∀(L:List (Addr×Addr×V×Tr)) (n:Nat),(∀e∈L,Hu e.1=some (.tup [e.2.2.1,.ref e.2.1])/\B'.hd e.1=false/\Rep K (aN (fw B D) Hu) e.2.2.1 e.2.2.2)->(∀k e,L[k]?=some e->B'.ix e.2.1=some (n+k))->gJ (L.map (·.2.2.2))=true->aJ K (aN B' Hu) (L.map fun e=>V.ref e.1) (K3 n (L.map (·.2.2.2)))
 |[],_,_,_,_=>.nil
 |e::L,n,h,hx,f=>by
  rw[aC,gJ,aE]at f;obtain⟨h1,h2,h3⟩:=h e (aP ..);refine .cons (.tup (by rw[cV h2];exact h1) (.cons (vL hT h3 f.1) (.cons (.at (hx 0 e rfl)) .nil))) (yd hT L (n+1) (fun e m=>h e (aO _ m)) (fun k e q=>?_) f.2);rw[Nat.add_assoc,Nat.add_comm 1 k];exact hx (k+1) e q
section
variable {X:Cx}{tg iter elt:Expr}{W:av->Rs (List Tr)}{pos:Pos}{scope:Scope}{N':List Str}{ix:List (Option Nat)}
theorem Hk(Lk:eQ X N' ix scope)(hi:QJ X tg iter W)(iT:∀s H ex,NB (kL X scope N' s H ex) tg elt)(sG:ix.length=1:=by rfl) (hc:X.calm=true:=by rfl) (hs:isSet iter=false:=by rfl):
  ZE X (.ListComp elt [⟨tg,iter,[],0⟩] scope pos) (fun ρ A=>sV (W ρ) A):=
 ⟨(sv Lk hc hi.h (fun s H ex=>⟨(iT s H ex).g,DA,(iT s H ex).e⟩) (cG hs)).Ky.weak fun σ H Q ⟨B,A,ρ,ha,r,n,q⟩=>⟨B,ρ,ha.hb,r,by
   have q:cJ (XE X B H) (sV (W ρ) A) _:=q;cases eW:W ρ with
   |bad=>rw[eW]at q;exact q
   |exc c=>rw[eW]at q;exact(show False from q).elim
   |ok ts=>
    rw[eW]at q;obtain⟨⟨hf,hz⟩,q⟩:=nQ q;intro J H1 tf gt D hD;have uk:HB B H1:=tf.hb ha.hb;refine⟨fun i m bM H'=>m=ts.length - i/\i<=ts.length/\bM.length=1/\aw H1 H'/\HB (fw B D) H'/\cD (aN B H1) (aN (fw B D) H')/\∃L:List (Addr×Addr×V×Tr),(∀e∈L,Pj X.K B D H1 H' e)/\(L.map (·.2.1)).Nodup/\H' D=some (.lst (L.map fun e=>V.ref e.1))/\L.map (·.2.2.2)=ts.take i,
     ⟨_,rfl,bK _,by unfold fv;rw[ak];exact sG,aw.upd hD,Ak uk hD,ia hD,[],(fun e m=>by cases m),fQ,aH,rfl⟩,?_⟩
    rintro i m bM H' ⟨rfl,hi,X_,sm,lF,eR,L,hL,nd,hd,eL⟩
    have VW:L.length=i:=by have z:=b9 List.length eL;rw[ak,gX,Nat.min_eq_left hi]at z;exact z
    by_cases dO:i<ts.length
    ·refine .inr ⟨gt.go i _ H' dO eR lF,fun mC H2=>mC.length=1/\aw H1 H2/\HB (fw B D) H2/\cD (aN B H1) (aN (fw B D) H2)/\∃L:List (Addr×Addr×V×Tr),(∀e∈L,Pj X.K B D H1 H2 e)/\(L.map (·.2.1)).Nodup/\H2 D=some (.lst (L.map fun e=>V.ref e.1))/\L.map (·.2.2.2)=ts.take (i+1),
      fun mC H2 h=>⟨ts.length - (i+1),by omega,rfl,dO,h⟩,fun x H2 hx=>?_⟩
     obtain⟨s2,t,et,rt⟩:=gt.yO i _ H' x H2 dO eR lF hx;refine⟨x,by rw[fk (by omega)],fun p hp q' K4=>?_⟩;have Uc:H2 D=some (.lst (L.map fun e=>V.ref e.1)):=s2 _ _ hd;have pD:p≠D:=fun z=>by rw[z,Uc]at hp;cases hp
     have qp:q'≠p:=fun z=>by rw[z,aH]at K4;cases K4
     have Ud:H2 q'=none:=by rw[au qp]at K4;exact K4
     have qD:q'≠D:=fun z=>by rw[z,Uc]at Ud;cases Ud
     have s3:aw H2 (upd (upd H2 p (.lst [])) q' (.tup [x,.ref p])):=(aw.upd hp).trans (aw.upd K4);have X':aw H1 (upd (upd H2 p (.lst [])) q' (.tup [x,.ref p])):=(sm.trans s2).trans s3;have nb:HB (fw B D) (upd (upd H2 p (.lst [])) q' (.tup [x,.ref p])):=(lF.same s2).same s3;have RB:upd (upd H2 p (.lst [])) q' (.tup [x,.ref p]) D=some (.lst (L.map fun e=>V.ref e.1)):=s3 _ _ Uc;have ye:∀{b:Addr} {u:HO},b≠D->upd (upd H2 p (.lst [])) q' (.tup [x,.ref p]) b=some u->upd (upd (upd H2 p (.lst [])) q' (.tup [x,.ref p])) D (.lst ((L.map fun e=>V.ref e.1)++[.ref q'])) b=some u:=fun hb e=>(au hb).trans e;have Ue:cD (aN B H1) (aN (fw B D) (upd (upd (upd H2 p (.lst [])) q' (.tup [x,.ref p])) D (.lst ((L.map fun e=>V.ref e.1)++[.ref q'])))):=by
      rw[jm];exact eR.trans (aT (s2.trans s3))
     refine⟨_,RB,by rw[ak,VW,<-h9];omega,by rw[i9];exact X_,fun b u e=>?_,?_,Ue,L++[(q',p,x,t)],?_,?_,?_,?_⟩
     ·exact ye (fun z=>by rw[z,hD]at e;cases e) (X' _ _ e)
     ·intro b e;by_cases z:b=D
      ·subst z;exact⟨_,aH,fun _ z=>by cases z⟩
      ·rw[au z];exact nb b e
     ·intro e m;rcases bF.mp m with m|m
      ·have h:=(hL e m).up (s2.trans s3);refine⟨ye ?_ h.q,ye h.d h.p,h.n,h.m,h.d,?_⟩
       ·intro z;have h1:=h.q;rw[z,RB]at h1;cases h1
       ·rw[jm];exact h.r
      ·rw[cn.mp m];refine⟨ye qD aH,ye pD ?_,(sm.trans s2).free hp,(sm.trans s2).free Ud,pD,?_⟩
       ·exact(au (cv qp)).trans aH
       ·rw[jm];exact rt.same (aT s3)
     ·rw[dZ,gV];refine⟨nd,by simp,fun a m b m'=>?_⟩;obtain⟨e,me,rfl⟩:=bp.mp m;have eb:b=p:=by simpa using m'
      subst eb;intro z;have h1:=(hL e me).p;rw[z]at h1;have h2:=s2 _ _ h1;rw[hp]at h2;cases h2
     ·rw[dZ];exact aH
     ·rw[dZ,eL,List.take_succ,et];rfl
    ·have e:i=ts.length:=by omega
     subst e;rw[rJ]at eL;refine .inl ⟨gt.stop _ H' eR,?_⟩;obtain⟨Hu,su,fu,ru,ku⟩:=tf.Ph sm;refine ku _ ?_
     have Ya:∀p∈L.map (·.2.1),H p=none:=fun p m=>by
      obtain⟨e,me,rfl⟩:=bp.mp m;exact tf.free (hL e me).n
     obtain⟨B',g,dz,Cc,Ug⟩:=ha.IU _ nd Ya;have VX:∀e∈L,Hu e.2.1=some (.lst []):=fun e me=>(fu _ (hL e me).n).trans (hL e me).p;have ss:aw (Eu H (L.map (·.2.1))) Hu:=fun b o e=>by
      rcases AU e with⟨m,rfl⟩|h
      ·obtain⟨z,me,rfl⟩:=bp.mp m;exact VX z me
      ·exact su _ _ h
     have ll:L.length=ts.length:=VW;rw[ak,ll]at dz;have Yb:D∉L.map (·.2.1):=fun m=>by obtain⟨e,me,z⟩:=bp.mp m;exact(hL e me).d z
     have Yc:H D=none:=tf.free hD;have Yd:B'.hd D=false:=(Ug D Yb).trans (ha.hb.free Yc);have Ye:Hu D=some (.lst (L.map fun e=>V.ref e.1)):=(fu D hD).trans hd;have nP:∀{b:Addr} {o:HO},Hu b=some o->o≠ .lst []->b∉L.map (·.2.1):=fun{b o} e ne m=>by
      obtain⟨z,me,rfl⟩:=bp.mp m;have q:=VX z me;rw[e]at q;cases q;exact ne rfl
     have hT:ib (aN (fw B D) Hu) (aN B' Hu):=⟨fun a x e hx=>by
      have e1:=aK _ _ e;have nl:x≠ .lst []:=fun z=>by subst z;rcases hx with⟨_,z⟩|⟨_,_,z⟩<;>cases z
      have hB:(fw B D).hd a=false:=by
       cases q:(fw B D).hd a with
       |false=>rfl
       |true=>
        have e2:(if(fw B D).hd a=true then none else Hu a)=some x:=e;rw[q,ab rfl]at e2;cases e2
      have Yf:B.hd a=false:=by
       have z:(B.hd a||a==D)=false:=hB;rw[Bool.or_eq_false_iff]at z;exact z.1
      rw[cV ((Ug a (nP e1 nl)).trans Yf)];exact e1,fun a j e=>g.eR.x a j e⟩
     refine q (.ref D) B' Hu (g.trans ha.hb (.of ss)) (dz.same ss) (.lst (by rw[cV Yd];exact Ye) ?_);rw[<-eL];refine yd hT L A.length (fun e me=>?_) (fun k e ek=>Cc k _ (by rw[aL,ek];rfl)) (by rw[eL];exact hf);have eq:Hu e.1=some (.tup [e.2.2.1,.ref e.2.1]):=(fu _ (hL e me).m).trans (hL e me).q;exact⟨eq,(Ug _ (nP eq fun z=>by cases z)).trans (ha.hb.free (tf.free (hL e me).m)),ru (hL e me).r⟩⟩⟩
def oX(h:List Tr->Rs Tr)(r:Rz Tr):Rz Tr:=r.bind fun t A=>aj (h [t]) A
theorem Cp{T:String}{x:Str}{p:Pos}{e:Expr}{h:List Tr->Rs Tr}{F:av->Ab->Rz Tr}(hc:jT X (.type T) (rF X h))(hm:X.mg x=none)(he:ZE X e F)(hv:bootBuiltins x=some (.type T):=by rfl) (hg:Gl X x:=by rfl) (hn:x≠"__name__":=by decide) (iS:(x==("__debug__":Str))=false:=by decide)
  (eJ:bx [e]=true:=by rfl):ZE X (.Call (.Name x p) [e] [] pos) (fun ρ A=>oX h (F ρ A)):=
 ⟨(jg hc hg hm hv (Az he.h DW (aU eJ).1) hn iS (bC _ _ (aU eJ).1) (cx (aU eJ).2)).weak fun σ H Q ⟨B,A,ρ,ha,r,n,q⟩=>⟨B,A,ρ,ha,r,n,by
   have q:cJ (XE X B H) (oX h (F ρ A)) _:=q;show cJ (XE X B H) ((F ρ A).bind fun t A1=>Rz.bind (.ok [] A1) fun ts A2=>.ok (t::ts) A2) _;cases eF:F ρ A with
   |bad=>rw[eF]at q;exact q
   |exc c A1=>rw[eF]at q;exact q
   |ok t A1=>
    rw[eF]at q;intro vs B1 H1 g1 fI rs;exact⟨B1,[t],fI.hb,rs,(gc (show cJ (XE X B H) (aj (h [t]) A1) _ from q)).mono fun u qu v H2 s2 rv _=>qu v B1 H2 (g1.trans ha.hb (.of s2)) (fI.same s2) rv⟩⟩⟩
end
end L2
namespace L2
open PySem PySem.Spec PySem.Calls PyProof.Rows
section
variable {prog:Program}{w:World}{A:Around}{E:Value->Shared->Prop}{s:Shared}
theorem yf{α:Type}(xs:Array α)(p:Nat)(x:α):(SetTable.insertAt xs p x).size=xs.size+1:=by
 have q:=(q_ xs p x).length_eq;rw[bc,bc,Array.size_push]at q;exact q
theorem K5{t:SetTable}{n j:Nat}(tk:pM t n)(hs:t.slot j=.empty)(hj:j<=t.mask):(t.put j).1.dummies=#[]/\(t.put j).1.mask=t.mask/\(t.put j).1.place.size=n+1/\(∀x∈(t.put j).1.place.toList,x<=t.mask)/\kY (t.put j).1.place/\(t.put j).1.led=t.led:=by
 have f':¬t.place[SetTable.below t.place j]?=some j:=by
  intro e;unfold SetTable.slot at hs;dsimp only at hs;rw[e,ab (bD _)]at hs;cases hs
 unfold SetTable.put;dsimp only;refine⟨?_,rfl,?_,?_,D0 tk.rise f',rfl⟩
 ·rw[tk.dm,ae (by unfold SetTable.has;simp)]
 ·rw[yf,tk.sz]
 ·intro x hx;have:=(q_ t.place (SetTable.below t.place j) j).mem_iff.mp hx;rw[j7,bF,cn]at this;rcases this with h|h
  ·exact tk.le x h
  ·rw[h];exact hj
end
end L2
namespace L2
open PySem PySem.Spec PySem.Calls PyProof.Rows
section
variable {prog:Program}{w:World}{A:Around}{E:Value->Shared->Prop}{s:Shared}
def Lay(t:SetTable)(es:Array (Int×Value)):Prop:=∀p∈List.zip es.toList t.place.toList,zz t t.place.toList p.1.1 p.2
theorem Lay.at {t:SetTable}{es:Array (Int×Value)}(l:Lay t es){i j:Nat}{e:Int×Value}(h1:es[i]?=some e)(h2:t.place[i]?=some j):zz t t.place.toList e.1 j:=by
 refine l (e,j) ?_
 refine bg (i:=i) ?_
 rw[lA];exact⟨by rw[cf];exact h1,by rw[cf];exact h2⟩
theorem zE{a:Addr}{x:Value}{o:Obj}{es:Array (Int×Value)}{ep:Nat}{t:SetTable}{q:Int×Value->Bool}{h:Int}{Q:SetFound->Shared->Prop}(ho:s.heap.get? a=some o)(hd:o.data=.set es ep t)(tk:pM t es.size)(ly:Lay t es)
  (hq:∀e∈es.toList,SeqAt.EqAt A s e.2 x (q e)/\(q e=true->e.1=h)) (hr:∀e∈es.toList,∃c,e.2=Value.ref c) (hv:∀(l:List Value) (R:Bool->Shared->Prop),(∀y∈l,∃e∈es.toList,y=e.2)->R false s->wpAny (model prog w) A (searchCouldBeSeen x l) R E s)
  (hT:(∃e∈es.toList,q e=true)->Q (.there none) s) (hF:∀j,t.slot j=.empty->j<=t.mask->zz t t.place.toList h j->(∀e∈es.toList,q e=false)->Q (.free j false) s):
  ∀(N M fuel:Nat) (st:Option SetTable.Probe),N<fuel->N<10*SetTable.turns t.mask->st.getD (t.probeStart h)=bJ t M (t.probeStart h)->(∀k,k<M->∃i e,t.slot (bJ t k (t.probeStart h)).j=.live i/\t.place[i]?=some (bJ t k (t.probeStart h)).j/\es[i]?=some e/\q e=false)->t.slot (bJ t N (bJ t M (t.probeStart h))).j=.empty->
   wpAny (model prog w) A (setSearchFrom a x h true fuel st) Q E s:=by
 have hf:=tk.fits;have IV:∀{i j:Nat},t.place[i]?=some j->∃e,es[i]?=some e/\e∈es.toList:=fun{i j} e=>by
  have hi:i<es.size:=by rw[<-tk.sz];exact(mH.mp e).1
  exact⟨es[i],bP hi,by rw[Array.mem_toList_iff];exact Array.getElem_mem hi⟩
 intro N
 induction N using Nat.strongRecOn with
 |ind N ih=>
  intro M fuel st hN Yg Yh hM hs;have pb:PB t (bJ t M (t.probeStart h)):=(PB.start h).bJ M;cases fuel with
  |zero=>omega
  |succ fuel=>
   unfold setSearchFrom;refine aa (fm ho hd hf ?_);dsimp only;rw[tk.odd];simp only[bS,bB];unfold SetTable.probe;rw[Yh];generalize hg:SetTable.probe.go t _ h (10*SetTable.turns t.mask) (bJ t M (t.probeStart h))=g;obtain⟨ha,Yi,hg⟩:∃ha:Nat->Int,(∀{i:Nat} {e:Int×Value},es[i]?=some e->ha i=e.1)/\SetTable.probe.go t ha h (10*SetTable.turns t.mask) (bJ t M (t.probeStart h))=g:=⟨_,fun{i e} he=>by
    show(es[i]?.map fun z:Int×Value=>z.1).getD (0:Int)=_;rw[he];rfl,hg⟩
   have seen:∀{n:Nat},(∀k,k<n->∃i,t.slot (bJ t k (bJ t M (t.probeStart h))).j=.live i/\t.place[i]?=some (bJ t k (bJ t M (t.probeStart h))).j/\¬ha i=h)->∀k,k<M+n->∃i e,t.slot (bJ t k (t.probeStart h)).j=.live i/\t.place[i]?=some (bJ t k (t.probeStart h)).j/\es[i]?=some e/\q e=false:=fun{n} hn k hk=>by
    by_cases hl:k<M
    ·exact hM k hl
    ·obtain⟨i,a1,a2,a3⟩:=hn (k - M) (by omega);rw[<-dE,show M+(k - M)=k by omega]at a1 a2;obtain⟨e,e1,e2⟩:=IV a2;refine⟨i,e,a1,a2,e1,?_⟩;cases z:q e with
     |false=>rfl
     |true=>exact absurd ((Yi e1).trans ((hq e e2).2 z)) a3
   rcases Er (ha:=ha) (h:=h) tk.dm N _ _ Yg pb hs with⟨n,e,e1,e2,e3⟩|⟨n,i,e,hn,e1,e2,e3⟩
   ·rw[hg]at e;rw[e];have sn:=seen e3;rw[<-dE]at e1 e2;rw[<-dE];refine af (hF _ e1 e2 ⟨M+n,rfl,fun k hk=>?_⟩ fun y hy=>?_)
    ·obtain⟨i,_,_,a2,_⟩:=sn k hk;rw[<-cf]at a2;exact bg a2
    ·cases z:q y with
     |false=>rfl
     |true=>
      exfalso;obtain⟨i,hi⟩:=dI hy;rw[cf]at hi;have Pb:i<t.place.size:=by rw[tk.sz];exact(mH.mp hi).1
      have hp:t.place[i]?=some t.place[i]:=bP Pb
      obtain⟨K,k1,k2⟩:=ly.at hi hp;rw[(hq y hy).2 z]at k1 k2;rcases Nat.lt_trichotomy K (M+n)with hK|hK|hK
      ·obtain⟨i',e',b1,b2,b3,b4⟩:=sn K hK;rw[k1,vY tk.rise hp]at b1;cases b1;rw[hi]at b3;cases b3;rw[z]at b4;cases b4
      ·rw[<-hK,k1,vY tk.rise hp]at e1;cases e1
      ·exact slot_mem tk.rise (k2 _ hK) e1
   ·rw[hg]at e;rw[e];dsimp only;have sn:=seen e3;obtain⟨ee,Pk,Uh⟩:=IV e2;have rest:wpAny (model prog w) A (do
      let some (_,y):=es[i]? |unsupported "internal:set-entry"
      let equal<-holding [y] (eqBool y x)
      let(Jo,_,t')<-setState a
      if true&&equal then return .there none
      let some same:=t'.sameMemory t.moves t.mask|unsupported "set.changed-during-lookup:is-the-new-block-at-the-old-address"
      let Pl<-match(if same then t'.slot (bJ t n (bJ t M (t.probeStart h))).j else .empty)with
       |.live i'=>match Jo[i']? with
        |some (_,y')=>do pure (if<-isSame y' y then some i' else none)
        |none=>pure none
       |_=>pure none
      match Pl with
      |none=>rule "set.search.anew";setSearchFrom a x h true fuel none
      |some i'=>if equal then return .there (some i')else setSearchFrom a x h true fuel (some (bJ t (n+1) (bJ t M (t.probeStart h))))) Q E s:=by
     rw[Pk];dsimp only;refine aa (cu ((hq ee Uh).1 prog w _ _ ?_));refine aa (fm ho hd hf ?_);dsimp only;cases z:q ee with
     |true=>
      simp only[Bool.and_true,f_];exact af (hT ⟨ee,Uh,z⟩)
     |false=>
      simp only[i_,bS,bB];have T3:t.sameMemory t.moves t.mask=some true:=by unfold SetTable.sameMemory;rw[ab (bD _)]
      rw[T3];dsimp only;simp only[f_];rw[e1];dsimp only;rw[Pk];dsimp only;obtain⟨c,ec⟩:=hr ee Uh;rw[ec];refine aa (wpAny_isSame_ref_self ?_);refine aa (af ?_);simp only[f_];refine ih (N - (n+1)) (by omega) (M+(n+1)) fuel (some (bJ t (n+1) (bJ t M (t.probeStart h)))) (by omega) (by omega) ?_ ?_ ?_
      ·show bJ t (n+1) _=_;rw[dE M]
      ·intro k hk;by_cases hl:k<M+n
       ·exact sn k hl
       ·have ek:k=M+n:=by omega
        subst ek;rw[dE];exact⟨i,ee,e1,e2,Pk,z⟩
      ·rw[dE M,<-dE (n+1),show n+1+(N - (n+1))=N by omega];exact hs
    cases hl:t.led with
    |true=>
     simp only[fW,bS,bB];exact rest
    |false=>
     simp only[rX,f_];refine aa (hv _ _ (fun y hy=>?_) ?_)
     ·obtain⟨e',VY,rfl⟩:=bp.mp hy;have Yj:e'∈es.toList:=by
       rw[Array.mem_toList_iff]at VY⊢;exact(Array.mem_filter.mp VY).1
      exact⟨e',Yj,rfl⟩
     ·simp only[bS,bB];exact rest
end
end L2
namespace L2
open PySem PySem.Spec PySem.Calls PyProof.Rows
def K6(w:World)(p:Tr×Addr):Int×Value:=(hT w 3 p.1,.ref p.2)
def uq(w:World)(h:Heap)(a:Addr)(xs:List (Tr×Addr)):Prop:=
 ∃(o:Obj) (es:Array (Int×Value)) (ep:Nat) (t:SetTable),h.get? a=some o/\o.ExactSet/\o.data=.set es ep t/\es.toList.Perm (xs.map (K6 w))/\pM t es.size/\(wK w=true\/t.led=true)/\Lay t es
theorem uq.keep {w:World}{h h':Heap}{a:Addr}{xs:List (Tr×Addr)}(x:uq w h a xs)(k:∀o,h.get? a=some o->h'.get? a=some o):uq w h' a xs:=by
 obtain⟨o,es,ep,t,ho,r⟩:=x;exact⟨o,es,ep,t,k o ho,r⟩
def lY(xs:List (Tr×Addr))(p:Tr×Addr):List (Tr×Addr):=if(xs.any fun y=>eqT y.1 p.1)=true then xs else xs++[p]
theorem yg{α:Type}(xs:Array α){p:Nat}(hp:p<=xs.size)(x:α):(SetTable.insertAt xs p x).toList=xs.toList.take p++x::xs.toList.drop p:=by
 unfold SetTable.insertAt;simp;exact qU (by simp)
theorem Hl{t:SetTable}{es:Array (Int×Value)}{j:Nat}{e:Int×Value}(tk:pM t es.size)(ly:Lay t es)(pe:zz t t.place.toList e.1 j):Lay (t.put j).1 (SetTable.insertAt es (t.put j).2 e):=by
 have hb:=(below_at tk.rise j).1;have e1:(t.put j).1.place.toList=t.place.toList.take (SetTable.below t.place j)++j::t.place.toList.drop (SetTable.below t.place j):=yg _ hb _;have e2:(SetTable.insertAt es (t.put j).2 e).toList=es.toList.take (SetTable.below t.place j)++e::es.toList.drop (SetTable.below t.place j):=yg _ (by rw[<-tk.sz];exact hb) _;have em:t.mask=(t.put j).1.mask:=rfl;have sub:∀x∈t.place.toList,x∈(t.put j).1.place.toList:=fun x m=>by
  rw[e1];rw[<-List.take_append_drop (SetTable.below t.place j) t.place.toList]at m;rcases bF.mp m with m|m
  ·exact dU _ m
  ·exact dS _ (aO _ m)
 intro p hp;have old:∀p∈List.zip es.toList t.place.toList,zz (t.put j).1 (t.put j).1.place.toList p.1.1 p.2:=fun p hp=>((ly p hp).mono sub).mask em;rw[e2]at hp;rw[show List.zip _ (t.put j).1.place.toList=List.zip (es.toList.take (SetTable.below t.place j)++e::es.toList.drop (SetTable.below t.place j)) (t.place.toList.take (SetTable.below t.place j)++j::t.place.toList.drop (SetTable.below t.place j)) by rw[e1]]at hp;rw[List.zip_append (by rw[gX,gX,bc,bc,tk.sz])]at hp;rcases bF.mp hp with hp|hp
 ·refine old p ?_
  obtain⟨i,hi⟩:=dI hp;obtain⟨h1,h2⟩:=lA.mp hi;refine bg (i:=i) (lA.mpr ⟨?_,?_⟩)
  ·rw[mU]at h1;split at h1
   ·exact h1
   ·cases h1
  ·rw[mU]at h2;split at h2
   ·exact h2
   ·cases h2
 ·rw[rf]at hp;rcases a8.mp hp with rfl|hp
  ·exact(pe.mono sub).mask em
  ·refine old p ?_
   obtain⟨i,hi⟩:=dI hp;obtain⟨h1,h2⟩:=lA.mp hi;rw[List.getElem?_drop]at h1 h2;exact bg (lA.mpr ⟨h1,h2⟩)
section
variable {prog:Program}{w:World}{A:Around}{E:Value->Shared->Prop}{s:Shared}
theorem Pm{a b:Addr}{xs:List (Tr×Addr)}{k:Tr}{Q:Bool->Shared->Prop}(hu:A.units+3<cLine)(hS:uq w s.heap a xs)(hn:(lY xs (k,b)).length<=18)(hk:NV s.heap 3 k (.ref b))(Ep:∀p∈xs,NV s.heap 3 p.1 (.ref p.2))
  (h:∀h' r,Heap.SameBut a s.heap h'->uq w h' a (lY xs (k,b))->Q r {s with heap:=h'}):wpAny (model prog w) A (setAddHashed a (.ref b) (hT w 3 k)) Q E s:=by
 obtain⟨o,es,ep,t,ho,hex,hd,hp,tk,hl,ly⟩:=hS;have hsz:es.size=xs.length:=by have q:=hp.length_eq;rw[bc,ak]at q;exact q
 have hf:=tk.fits;unfold setAddHashed setAddHashedIn;refine cu (aa (fm ho hd hf ?_));dsimp only;have Ui:byScan (.ref b) es=false:=by unfold byScan;rfl
 rw[Ui];simp only[bS,bB];have Hm:∀e∈es.toList,∃p∈xs,e=K6 w p:=fun e he=>by
  obtain⟨p,Po,rfl⟩:=bp.mp (hp.mem_iff.mp he);exact⟨p,Po,rfl⟩
 obtain⟨j0,Uj,Yk⟩:=Ru (t.mask+1) t.place.toList (by rw[bc,tk.sz];have:=tk.Ry;omega);obtain⟨N,hN,eN⟩:=x8 tk.ms (hT w 3 k) (eZ Uj);refine aa ?_
 unfold setSearch;have Pp:∀e:Int×Value,∃r:Bool,∀p∈xs,e=K6 w p->r=eqT p.1 k:=fun e=>by
  by_cases z:∃p∈xs,e=K6 w p
  ·obtain⟨p,m,rfl⟩:=z;refine⟨eqT p.1 k,fun p' m' e'=>?_⟩;have e2:Value.ref p.2=.ref p'.2:=b9 (fun z:Int×Value=>z.2) e';have h1:=Ep p m;rw[e2]at h1;rw[NV.fn h1 (Ep p' m')]
  ·exact⟨false,fun p m e'=>absurd ⟨p,m,e'⟩ z⟩
 obtain⟨q,hq⟩:∃q:Int×Value->Bool,∀e,∀p∈xs,e=K6 w p->q e=eqT p.1 k:=⟨fun e=>(Pp e).choose,fun e=>(Pp e).choose_spec⟩;refine zE (q:=q) (h:=hT w 3 k) ho hd tk ly (fun e he=>?_) (fun e he=>?_) (fun l R hl hR=>Co (d:=3) (by decide) hk (fun y hy=>?_) hR) (fun hx=>?_) (fun j hj Yl Ym JO=>?_) N 0 100000 none (by rcases tk.ms with e|e<;>rw[e]at hN<;>omega) (by unfold SetTable.turns;omega) rfl (fun k hk=>by omega) (by show t.slot (bJ t N (t.probeStart _)).j=_;rw[eN];exact zy tk.dm Yk)
 ·obtain⟨p,m,rfl⟩:=Hm e he;rw[hq _ p m rfl];refine⟨IT hu (Ep p m) hk,fun z=>?_⟩;show hT w 3 p.1=_;rw[NV.eqT (Ep p m) hk z]
 ·obtain⟨p,m,rfl⟩:=Hm e he;exact⟨p.2,rfl⟩
 ·obtain⟨e,he,rfl⟩:=hl y hy;obtain⟨p,m,rfl⟩:=Hm e he;exact⟨p.1,Ep p m⟩
 ·
  obtain⟨e,he,RC⟩:=hx;obtain⟨p,m,rfl⟩:=Hm e he;rw[hq _ p m rfl]at RC;have ei:lY xs (k,b)=xs:=by
   unfold lY;rw[ab (j_.mpr ⟨p,m,RC⟩)]
  dsimp only;exact af (h s.heap false (.refl _ _) (by rw[ei];exact⟨o,es,ep,t,ho,hex,hd,hp,tk,hl,ly⟩))
 have ei:lY xs (k,b)=xs++[(k,b)]:=by
  unfold lY;rw[ae];intro z;obtain⟨p,m,RC⟩:=j_.mp z;have he:K6 w p∈es.toList:=hp.mem_iff.mpr (bp.mpr ⟨p,m,rfl⟩);have:=JO _ he;rw[hq _ p m rfl,RC]at this;cases this
 rw[ei]at h hn;rw[aY,eY]at hn;dsimp only;refine aa (fm ho hd hf ?_);dsimp only;obtain⟨p1,p2,p3,p4,p5,p6⟩:=K5 tk hj Yl;have u5:=q_ es (t.put j).2 (hT w 3 k,Value.ref b);have ur:(SetTable.insertAt es (t.put j).2 (hT w 3 k,Value.ref b)).size=es.size+1:=yf _ _ _;have RD:=Hl (e:=(hT w 3 k,Value.ref b)) tk ly Ym;generalize t.put j=tp at p1 p2 p3 p4 p5 p6 u5 ur RD⊢;obtain⟨t1,pl⟩:=tp;dsimp only at p1 p2 p3 p4 p5 p6 u5 ur RD⊢;generalize SetTable.insertAt es pl (hT w 3 k,Value.ref b)=ua at u5 ur RD⊢;have Ew:ua.toList.Perm ((xs++[(k,b)]).map (K6 w)):=by
  rw[dZ];refine u5.trans ?_
  rw[j7];exact hp.append_right _
 have IW:ua.size<=sizeLine:=by rw[ur,hsz,bT];omega
 have fin:∀t2:SetTable,t2.dummies=#[]->t2.mask=t.mask->t2.place=t1.place->t2.led=t1.led->wpAny (model prog w) A (do
   storeSet a ua t2
   if(!false&&t2.tooFull)=true then do
      setRelay a (SetTable.grown (es.size+1))
      pure true
    else pure true) Q E s:=by
  intro t2 d2 m2 MI l2;have Yn:Lay t2 ua:=by
   intro p hp;rw[MI]at hp⊢;exact(RD p hp).mask (p2.trans m2.symm)
  refine aa (wpAny_storeSet_of ho hd ?_ IW);have hg:(s.heap.update a (Obj.putSet ua t2)).get? a=some {o with data:=.set ua (ep+1) t2}:=by
   have q:=iV (Obj.putSet ua t2) ho (by rw[putSet_of ua t2 hd];rfl);rw[putSet_of ua t2 hd]at q;exact q
  have VZ:=gC s.heap a (Obj.putSet ua t2);have Q8:wK w=true\/t2.led=true:=hl.imp id fun z=>by rw[l2,p6];exact z
  have Ex:t2.fill=es.size+1:=by unfold SetTable.fill;rw[d2,MI,p3];rfl
  refine fV (fun sW=>?_) (fun sW=>?_)
  ·
   have sW:t2.fill*5>=t2.mask*3:=by
    have:t2.tooFull=true:=by simpa using sW
    unfold SetTable.tooFull at this;exact cq this
   rw[Ex,m2]at sW;have h7:t.mask=7:=by
    rcases tk.ms with e|e
    ·exact e
    ·rw[e]at sW;omega
   have h5:es.size+1=5:=by have:=tk.Ry;rw[h7]at sW this;omega
   refine aa ?_
   unfold setRelay;have Yo:t2.fits ua.size=true:=by
    unfold SetTable.fits;rw[MI,p3,ur,bD,kh,Ex,m2,h7,h5];rfl
   refine aa (fm hg rfl Yo ?_);dsimp only;rw[h5];have Pq:SetTable.sizeAbove (SetTable.grown 5)=32:=by decide
   rw[Pq,ae (by decide)];obtain⟨t3,order,e3,m3,d3,l3,Zu,r3,Yp,Yq,Ey⟩:=Hi (m:=31) (f:=t2.finger) (mv:=t2.movedTo 31) (ld:=t2.led) (pl:=t2.plain) (.inr rfl) (es:=ua) (by rw[ur];omega);have V0:=Cj (.inr rfl) (es:=ua) (by rw[ur];omega) e3;have er:t2.relaid (ua.map (·.1)) (SetTable.grown 5)=some (t3,order):=by
    unfold SetTable.relaid;rw[Pq];exact e3
   rw[er];refine aa ?_
   have Ez:(order.filterMap fun x=>ua[x]?).size=ua.size:=by
    have q:=Ey.length_eq;rw[bc,bc]at q;exact q
   show wpAny _ _ (if((order.filterMap fun x=>ua[x]?).size !=ua.size)=true then _ else _) _ _ _;rw[Ez,iZ];simp only[bS,bB];refine af ?_
   dsimp only;generalize (order.filterMap fun x=>ua[x]?)=KH at Ez Ey V0⊢;refine wpAny_storeSet_of hg rfl (af ?_) (by rw[Ez];exact IW);have Pr:((s.heap.update a (Obj.putSet ua t2)).update a (Obj.putSet KH t3)).get? a=some {o with data:=.set KH (ep+1+1) t3}:=by
    have q:=iV (Obj.putSet KH t3) hg (by rw[putSet_of KH t3 rfl];rfl);rw[putSet_of KH t3 rfl]at q;exact q
   refine h _ _ (VZ.trans (gC _ a _)) ⟨_,KH,_,t3,Pr,hex,rfl,Ey.trans Ew,⟨d3,.inr m3,by rw[m3];exact Yp,by rw[Yq,Ez],by rw[m3,Ez,ur];omega,r3⟩,Q8.imp id fun z=>l3.trans z,V0⟩
  ·refine af (h _ _ VZ ⟨_,ua,_,t2,hg,hex,rfl,Ew,⟨d2,by rw[m2];exact tk.ms,by rw[MI,m2];exact p4,by rw[MI,p3,ur],?_,by rw[MI];exact p5⟩,Q8,Yn⟩);have:¬t2.fill*5>=t2.mask*3:=by
    intro z;refine sW ?_
    show(!false&&t2.tooFull)=true;unfold SetTable.tooFull;rw[bj z];rfl
   rw[Ex]at this;rw[ur];omega
 split
 ·refine aa (Et (d:=3) (by decide) hk fun bv=>?_);cases bv with
  |true=>exact fin t1 p1 p2 rfl rfl
  |false=>exact fin {t1 with plain:=false} p1 p2 rfl rfl
 ·refine aa (af ?_);exact fin t1 p1 p2 rfl rfl
end
end L2
namespace L2
open PySem PySem.Spec PyProof.Rows PySem.W
theorem fg{α β:Type}{n:Nat}{lt:Nat->Nat->Bool}{f:α->KasT β}:∀(t:KasT α),cY n lt (t.bind f)=(cY n lt t).bind fun a=>cY n lt (f a)
 |.ret a=>rfl
 |.ask i j k=>by
  show(if i<n/\j<n/\i≠j then cY n lt ((k (lt i j)).bind f)else none)=_;show _=Option.bind (if i<n/\j<n/\i≠j then cY n lt (k (lt i j))else none) _;by_cases z:i<n/\j<n/\i≠j
  ·rw[ab z,ab z];exact fg _
  ·rw[ae z,ae z];rfl
structure Cq(n:Nat)(lt:Nat->Nat->Bool):Prop where
 as:∀i j,i<n->j<n->i≠j->lt i j=!lt j i
 tr:∀i j k,i<n->j<n->k<n->lt i j=true->lt j k=true->lt i k=true
def Pn(n:Nat)(p:Array Nat):Prop:=p.toList.Perm (List.range n)
def wN(lt:Nat->Nat->Bool)(p:Array Nat)(a b:Nat):Prop:=lt (p.getD a 0) (p.getD b 0)=true
def e_(lt:Nat->Nat->Bool)(p:Array Nat)(k:Nat):Prop:=∀a b,a<b->b<k->wN lt p a b
def yh(lt:Nat->Nat->Bool)(p:Array Nat)(k:Nat):Prop:=∀a b,a<b->b<k->wN lt p b a
section
variable {n:Nat}{lt:Nat->Nat->Bool}{p:Array Nat}
theorem u6:∀{l:List Nat} {i j x:Nat},l.Nodup->l[i]?=some x->l[j]?=some x->i=j
 |[],_,_,_,_,h,_=>by simp at h
 |a::l,0,0,_,_,_,_=>rfl
 |a::l,0,j+1,x,nd,h1,h2=>by
  rw[dW]at nd;cases h1;exact absurd (bg (show l[j]?=some a from h2)) nd.1
 |a::l,i+1,0,x,nd,h1,h2=>by
  rw[dW]at nd;cases h2;exact absurd (bg (show l[i]?=some a from h1)) nd.1
 |a::l,i+1,j+1,x,nd,h1,h2=>by
  rw[dW]at nd;rw[u6 nd.2 (show l[i]?=some x from h1) (show l[j]?=some x from h2)]
theorem Pn.size (h:Pn n p):p.size=n:=by
 have q:=List.Perm.length_eq h;rw[bc,iy]at q;exact q
theorem Pn.getD (h:Pn n p){a:Nat}(ha:a<n):p[a]?=some (p.getD a 0):=by
 rw[b_,bP (by rw[h.size];exact ha)];rfl
theorem Pn.lo (h:Pn n p){a:Nat}(ha:a<n):p.getD a 0<n:=by
 have e:=h.getD ha;rw[<-cf]at e;exact cI.mp ((List.Perm.mem_iff h).mp (bg e))
theorem Pn.ne (h:Pn n p){a b:Nat}(ha:a<n)(hb:b<n)(uj:a≠b):p.getD a 0≠p.getD b 0:=by
 intro e;have e1:=h.getD ha;have e2:=h.getD hb;rw[<-cf]at e1 e2;have nd:p.toList.Nodup:=(ra h).mpr List.nodup_range;rw[<-e]at e2;exact uj (u6 nd e1 e2)
theorem Cq.no (L:Cq n lt)(h:Pn n p){a b:Nat}(ha:a<n)(hb:b<n)(uj:a≠b)(e:lt (p.getD a 0) (p.getD b 0)=false):wN lt p b a:=by
 have q:=L.as _ _ (h.lo ha) (h.lo hb) (h.ne ha hb uj);rw[e]at q;unfold wN;cases z:lt (p.getD b 0) (p.getD a 0)with
 |true=>rfl
 |false=>rw[z]at q;cases q
theorem Cq.trans (L:Cq n lt)(h:Pn n p){a b c:Nat}(ha:a<n)(hb:b<n)(hc:c<n)(e1:wN lt p a b)(e2:wN lt p b c):wN lt p a c:=L.tr _ _ _ (h.lo ha) (h.lo hb) (h.lo hc) e1 e2
theorem n6{α:Type}(h:Pn n p){a b:Nat}(ha:a<n)(hb:b<n)(uj:a≠b){k:Bool->KasT α}:cY n lt (.ask (p.getD a 0) (p.getD b 0) k)=cY n lt (k (lt (p.getD a 0) (p.getD b 0))):=ab ⟨h.lo ha,h.lo hb,h.ne ha hb uj⟩
theorem e_.succ (L:Cq n lt)(h:Pn n p){m:Nat}(h1:1<=m)(hm:m<n)(s:e_ lt p m)(e:wN lt p (m - 1) m):e_ lt p (m+1):=by
 intro a b uj hb;by_cases z:b<m
 ·exact s a b uj z
 ·have:b=m:=by omega
  subst this;by_cases za:a=b - 1
  ·rw[za];exact e
  ·exact L.trans h (by omega) (by omega) hm (s a (b - 1) (by omega) (by omega)) e
theorem yh.succ (L:Cq n lt)(h:Pn n p){m:Nat}(h1:1<=m)(hm:m<n)(s:yh lt p m)(e:wN lt p m (m - 1)):yh lt p (m+1):=by
 intro a b uj hb;by_cases z:b<m
 ·exact s a b uj z
 ·have:b=m:=by omega
  subst this;by_cases za:a=b - 1
  ·rw[za];exact e
  ·exact L.trans h hm (by omega) (by omega) e (s a (b - 1) (by omega) (by omega))
theorem v3(L:Cq n lt)(h:Pn n p):∀(f m:Nat),1<=m->m+f<=n->e_ lt p m->∃m',cY n lt (kas_asc p f m)=some m'/\m<=m'/\m'<=m+f/\e_ lt p m'/\(m'<m+f->wN lt p m' (m' - 1))
 |0,m,h1,_,s=>⟨m,rfl,aq _,aq _,s,fun z=>absurd z (du _)⟩
 |f+1,m,h1,hf,s=>by
  unfold kas_asc;rw[n6 h (by omega) (by omega) (by omega)];cases e:lt (p.getD m 0) (p.getD (m - 1) 0)with
  |true=>exact⟨m,rfl,aq _,by omega,s,fun _=>e⟩
  |false=>
   obtain⟨m',q1,q2,q3,q4,q5⟩:=v3 L h f (m+1) (by omega) (by omega) (s.succ L h h1 (by omega) (L.no h (by omega) (by omega) (by omega) e));exact⟨m',q1,by omega,by omega,q4,fun z=>q5 (by omega)⟩
theorem yi(L:Cq n lt)(h:Pn n p):∀(f m:Nat),1<=m->m+f<=n->yh lt p m->∃m',cY n lt (kas_desc f p m 0)=some (p,m',0)/\m<=m'/\m'<=m+f/\yh lt p m'
 |0,m,h1,_,s=>⟨m,rfl,aq _,aq _,s⟩
 |f+1,m,h1,hf,s=>by
  unfold kas_desc;rw[n6 h (by omega) (by omega) (by omega)];cases e:lt (p.getD m 0) (p.getD (m - 1) 0)with
  |true=>
   obtain⟨m',q1,q2,q3,q4⟩:=yi L h f (m+1) (by omega) (by omega) (s.succ L h h1 (by omega) e);exact⟨m',q1,by omega,by omega,q4⟩
  |false=>
   refine⟨m,?_,aq _,by omega,s⟩;show cY n lt (.ask (p.getD (m - 1) 0) (p.getD m 0) _)=_;rw[n6 h (by omega) (by omega) (by omega),show lt (p.getD (m - 1) 0) (p.getD m 0)=true from L.no h (by omega) (by omega) (by omega) e]
   rfl
theorem rev_getD(h:Pn n p){m:Nat}(hm:m<=n)(k:Nat):(kas_rev p 0 m).getD k 0=if k<m then p.getD (m - 1 - k) 0 else p.getD k 0:=by
 unfold kas_rev;have e:=getElem?_mirror_all (xs:=p) (i:=0) (j:=m) (by rw[h.size];exact hm) k;rw[kr]at e;rw[b_,kr,e];by_cases z:k<m
 ·rw[ab ⟨bK _,z⟩,ab z,b_];congr 3;omega
 ·rw[ae (fun q=>z q.2),ae z,b_]
theorem K7(h:Pn n p){m:Nat}:Pn n (kas_rev p 0 m):=by
 unfold kas_rev;exact(wV.mp (mirror_perm p 0 m _)).trans h
theorem Cr(L:Cq n lt)(h:Pn n p)(h2:2<=n):∃m p',cY n lt (kas_count n p)=some (m,p')/\Pn n p'/\1<=m/\m<=n/\e_ lt p' m:=by
 unfold kas_count;rw[fg];obtain⟨m,q1,q2,q3,q4,q5⟩:=v3 L h (n - 1) 1 (aq _) (by omega) (fun a b _ hb=>by omega);rw[q1];show∃m' p',cY n lt (if(m==n)=true then _ else if m>1 then _ else _)=_/\_;by_cases z:m=n
 ·rw[ab (by rw[z];exact bD n)];exact⟨m,p,rfl,h,q2,by omega,q4⟩
 ·rw[ae (by simpa using z)];by_cases z1:m>1
  ·rw[ab z1,n6 h (by omega) (by omega) (by omega),show lt (p.getD 0 0) (p.getD (m - 1) 0)=true from q4 0 (m - 1) (by omega) (by omega),ab rfl];exact⟨m,p,rfl,h,q2,by omega,q4⟩
  ·rw[ae z1];have hm:m=1:=by omega
   subst hm;have Pt:wN lt p 1 0:=q5 (by omega);unfold kas_descPart;rw[fg];obtain⟨m',r1,r2,r3,r4⟩:=yi L h (n - (1+1)) (1+1) (by omega) (by omega) (fun a b uj hb=>by
    have lF:b=1:=by omega
    have dz:a=0:=by omega
    rw[lF,dz];exact Pt)
   rw[r1];show∃Zv Zw,cY n lt (if 0>0 then _ else kas_tail3 m' n p)=_/\_;rw[ae (by omega)];unfold kas_tail3;rw[fg];have hr:=K7 h (m:=m');obtain⟨m2,s1,s2,s3,s4,_⟩:=v3 L hr (n - m') m' (by omega) (by omega) (fun a b uj hb=>by
    unfold wN;rw[rev_getD h (by omega),rev_getD h (by omega),ab (by omega),ab hb];exact r4 (m' - 1 - b) (m' - 1 - a) (by omega) (by omega))
   rw[s1];exact⟨m2,_,rfl,hr,by omega,by omega,s4⟩
theorem oY(L:Cq n lt)(h:Pn n p){k:Nat}(hk:k<n):∀(f l r:Nat),l<=r->r<=k->r - l<=f->(∀a,a<l->wN lt p a k)->(∀a,r<=a->a<k->wN lt p k a)->e_ lt p k->∃l',cY n lt (kas_place p k f l r)=some l'/\l'<=k/\(∀a,a<l'->wN lt p a k)/\∀a,l'<=a->a<k->wN lt p k a
 |0,l,r,Yr,V1,hf,h1,h2,s=>⟨l,rfl,by omega,h1,fun a ha MJ=>h2 a (by omega) MJ⟩
 |f+1,l,r,Yr,V1,hf,h1,h2,s=>by
  unfold kas_place;by_cases z:l>=r
  ·rw[ab z];exact⟨l,rfl,by omega,h1,fun a ha MJ=>h2 a (by omega) MJ⟩
  ·rw[ae z,n6 h hk (by omega) (by omega)];cases e:lt (p.getD k 0) (p.getD ((l+r)/2) 0)with
   |true=>
    refine oY L h hk f l ((l+r)/2) (by omega) (by omega) (by omega) h1 (fun a ha MJ=>?_) s;by_cases za:a=(l+r)/2
    ·rw[za];exact e
    ·exact L.trans h hk (by omega) (by omega) e (s _ a (by omega) MJ)
   |false=>
    have e':=L.no h hk (show(l+r)/2<n by omega) (by omega) e;refine oY L h hk f ((l+r)/2+1) r (by omega) V1 (by omega) (fun a ha=>?_) h2 s;by_cases za:a=(l+r)/2
    ·rw[za];exact e'
    ·exact L.trans h (by omega) (by omega) hk (s a _ (by omega) (by omega)) e'
theorem yj(h:Pn n p){k l:Nat}(hk:k<n)(hl:l<=k)(c:Nat):(bubble p k (k - l)).getD c 0=if c=l then p.getD k 0 else if l<c/\c<=k then p.getD (c - 1) 0 else p.getD c 0:=by
 have e:=getElem?_bubble (xs:=p) (src:=k) (by rw[h.size];exact hk) (k - l) (by omega) c;rw[b_,e];have MK:k - (k - l)=l:=by omega
 rw[MK];by_cases z:c=l
 ·rw[ab z,ab z,b_]
 ·rw[ae z,ae z];by_cases z2:l<c/\c<=k
  ·rw[ab z2,ab z2,b_]
  ·rw[ae z2,ae z2,b_]
theorem AV(L:Cq n lt):∀(f:Nat) (p:Array Nat) (k:Nat),Pn n p->1<=k->k+f=n->e_ lt p k->∃p',cY n lt (kas_bin f p k)=some p'/\Pn n p'/\e_ lt p' n
 |0,p,k,h,h1,hf,s=>⟨p,rfl,h,by rw[<-show k=n from hf];exact s⟩
 |f+1,p,k,h,h1,hf,s=>by
  unfold kas_bin;rw[fg];have hk:k<n:=by omega
  obtain⟨l,q1,q2,q3,q4⟩:=oY L h hk k 0 k (by omega) (aq _) (by omega) (fun a ha=>by omega) (fun a ha MJ=>by omega) s;rw[q1];have Po:Pn n (bubble p k (k - l)):=(wV.mp (bubble_perm p k (k - l))).trans h;refine AV L f _ (k+1) Po (by omega) (by omega) fun a b uj hb=>?_
  unfold wN;rw[yj h hk q2,yj h hk q2];by_cases zb:b=l
  ·rw[ab zb,ae (by omega),ae (by omega)];exact q3 a (by omega)
  ·rw[ae zb];by_cases za:a=l
   ·rw[ab za,ab (by omega)];exact q4 (b - 1) (by omega) (by omega)
   ·rw[ae za];by_cases z1:l<a/\a<=k
    ·rw[ab z1,ab (by omega)];exact s (a - 1) (b - 1) (by omega) (by omega)
    ·rw[ae z1];by_cases z2:l<b/\b<=k
     ·rw[ab z2];exact s a (b - 1) (by omega) (by omega)
     ·rw[ae z2];exact s a b uj (by omega)
theorem sX(L:Cq n lt)(h2:2<=n):∃p,cY n lt (kas_sort n)=some p/\Pn n p/\e_ lt p n:=by
 unfold kas_sort;rw[fg];have h:Pn n (List.toArray (List.range n)):=List.Perm.refl _;obtain⟨m,p',q1,q2,q3,q4,q5⟩:=Cr L h h2;rw[q1];show∃p,cY n lt (if m<n then _ else _)=_/\_;by_cases z:m<n
 ·rw[ab z,rO q3];exact AV L (n - m) p' m q2 q3 (by omega) q5
 ·rw[ae z];have:m=n:=by omega
  exact⟨p',rfl,q2,by rw[<-this];exact q5⟩
theorem Cs(h:Pn n p)(s:e_ lt p n):p.toList.Pairwise fun i j=>lt i j=true:=by
 rw[qP];intro i j hi hj t8;have jq:i<n:=by rw[bc,h.size]at hi;exact hi
 have yk:j<n:=by rw[bc,h.size]at hj;exact hj
 have e:=s i j t8 yk;unfold wN at e;have e1:=h.getD jq;have e2:=h.getD yk;rw[<-cf,ay hi]at e1;rw[<-cf,ay hj]at e2;rw[Option.some.inj e1,Option.some.inj e2];exact e
end
end L2
namespace L2
open PySem PySem.Spec PySem.Calls PyProof.Rows
def lN(a b:List Int):Bool:=!decide (b<a)
theorem jO{a b:List Int}:lN a b=true↔a<=b:=by
 unfold lN;rw[Bool.not_eq_true',decide_eq_false_iff_not];exact Iff.rfl
theorem fh{a b c:List Int}(h1:lN a b=true)(h2:lN b c=true):lN a c=true:=by
 rw[jO]at*;exact List.le_trans h1 h2
theorem fi(a b:List Int):(lN a b||lN b a)=true:=by
 rw[rP,jO,jO];exact List.le_total _ _
theorem gi{a b:List Int}(h1:lN a b=true)(h2:lN b a=true):a=b:=by
 rw[jO]at*;exact List.le_antisymm h1 h2
def Pu(ks:List (List Int))(i j:Nat):Bool:=decide (ks.getD i []<ks.getD j [])
theorem K8{a b:List Int}(h:a≠b):decide (a<b)=!decide (b<a):=by
 cases e:decide (b<a)with
 |true=>
  have h1:b<a:=cq e;rw[fW];exact aX (List.lt_asymm h1)
 |false=>
  rw[rX];have h1:lN a b=true:=by unfold lN;rw[e];rfl
  cases q:decide (a<b)with
  |true=>rfl
  |false=>
   have h2:lN b a=true:=by unfold lN;rw[q];rfl
   exact absurd (gi h1 h2) h
theorem AW{ks:List (List Int)}(nd:ks.Nodup){i j:Nat}(hi:i<ks.length)(hj:j<ks.length)(h:i≠j):ks.getD i []≠ks.getD j []:=by
 rw[bz,bz,ay hi,ay hj];intro e;exact h ((gW nd).mp e)
theorem v5{ks:List (List Int)}(nd:ks.Nodup):Cq ks.length (Pu ks):=
 ⟨fun i j hi hj h=>K8 (AW nd hi hj h),fun i j k _ _ _ h1 h2=>bj (List.lt_trans (cq h1) (cq h2))⟩
def cz(ks:List (List Int)):List Nat:=(List.range ks.length).mergeSort fun i j=>lN (ks.getD i []) (ks.getD j [])
theorem di(ks:List (List Int)):(cz ks).Perm (List.range ks.length):=cA _ _
theorem c_{ks:List (List Int)}{i:Nat}(h:i∈cz ks):i<ks.length:=cI.mp ((di ks).mem_iff.mp h)
theorem lh(ks:List (List Int)):(cz ks).Pairwise fun i j=>lN (ks.getD i []) (ks.getD j [])=true:=iu (le:=fun i j=>lN (ks.getD i []) (ks.getD j [])) (fun a b c h1 h2=>fh h1 h2) (fun a b=>fi _ _) _
theorem oZ{ks:List (List Int)}(nd:ks.Nodup){p:Array Nat}(h:Pn ks.length p)(s:e_ (Pu ks) p ks.length):p.toList=cz ks:=by
 refine jC (le:=fun i j=>lN (ks.getD i []) (ks.getD j [])=true) (fun a b ha hb h1 h2=>?_) ((Cs h s).imp fun{i j} e=>?_) (lh ks) (List.Perm.trans h (di ks).symm)
 ·have dz:a<ks.length:=cI.mp ((List.Perm.mem_iff h).mp ha);have lF:b<ks.length:=c_ hb;by_cases z:a=b
  ·exact z
  ·exact absurd (gi h1 h2) (AW nd dz lF z)
 ·have e:ks.getD i []<ks.getD j []:=cq e;unfold lN;rw[aX (List.lt_asymm e)];rfl
theorem jP{ks:List (List Int)}(h:ks.length<2):cz ks=List.range ks.length:=by
 unfold cz
 match ks,h with
 |[],_=>rw[show List.range ([]:List (List Int)).length=[]from rfl,List.mergeSort_nil]
 |[a],_=>rw[show List.range [a].length=[0]from rfl,List.mergeSort_singleton]
def v7(h:Heap)(v:Value)(a b:Int):Prop:=∃ad o t u n,v=.ref ad/\h.get? ad=some o/\o.cls=.type "tuple"/\o.data=.seq #[.int a t,.int b u] n
def RE(h:Heap)(v:Value)(c a b:Int):Prop:=∃ad o t n x,v=.ref ad/\h.get? ad=some o/\o.cls=.type "tuple"/\o.data=.seq #[.int c t,x] n/\v7 h x a b
def TK(h:Heap)(v:Value):List Int->Prop
 |[a,b]=>v7 h v a b
 |[c,a,b]=>RE h v c a b
 |_=>False
theorem v7.keep {h h':Heap}{v:Value}{a b:Int}(k:∀b o xs n,o.cls=Value.type "tuple"->o.data=.seq xs n->h.get? b=some o->h'.get? b=some o):v7 h v a b->v7 h' v a b
 |⟨ad,o,t,u,n,e,h1,h2,h3⟩=>⟨ad,o,t,u,n,e,k _ _ _ _ h2 h3 h1,h2,h3⟩
theorem TK.keep {h h':Heap}{v:Value}(k:∀b o xs n,o.cls=Value.type "tuple"->o.data=.seq xs n->h.get? b=some o->h'.get? b=some o):∀{ky:List Int},TK h v ky->TK h' v ky
 |[a,b],x=>v7.keep k x
 |[c,a,b],⟨ad,o,t,n,y,e,h1,h2,h3,h4⟩=>⟨ad,o,t,n,y,e,k _ _ _ _ h2 h3 h1,h2,h3,v7.keep k h4⟩
 |[],x=>x.elim
 |[_],x=>x.elim
 |_::_::_::_::_,x=>x.elim
theorem TK.shape {h:Heap}{v:Value}:∀{ky:List Int},TK h v ky->(∃a b,ky=[a,b])\/∃c a b,ky=[c,a,b]
 |[a,b],_=>.inl ⟨a,b,rfl⟩
 |[c,a,b],_=>.inr ⟨c,a,b,rfl⟩
 |[],x=>x.elim
 |[_],x=>x.elim
 |_::_::_::_::_,x=>x.elim
section
variable {prog:Program}{w:World}{A:Around}{E:Value->Shared->Prop}{s:Shared}
theorem gO{a b:Int}{l m:List Int}:decide (a::l<b::m)=(decide (a<b)||(a==b&&decide (l<m))):=by
 rw[m6,cp,rP,aE,cp,cp,g9];exact List.cons_lt_cons_iff
theorem v8:decide (([]:List Int)<[])=false:=rfl
theorem v7.key {h:Heap}{v:Value}{a b:Int}(x:v7 h v a b):∃ad,v=.ref ad/\(tupleKind (aR prog w)).is h [.inl a,.inl b] ad:=by
 obtain⟨ad,o,t,u,n,rfl,h1,h2,h3⟩:=x;exact⟨ad,rfl,o,_,n,h1,h2,h3,.cons (AA (k:=.inl a) (t:=t)) (.cons (AA (k:=.inl b) (t:=u)) .nil)⟩
theorem K9{v v':Value}{a b a' b':Int}{Q:Bool->Shared->Prop}(hx:v7 s.heap v a b)(hy:v7 s.heap v' a' b')(f':([a,b]:List Int)≠[a',b'])(h:Q (decide ([a,b]<[a',b'])) s):wpAny (model prog w) A (keyLt' (tuples' true) v v') Q E s:=by
 obtain⟨ad,o,t,u,n,rfl,h1,h2,h3⟩:=hx;obtain⟨V2,o',t',u',n',rfl,Ce,FN,wM⟩:=hy;rw[gO,gO,v8]at h;refine r6 h1 h3 Ce wM (ka (m7 ?_));by_cases z:a=a'
 ·subst z;rw[bD];refine PySem.W.kat_yes (ka (m7 ?_));have hb:b≠b':=fun e=>f' (by rw[e]);rw[e8 hb];refine kf (rQ _ _ (wpAny_lt_int ?_));rw[aX (kn a),bD,e8 hb]at h;show Q (decide (b<b')) s;simpa using h
 ·rw[e8 z];refine kf (oneLt_int ?_);rw[e8 z]at h;simpa using h
theorem K_{v v':Value}{c a b c' a' b':Int}{Q:Bool->Shared->Prop}(hu:A.units<cLine)(hx:RE s.heap v c a b)(hy:RE s.heap v' c' a' b')(f':([c,a,b]:List Int)≠[c',a',b'])(h:Q (decide ([c,a,b]<[c',a',b'])) s):wpAny (model prog w) A (keyLt' (tuples' true) v v') Q E s:=by
 obtain⟨ad,o,t,n,x,rfl,h1,h2,h3,Pw⟩:=hx;obtain⟨V2,o',t',n',x',rfl,Ce,FN,wM,Px⟩:=hy;rw[gO]at h;refine r6 h1 h3 Ce wM (ka (m7 ?_));by_cases z:c=c'
 ·subst z;rw[bD];obtain⟨b1,rfl,k1⟩:=v7.key (prog:=prog) (w:=w) Pw;obtain⟨b2,rfl,k2⟩:=v7.key (prog:=prog) (w:=w) Px;have hb:([a,b]:List Int)≠[a',b']:=fun e=>f' (by rw[e]);refine PySem.W.kat_yes (ka ((tupleKind (aR prog w)).eqBool hu k1 k2 ?_));have hk:([.inl a,.inl b]:List Key)≠[.inl a',.inl b']:=fun e=>hb (by injection e with e1 e2;injection e2 with e2 _;injection e1 with e1;injection e2 with e2;rw[e1,e2]);rw[aX hk];obtain⟨_,ob,tb,ub,nb,e,g1,g2,g3⟩:=Pw;cases e;obtain⟨_,Uk,Ul,Um,Uo,e,Up,Uq,Ur⟩:=Px;cases e;refine kf (rQ _ _ (HT.sj ⟨ob,g1,g2,nb,g3⟩ ⟨Uk,Up,Uq,Uo,Ur⟩ (.cons a tb (.cons b ub .nil)) (.cons a' Ul (.cons b' Um .nil)) hu ?_));show Q (HT.lexLt [a,b] [a',b']) s;have e:HT.lexLt [a,b] [a',b']=decide ([a,b]<[a',b']):=by
   rw[gO,gO,v8];unfold HT.lexLt;by_cases q:a=a'
   ·subst q;rw[bD,aX (kn a)];have ND:b≠b':=fun e=>hb (by rw[e]);simp[HT.lexLt,ND]
   ·simp[q,HT.lexLt]
  rw[e];rw[aX (kn c),bD]at h;simpa using h
 ·rw[e8 z];refine kf (oneLt_int ?_);rw[e8 z]at h;simpa using h
theorem IX{v v':Value}{k k':List Int}{Q:Bool->Shared->Prop}(hu:A.units<cLine)(hx:TK s.heap v k)(hy:TK s.heap v' k')(hl:k.length=k'.length)(f':k≠k')(h:Q (decide (k<k')) s):wpAny (model prog w) A (keyLt' (tuples' true) v v') Q E s:=by
 rcases hx.shape with⟨a,b,rfl⟩|⟨c,a,b,rfl⟩<;>rcases hy.shape with⟨a',b',rfl⟩|⟨c',a',b',rfl⟩
 ·exact K9 hx hy f' h
 ·cases hl
 ·cases hl
 ·exact K_ hu hx hy f' h
end
theorem EA{h:Heap}{v:Value}{k:List Int}(x:TK h v k):∃a o xs n i t,v=.ref a/\h.get? a=some o/\o.cls=.type "tuple"/\o.data=.seq xs n/\xs[0]?=some (.int i t):=by
 match k,x with
 |[a,b],⟨ad,o,t,u,n,e,h1,h2,h3⟩=>exact⟨ad,o,_,n,a,t,e,h1,h2,h3,rfl⟩
 |[c,a,b],⟨ad,o,t,n,y,e,h1,h2,h3,_⟩=>exact⟨ad,o,_,n,c,t,e,h1,h2,h3,rfl⟩
theorem mr{h:Heap}:∀{vs:List Value} {ks:List (List Int)},vs.length=ks.length->(∀(i:Nat) (v:Value) (k:List Int),vs[i]?=some v->ks[i]?=some k->TK h v k)->∃fs:List Value,PySem.W.KatTups h vs fs/\fs.length=ks.length/\∀v∈fs,∃z t,v=Value.int z t
 |[],[],_,_=>⟨[],.nil,rfl,fun v m=>(nomatch m)⟩
 |[],_::_,e,_=>by cases e
 |_::_,[],e,_=>by cases e
 |v::vs,k::ks,e,kk=>by
  obtain⟨a,o,xs,n,i,t,rfl,h1,h2,h3,h4⟩:=EA (kk 0 v k rfl rfl);obtain⟨fs,q1,q2,q3⟩:=mr (vs:=vs) (ks:=ks) (by simpa using e) fun i b y e1 e2=>kk (i+1) b y (by simpa using e1) (by simpa using e2);refine⟨.int i t::fs,.cons h1 h2 h3 h4 q1,by rw[bb,bb,q2],fun v m=>?_⟩;rcases a8.mp m with rfl|m
  ·exact⟨i,t,rfl⟩
  ·exact q3 v m
section
variable {prog:Program}{w:World}{A:Around}{E:Value->Shared->Prop}{s:Shared}
theorem dP{α:Type}(d:α)(l:List α):(List.range l.length).map (fun i=>l.getD i d)=l:=by
 refine i5 (by simp) fun i h1 h2=>?_
 simp[h2]
theorem Ct{L D:Addr}{m:Str->Option Value}{vs:List Value}{ks:List (List Int)}{n0:Nat}{P:PySem.Fin->Shared->Prop}(hu:A.units<cLine)(uH:s.heap.Ns L m)(Hn:D≠L)(ho:s.heap.get? D=some (seqObj "list" vs.toArray n0))(hl:vs.length=ks.length)
  (ht:∀(i:Nat) (v:Value) (k:List Int),vs[i]?=some v->ks[i]?=some k->TK s.heap v k) (zF:ks.Nodup) (yJ:ks.length<64) (yl:∀k∈ks,∀k'∈ks,k.length=k'.length)
  (h:∀h' c,(∀b o,b≠L->b≠D->s.heap.get? b=some o->h'.get? b=some o)->h'.Ns L m->h'.get? D=some (seqObj "list" ((cz ks).map fun i=>vs.getD i Value.none).toArray c)->P (.done (.ret .none)) {s with heap:=h'}):
  wpAny (model prog w) A (Builtin.«list.sort» ⟨[.ref D],[]⟩) P E s:=by
 by_cases h2:ks.length<2
 ·refine jW ho (by rw[hl];exact h2) fun h' c kp hD=>?_
  refine h h' c (fun b o _ n e=>kp b o n e) ?_ (by rw[jP h2,<-hl,dP];exact hD)
  obtain⟨o,es,vo,wZ,r'⟩:=uH;exact⟨o,es,vo,kp _ _ Hn.symm wZ,r'⟩
 ·have h2:2<=ks.length:=by omega
  obtain⟨p,er,hp,hs⟩:=sX (v5 zF) h2;have ep:=oZ zF hp hs;have F:Fr oS L s.heap m:=⟨uH,(fun b o e=>by rw[ff]at e;cases e),bK _⟩;have N:News oS L s.heap (qw s.heap L D):=fun t ht=>by
   obtain⟨n1,n2,e⟩:=cE.mp (show(t.1,t.2)∈_ from ht);exact⟨e,n1,ff _⟩
  refine PySem.W.kat_list_sort F N ho Hn (ff _) (fun t ht=>(cE.mp (show(t.1,t.2)∈_ from ht)).2.1) (by rw[hl];exact h2) (by rw[hl];exact yJ) fun e1 h' F' N'=>?_
  have kt:∀b o xs n,o.cls=Value.type "tuple"->o.data=.seq xs n->s.heap.get? b=some o->h'.get? b=some o:=fun b o xs n hc hd e=>by
   have nL:b≠L:=fun z=>by
    obtain⟨o',es,vo,wZ,hx,_⟩:=uH;rw[z,wZ]at e;cases e;rw[hx]at hd;cases hd
   have nD:b≠D:=fun z=>by
    rw[z,ho]at e;cases e;exact absurd (show Value.type "list"=Value.type "tuple"from hc) (by decide)
   exact(N' (b,o) (aO _ (cE.mpr ⟨nL,nD,e⟩))).1
  have tp:∀(i:Nat) (v:Value) (k:List Int),vs[i]?=some v->ks[i]?=some k->TK h' v k:=fun i v k e1 e2=>(ht i v k e1 e2).keep kt
  obtain⟨fs,aA,fl,K'⟩:=mr hl tp;refine rL (T:=.type "int") aA (by rw[fl];omega) (fun v hv=>by obtain⟨z,t,rfl⟩:=K' v hv;exact .of_pure rfl) (by decide) ?_
  rw[show(Value.type "int" !=Value.type "tuple")=true by decide,hl];refine lM (fun i j C hi hj t8 hC=>?_) _ er ?_
  ·have vi:vs[i]?=some (vs[i]'(by omega)):=ay (by omega)
   have vj:vs[j]?=some (vs[j]'(by omega)):=ay (by omega)
   have ki:ks[i]?=some ks[i]:=ay hi
   have kj:ks[j]?=some ks[j]:=ay hj
   show wpAny _ _ (keyLt' _ (vs.getD i Value.none) (vs.getD j Value.none)) _ _ _;rw[bz,bz,vi,vj];refine IX hu (tp i _ _ vi ki) (tp j _ _ vj kj) (yl _ (gZ hi) _ (gZ hj)) (fun e=>t8 ((gW zF).mp e)) ?_
   unfold Pu at hC;rw[bz,bz,ki,kj]at hC;exact hC
  ·refine PySem.W.KasFin.intro F' N' (.head fun t ht=>(cE.mp (show(t.1,t.2)∈_ from ht)).2.1) fun Us c Ut Py=>?_
   refine h Us c (fun b o n1 n2 e=>(Py (b,o) (aO _ (cE.mpr ⟨n1,n2,e⟩))).1) Ut.ns ?_
   rw[<-ep];exact(Py _ (aP ..)).1
end
end L2
namespace L2
open PySem PySem.Spec PySem.Calls PyProof.Rows
def FR:Tr->Option (List Int)
 |.tup [.int a,.int b]=>some [a,b]
 |.tup [.int c,.tup [.int a,.int b]]=>some [c,a,b]
 |_=>none
def dQ(t:Tr):List Int:=(FR t).getD []
def t_(ts:List Tr):Bool:=(ts.all fun t=>(FR t).isSome)&&(decide (ts.length<64)&&(decide ((ts.map dQ).Nodup)&&((ts.all fun t=>(dQ t).length==2)||(ts.all fun t=>(dQ t).length==3))))
def dR(ts:List Tr):List Tr:=ts.mergeSort fun a b=>lN (dQ a) (dQ b)
theorem sY{ts:List Tr}(h:t_ ts=true):(∀t∈ts,FR t=some (dQ t))/\ts.length<64/\(ts.map dQ).Nodup/\∀k∈ts.map dQ,∀k'∈ts.map dQ,k.length=k'.length:=by
 unfold t_ at h;rw[aE,aE,aE,cp,cp]at h;obtain⟨h1,h2,h3,h4⟩:=h;refine⟨fun t ht=>?_,h2,h3,fun k hk k' zD=>?_⟩
 ·have q:=bA.mp h1 t ht;unfold dQ;cases e:FR t with
  |none=>rw[e]at q;cases q
  |some k=>rfl
 ·obtain⟨t,ht,rfl⟩:=bp.mp hk;obtain⟨t',RF,rfl⟩:=bp.mp zD;rw[rP]at h4;rcases h4 with h4|h4
  ·exact(eq_of_beq (bA.mp h4 t ht)).trans (eq_of_beq (bA.mp h4 t' RF)).symm
  ·exact(eq_of_beq (bA.mp h4 t ht)).trans (eq_of_beq (bA.mp h4 t' RF)).symm
theorem Ho{ts:List Tr}(nd:(ts.map dQ).Nodup){a b:Tr}(ha:a∈ts)(hb:b∈ts)(e:dQ a=dQ b):a=b:=by
 obtain⟨i,hi⟩:=dI ha;obtain⟨j,hj⟩:=dI hb;obtain⟨Pz,La⟩:=cb.mp hi;obtain⟨Uu,PC⟩:=cb.mp hj;have q:(ts.map dQ)[i]'(by rw[ak];exact Pz)=(ts.map dQ)[j]'(by rw[ak];exact Uu):=by
  rw[gG,gG,La,PC,e]
 have z:=(gW nd).mp q;subst z;rw[<-La,<-PC]
theorem u7{ts:List Tr}(nd:(ts.map dQ).Nodup):(cz (ts.map dQ)).map (fun i=>ts.getD i .dv)=dR ts:=by
 have hp:((cz (ts.map dQ)).map fun i=>ts.getD i .dv).Perm ts:=by
  have q:=(di (ts.map dQ)).map fun i=>ts.getD i .dv;rw[ak,dP]at q;exact q
 have Dt:(dR ts).Perm ts:=cA _ _;refine jC (le:=fun a b=>lN (dQ a) (dQ b)=true) (fun a b ha hb h1 h2=>Ho nd (hp.mem_iff.mp ha) (Dt.mem_iff.mp hb) (gi h1 h2)) ?_ (iu (le:=fun a b=>lN (dQ a) (dQ b)) (fun a b c h1 h2=>fh h1 h2) (fun a b=>fi _ _) _) (hp.trans Dt.symm)
 rw[j8];refine(lh (ts.map dQ)).imp_of_mem fun{i j} hi hj e=>?_
 have jq:=c_ hi;have yk:=c_ hj;rw[ak]at jq yk;rw[bz,bz,aL,aL,ay jq,ay yk]at e;rw[bz,bz,ay jq,ay yk];exact e
theorem qF{f:Nat->V}{g:Nat->Value}:∀{p:List Nat},(∀i∈p,RelV (f i) (g i))->Vals (p.map f) (p.map g)
 |[],_=>.nil
 |i::p,h=>.cons (h i (aP ..)) (qF fun j m=>h j (aO _ m))
section
variable {X:Cx}{pins:List (Addr×Obj)}{σ:St}{H:Hp}{s:Shared}{B:bN}
theorem qG(I:Inv X pins σ H s){v:V}{a b:Int}{u:Value}(r:Rep X.K (aN B H) v (.tup [.int a,.int b]))(rv:RelV v u):v7 s.heap u a b:=by
 obtain⟨ad,us,rfl,hq,rr⟩:=r.fJ;cases(show u=Value.ref ad from rv);obtain⟨x1,x2,rfl,r1,r2⟩:=Ag rr;obtain⟨aV,CU,⟨o,h1,h2,n,h3⟩,_⟩:=I.tuple (.inl (.inl (aK _ _ hq)));obtain⟨u1,u2,rfl,e1,e2⟩:=vals2 CU;cases r1.int_inv;cases r2.int_inv;obtain⟨t1,rfl⟩:=e1;obtain⟨t2,rfl⟩:=e2;exact⟨ad,o,t1,t2,n,rfl,h1,h2,h3⟩
theorem Lb(I:Inv X pins σ H s){v:V}{t:Tr}{k:List Int}{u:Value}(r:Rep X.K (aN B H) v t)(e:FR t=some k)(rv:RelV v u):TK s.heap u k:=by
 unfold FR at e;split at e
 ·cases e;exact qG I r rv
 ·cases e;obtain⟨ad,us,rfl,hq,rr⟩:=r.fJ;cases(show u=Value.ref ad from rv);obtain⟨x1,x2,rfl,r1,r2⟩:=Ag rr;obtain⟨aV,CU,⟨o,h1,h2,n,h3⟩,_⟩:=I.tuple (.inl (.inl (aK _ _ hq)));obtain⟨u1,u2,rfl,e1,e2⟩:=vals2 CU;cases r1.int_inv;obtain⟨t1,rfl⟩:=e1;exact⟨ad,o,t1,n,u2,rfl,h1,h2,h3,qG I r2 e2⟩
 ·cases e
theorem sZ{Q:VK}(hu:X.A.units+4<cLine)(I:Inv X pins σ H s){h1:Heap}{tk:Nat}{d:Drawn}(v9:∀b o,s.heap.get? b=some o->h1.get? b=some o){vs:List V}{us:List Value}{ks:List (List Int)}(rv:Vals vs us)(hl:us.length=ks.length)
  (ht:∀(i:Nat) (v:Value) (k:List Int),us[i]?=some v->ks[i]?=some k->TK s.heap v k) (zF:ks.Nodup) (yJ:ks.length<64) (yl:∀k∈ks,∀k'∈ks,k.length=k'.length)
  (q:∀D,H D=none->Q (.ref D) (upd H D (.lst ((cz ks).map fun i=>vs.getD i .dv)))) {P:PySem.Fin->Shared->Prop} {E:Value->Shared->Prop}
  (hP:∀s',EP X pins σ Q (.ref h1.objs.size) s'->P (.done (.ret .none)) s'):
  wpAny (model X.prog X.w) X.A.in1.in1 (Builtin.«list.sort» ⟨[.ref h1.objs.size],[]⟩) P E {s with heap:=h1.push (seqObj "list" us.toArray 0),toks:=tk,drawn:=d}:=by
 obtain⟨m,uH,_⟩:=id I.loc;have zZ:(h1.push (seqObj "list" us.toArray 0)).get? h1.objs.size=some (seqObj "list" us.toArray 0):=aQ _ rfl;have J:Inv X pins σ H {s with heap:=h1,toks:=tk}:=I.kept v9;have zG:H h1.objs.size=none:=J.fresh;have Uv:lR X pins H h1.objs.size:=J.vt (aq _) zG;have Uw:X.fj.heap.objs.size<=h1.objs.size:=J.sz;have Hn:h1.objs.size≠X.env.locals:=ef J.lt;have Lc:(h1.push (seqObj "list" us.toArray 0)).Ns X.env.locals m:=by
  obtain⟨o,es,vo,ho,r'⟩:=uH;exact⟨o,es,vo,aB _ (v9 _ _ ho),r'⟩
 refine Ct (s:={s with heap:=h1.push (seqObj "list" us.toArray 0),toks:=tk,drawn:=d}) (ks:=ks) (by show X.A.units+1+1<cLine;omega) Lc Hn zZ hl (fun i v k e1 e2=>(ht i v k e1 e2).keep fun b o _ _ _ _ e=>aB _ (v9 b o e)) zF yJ yl fun h' c kp HZ hD=>hP _ ?_
 have Ux:∀b o,s.heap.get? b=some o->b<h1.objs.size:=fun b o e=>az (v9 b o e);have I1:Inv X pins σ H {s with heap:=h',toks:=tk}:=I.xK uH HZ fun b o n e=>kp b o n (bo (Ux b o e)) (aB _ (v9 b o e));have Ys:vs.length=us.length:=rv.length;have I2:=I1.adopt (o:=.lst ((cz ks).map fun i=>vs.getD i .dv)) Uw ⟨zG,Uv.2⟩ ⟨by rw[ak,(di ks).length_eq,iy,bT];omega,_,c,qF fun i hi=>?_,hD⟩
 ·exact⟨.ref h1.objs.size,_,I2.AD d,rfl,q _ zG⟩
 ·have NU:=c_ hi;have PD:i<vs.length:=by omega
  obtain⟨u,eu,ru⟩:=rv.get (ay PD);rw[bz,bz,eu,ay PD];exact ru
def EB(ts:List Tr):Rs Tr:=if t_ ts=true then .ok (.lst (dR ts))else .bad
def fA:List Tr->Rs Tr
 |[.lst ts]=>EB ts
 |[.tup ts]=>EB ts
 |_=>.bad
theorem u9{ts:List Tr}{vs:List V}{K:PySem.W.Frag}{W:Vw}(h:t_ ts=true)(rr:aJ K W vs ts):aJ K W ((cz (ts.map dQ)).map fun i=>vs.getD i .dv) (dR ts):=by
 obtain⟨_,_,nd,_⟩:=sY h;rw[<-u7 nd];refine qz fun i hi=>?_
 have hit:=c_ hi;rw[ak]at hit;obtain⟨v,ev,rv⟩:=rr.get (ay hit);rw[bz,bz,ev,ay hit];exact rv
theorem u_(I:Inv X pins σ H s){ts:List Tr}{vs:List V}{us:List Value}(h:t_ ts=true)(rr:aJ X.K (aN B H) vs ts)(rv:Vals vs us):us.length=(ts.map dQ).length/\∀(i:Nat) (v:Value) (k:List Int),us[i]?=some v->(ts.map dQ)[i]?=some k->TK s.heap v k:=by
 obtain⟨hk,_,_,_⟩:=sY h;refine⟨by rw[ak,<-rr.length,rv.length],fun i v k e1 e2=>?_⟩;rw[aL]at e2;cases et:ts[i]? with
 |none=>rw[et]at e2;cases e2
 |some t=>
  rw[et]at e2;cases e2;obtain⟨w',ew,lS⟩:=rr.get et;obtain⟨u,eu,ru⟩:=rv.get ew;rw[e1]at eu;cases eu;exact Lb I lS (hk t (bg et)) ru
theorem va(hu:X.A.units+4<cLine):jl X (.builtin "sorted") fA:=by
 intro pins s σ H xs us Q I rv ⟨B,ts,hb,r,q⟩;have key:∃tr oC,ts=[tr]/\(tr=.lst oC\/tr=.tup oC)/\t_ oC=true/\∀v H',aw H H'->Rep X.K (aN B H') v (.lst (dR oC))->Q v H':=by
  unfold fA at q;split at q
  ·obtain⟨h0,z⟩:=eV (show Fi X H (if t_ _=true then _ else _) _ from q);exact⟨_,_,rfl,.inl rfl,h0,z⟩
  ·obtain⟨h0,z⟩:=eV (show Fi X H (if t_ _=true then _ else _) _ from q);exact⟨_,_,rfl,.inr rfl,h0,z⟩
  ·exact(show False from q).elim
 obtain⟨tr,oC,rfl,T2,ok,k⟩:=key;obtain⟨x,rfl,h⟩:=h8 r;obtain⟨u,rfl,ru⟩:=vals1 rv;have src:∃(a:Addr) (vs:List V) (tn:String) (o:Obj) (aV:List Value) (n:Nat),x=.ref a/\(tn="list"\/tn="tuple")/\aJ X.K (aN B H) vs oC/\Vals vs aV/\s.heap.get? a=some o/\o.cls=.type tn/\o.data=.seq aV.toArray n:=by
  rcases T2 with rfl|rfl
  ·obtain⟨a,vs,rfl,h,rr⟩:=h.lst_inv;obtain⟨z0,aV,n0,uY,hx⟩:=(show bY X.prog X.w H s.heap a (.lst vs)from I.bV a _ (gm h));exact⟨a,vs,"list",_,aV,n0,rfl,.inl rfl,rr,uY,hx,rfl,rfl⟩
  ·obtain⟨a,vs,rfl,h,rr⟩:=h.fJ;obtain⟨_,aV,uY,o,hx,c1,n0,c2,c3⟩:=(show bY X.prog X.w H s.heap a (.tup vs)from I.bV a _ (aK _ _ h));exact⟨a,vs,"tuple",o,aV,n0,rfl,.inr rfl,rr,uY,hx,c1,c2⟩
 obtain⟨a,vs,tn,o,aV,n,rfl,O5,rr,uY,ho,hc,hd⟩:=src;cases(show u=Value.ref a from ru);obtain⟨_,yJ,nd,same⟩:=sY ok;obtain⟨hl,ht⟩:=u_ I ok rr uY;have hz:aV.length<=64:=by rw[hl,ak];omega
 refine call_function_entry kind_sorted plain_sorted entry_sorted (args_sorted1 _) ?_
 unfold Builtin.«sorted»;refine aa (m:=checkCount "sorted" 1 1 _) (af ?_);refine aa (wpAny_collect_seq a O5 ho hc hd (fun h1 v9=>?_) (by simpa using aZ hz (by decide)));refine aa (jd ?_ (by simpa using aZ hz (by decide)));have zZ:(h1.push (seqObj "list" aV.toArray 0)).get? h1.objs.size=some (seqObj "list" aV.toArray 0):=aQ _ rfl;refine aa (cu (dM slot_list_sort ⟨_,zZ,rfl⟩ nk (sZ (tk:=s.toks) (d:=s.drawn) hu I v9 uY hl ht nd (by rw[ak];exact yJ) same (fun D hD=>k _ _ (aw.upd hD) (.vI hb hD (u9 ok rr))) fun s' he=>⟨_,rfl,af ⟨_,rfl,he⟩⟩) (args_list_sort _)))
end
end L2
namespace L2
open PySem PySem.Spec PySem.Calls PyProof.Rows
def AX(w:World)(a:Addr)(vs:List Value):HO:=.ext fun h=>p8 w h a vs
end L2
namespace L2
open PySem PySem.Spec PySem.Calls PyProof.Rows
def TL(h:Heap)(v:Value)(k:List Int):Prop:=∃ad o n x y a b,v=.ref ad/\h.get? ad=some o/\o.cls=.type "tuple"/\o.data=.seq #[x,y] n/\k=[a,b]/\v7 h x a b
theorem TL.keep {h h':Heap}{v:Value}{ky:List Int}(k:∀b o xs n,o.cls=Value.type "tuple"->o.data=.seq xs n->h.get? b=some o->h'.get? b=some o):TL h v ky->TL h' v ky
 |⟨ad,o,n,x,y,a,b,e,h1,h2,h3,e2,h4⟩=>⟨ad,o,n,x,y,a,b,e,k _ _ _ _ h2 h3 h1,h2,h3,e2,v7.keep k h4⟩
section
variable {prog:Program}{w:World}{A:Around}{E:Value->Shared->Prop}{s:Shared}
theorem PH{v v':Value}{k k':List Int}{Q:Bool->Shared->Prop}(hu:A.units<cLine)(hx:TL s.heap v k)(hy:TL s.heap v' k')(f':k≠k')(h:Q (decide (k<k')) s):wpAny (model prog w) A (keyLt' (tuples' false) v v') Q E s:=by
 obtain⟨ad,o,n,x,x2,a,b,rfl,h1,h2,h3,rfl,Pw⟩:=hx;obtain⟨V2,o',n',x',Zx,a',b',rfl,Ce,FN,wM,rfl,Px⟩:=hy;obtain⟨b1,rfl,k1⟩:=v7.key (prog:=prog) (w:=w) Pw;obtain⟨b2,rfl,k2⟩:=v7.key (prog:=prog) (w:=w) Px;refine r6 h1 h3 Ce wM (ka ((tupleKind (aR prog w)).eqBool hu k1 k2 ?_));have hk:([.inl a,.inl b]:List Key)≠[.inl a',.inl b']:=fun e=>f' (by injection e with e1 e2;injection e2 with e2 _;injection e1 with e1;injection e2 with e2;rw[e1,e2]);rw[aX hk];obtain⟨_,ob,tb,ub,nb,e,g1,g2,g3⟩:=Pw;cases e;obtain⟨_,Uk,Ul,Um,Uo,e,Up,Uq,Ur⟩:=Px;cases e;refine kf (rQ _ _ (HT.sj ⟨ob,g1,g2,nb,g3⟩ ⟨Uk,Up,Uq,Uo,Ur⟩ (.cons a tb (.cons b ub .nil)) (.cons a' Ul (.cons b' Um .nil)) hu ?_));show Q (HT.lexLt [a,b] [a',b']) s;have e:HT.lexLt [a,b] [a',b']=decide ([a,b]<[a',b']):=by
  rw[gO,gO,v8];unfold HT.lexLt;by_cases q:a=a'
  ·subst q;rw[bD,aX (kn a)];have ND:b≠b':=fun e=>f' (by rw[e]);simp[HT.lexLt,ND]
  ·simp[q,HT.lexLt]
 rw[e];exact h
theorem s_{M:Model}{h:Heap}:∀{vs:List Value} {ks:List (List Int)},vs.length=ks.length->(∀(i:Nat) (v:Value) (k:List Int),vs[i]?=some v->ks[i]?=some k->TL h v k)->∃fs:List Value,PySem.W.KatTups h vs fs/\fs.length=ks.length/\∀v∈fs,PySem.W.Looks M h (typeOf v) (.type "tuple")
 |[],[],_,_=>⟨[],.nil,rfl,fun v m=>(nomatch m)⟩
 |[],_::_,e,_=>by cases e
 |_::_,[],e,_=>by cases e
 |v::vs,k::ks,e,kk=>by
  obtain⟨ad,o,n,x,y,a,b,rfl,h1,h2,h3,_,c,oc,_,_,_,rfl,g1,g2,_⟩:=kk 0 v k rfl rfl;obtain⟨fs,q1,q2,q3⟩:=s_ (M:=M) (vs:=vs) (ks:=ks) (by simpa using e) fun i b y e1 e2=>kk (i+1) b y (by simpa using e1) (by simpa using e2);refine⟨.ref c::fs,.cons h1 h2 h3 rfl q1,by rw[bb,bb,q2],fun v m=>?_⟩;rcases a8.mp m with rfl|m
  ·rw[<-g2];exact(PySem.W.Looks.ld g1).andThen .now
  ·exact q3 v m
theorem Cu{L D:Addr}{m:Str->Option Value}{vs:List Value}{ks:List (List Int)}{n0:Nat}{P:PySem.Fin->Shared->Prop}(hu:A.units<cLine)(uH:s.heap.Ns L m)(Hn:D≠L)(ho:s.heap.get? D=some (seqObj "list" vs.toArray n0))(hl:vs.length=ks.length)
  (ht:∀(i:Nat) (v:Value) (k:List Int),vs[i]?=some v->ks[i]?=some k->TL s.heap v k) (zF:ks.Nodup) (yJ:ks.length<64)
  (h:∀h' c,(∀b o,b≠L->b≠D->s.heap.get? b=some o->h'.get? b=some o)->h'.Ns L m->h'.get? D=some (seqObj "list" ((cz ks).map fun i=>vs.getD i Value.none).toArray c)->P (.done (.ret .none)) {s with heap:=h'}):
  wpAny (model prog w) A (Builtin.«list.sort» ⟨[.ref D],[]⟩) P E s:=by
 by_cases h2:ks.length<2
 ·refine jW ho (by rw[hl];exact h2) fun h' c kp hD=>?_
  refine h h' c (fun b o _ n e=>kp b o n e) ?_ (by rw[jP h2,<-hl,dP];exact hD)
  obtain⟨o,es,vo,wZ,r'⟩:=uH;exact⟨o,es,vo,kp _ _ Hn.symm wZ,r'⟩
 ·have h2:2<=ks.length:=by omega
  obtain⟨p,er,hp,hs⟩:=sX (v5 zF) h2;have ep:=oZ zF hp hs;have F:Fr oS L s.heap m:=⟨uH,(fun b o e=>by rw[ff]at e;cases e),bK _⟩;have N:News oS L s.heap (qw s.heap L D):=fun t ht=>by
   obtain⟨n1,n2,e⟩:=cE.mp (show(t.1,t.2)∈_ from ht);exact⟨e,n1,ff _⟩
  refine PySem.W.kat_list_sort F N ho Hn (ff _) (fun t ht=>(cE.mp (show(t.1,t.2)∈_ from ht)).2.1) (by rw[hl];exact h2) (by rw[hl];exact yJ) fun e1 h' F' N'=>?_
  have kt:∀b o xs n,o.cls=Value.type "tuple"->o.data=.seq xs n->s.heap.get? b=some o->h'.get? b=some o:=fun b o xs n hc hd e=>by
   have nL:b≠L:=fun z=>by
    obtain⟨o',es,vo,wZ,hx,_⟩:=uH;rw[z,wZ]at e;cases e;rw[hx]at hd;cases hd
   have nD:b≠D:=fun z=>by
    rw[z,ho]at e;cases e;exact absurd (show Value.type "list"=Value.type "tuple"from hc) (by decide)
   exact(N' (b,o) (aO _ (cE.mpr ⟨nL,nD,e⟩))).1
  have tp:∀(i:Nat) (v:Value) (k:List Int),vs[i]?=some v->ks[i]?=some k->TL h' v k:=fun i v k e1 e2=>(ht i v k e1 e2).keep kt
  obtain⟨fs,aA,fl,Yt⟩:=s_ (M:=model prog w) hl tp;refine rL (T:=.type "tuple") aA (by rw[fl];omega) Yt (by decide) ?_
  rw[show(Value.type "tuple" !=Value.type "tuple")=false by decide,hl];refine lM (fun i j C hi hj t8 hC=>?_) _ er ?_
  ·have vi:vs[i]?=some (vs[i]'(by omega)):=ay (by omega)
   have vj:vs[j]?=some (vs[j]'(by omega)):=ay (by omega)
   have ki:ks[i]?=some ks[i]:=ay hi
   have kj:ks[j]?=some ks[j]:=ay hj
   show wpAny _ _ (keyLt' _ (vs.getD i Value.none) (vs.getD j Value.none)) _ _ _;rw[bz,bz,vi,vj];refine PH hu (tp i _ _ vi ki) (tp j _ _ vj kj) (fun e=>t8 ((gW zF).mp e)) ?_
   unfold Pu at hC;rw[bz,bz,ki,kj]at hC;exact hC
  ·refine PySem.W.KasFin.intro F' N' (.head fun t ht=>(cE.mp (show(t.1,t.2)∈_ from ht)).2.1) fun Us c Ut Py=>?_
   refine h Us c (fun b o n1 n2 e=>(Py (b,o) (aO _ (cE.mpr ⟨n1,n2,e⟩))).1) Ut.ns ?_
   rw[<-ep];exact(Py _ (aP ..)).1
end
section
variable {X:Cx}{pins:List (Addr×Obj)}{σ:St}{H:Hp}{s:Shared}{B:bN}
theorem ym{Q:VK}(hu:X.A.units+4<cLine)(I:Inv X pins σ H s){h1:Heap}{tk:Nat}{d:Drawn}(v9:∀b o,s.heap.get? b=some o->h1.get? b=some o){vs:List V}{us:List Value}{ks:List (List Int)}(rv:Vals vs us)(hl:us.length=ks.length)
  (ht:∀(i:Nat) (v:Value) (k:List Int),us[i]?=some v->ks[i]?=some k->TL s.heap v k) (zF:ks.Nodup) (yJ:ks.length<64)
  (q:∀D,H D=none->Q (.ref D) (upd H D (.lst ((cz ks).map fun i=>vs.getD i .dv)))) {P:PySem.Fin->Shared->Prop} {E:Value->Shared->Prop}
  (hP:∀s',EP X pins σ Q (.ref h1.objs.size) s'->P (.done (.ret .none)) s'):
  wpAny (model X.prog X.w) X.A.in1.in1 (Builtin.«list.sort» ⟨[.ref h1.objs.size],[]⟩) P E {s with heap:=h1.push (seqObj "list" us.toArray 0),toks:=tk,drawn:=d}:=by
 obtain⟨m,uH,_⟩:=id I.loc;have zZ:(h1.push (seqObj "list" us.toArray 0)).get? h1.objs.size=some (seqObj "list" us.toArray 0):=aQ _ rfl;have J:Inv X pins σ H {s with heap:=h1,toks:=tk}:=I.kept v9;have zG:H h1.objs.size=none:=J.fresh;have Uv:lR X pins H h1.objs.size:=J.vt (aq _) zG;have Uw:X.fj.heap.objs.size<=h1.objs.size:=J.sz;have Hn:h1.objs.size≠X.env.locals:=ef J.lt;have Lc:(h1.push (seqObj "list" us.toArray 0)).Ns X.env.locals m:=by
  obtain⟨o,es,vo,ho,r'⟩:=uH;exact⟨o,es,vo,aB _ (v9 _ _ ho),r'⟩
 refine Cu (s:={s with heap:=h1.push (seqObj "list" us.toArray 0),toks:=tk,drawn:=d}) (ks:=ks) (by show X.A.units+1+1<cLine;omega) Lc Hn zZ hl (fun i v k e1 e2=>(ht i v k e1 e2).keep fun b o _ _ _ _ e=>aB _ (v9 b o e)) zF yJ fun h' c kp HZ hD=>hP _ ?_
 have Ux:∀b o,s.heap.get? b=some o->b<h1.objs.size:=fun b o e=>az (v9 b o e);have I1:Inv X pins σ H {s with heap:=h',toks:=tk}:=I.xK uH HZ fun b o n e=>kp b o n (bo (Ux b o e)) (aB _ (v9 b o e));have Ys:vs.length=us.length:=rv.length;have I2:=I1.adopt (o:=.lst ((cz ks).map fun i=>vs.getD i .dv)) Uw ⟨zG,Uv.2⟩ ⟨by rw[ak,(di ks).length_eq,iy,bT];omega,_,c,qF fun i hi=>?_,hD⟩
 ·exact⟨.ref h1.objs.size,_,I2.AD d,rfl,q _ zG⟩
 ·have NU:=c_ hi;have PD:i<vs.length:=by omega
  obtain⟨u,eu,ru⟩:=rv.get (ay PD);rw[bz,bz,eu,ay PD];exact ru
end
end L2
namespace L2
open PySem PySem.Spec PySem.Calls PyProof.Rows
def o4(xs:List (Tr×Addr)):List (Tr×Addr):=xs.foldl lY []
theorem EC(xs:List (Tr×Addr))(p:Tr×Addr):o4 (xs++[p])=lY (o4 xs) p:=by
 unfold o4;rw[rq];rfl
theorem v_:∀{xs:List (Tr×Addr)} {p:Tr×Addr},p∈o4 xs->p∈xs:=by
 have gen:∀(xs acc:List (Tr×Addr)) (p:Tr×Addr),p∈xs.foldl lY acc->p∈acc\/p∈xs:=by
  intro xs
  induction xs with
  |nil=>intro acc p m;exact .inl m
  |cons x xs ih=>
   intro acc p m;rcases ih _ p m with m|m
   ·unfold lY at m;split at m
    ·exact .inl m
    ·rcases bF.mp m with m|m
     ·exact .inl m
     ·rw[cn.mp m];exact .inr (aP ..)
   ·exact .inr (aO _ m)
 intro xs p m;rcases gen xs [] p m with m|m
 ·cases m
 ·exact m
section
variable {prog:Program}{w:World}{A:Around}{R:Result->Shared->Prop}{I S:Addr}{fp:List Addr}{n:Nat}{P:Nat->Value->Prop}{St:Nat->Heap->Prop}
theorem Cv(hu:A.units+4<cLine)(W:Walks prog w A.in1 I fp [I] n P St)(RG:S∉fp)(val:Nat->Tr×Addr)(Ld:∀i v,P i v->v=.ref (val i).2)(hn:∀i,i<=n->(o4 ((List.range i).map val)).length<=18){h0:Heap}(Uy:h0.get? S=none)(TX:h0.get? I=none)
  (IE:∀i,i<n->NV h0 3 (val i).1 (.ref (val i).2)):
  ∀(k i:Nat) (s:Shared),n - i=k->i<=n->St i s.heap->(∀b o,h0.get? b=some o->s.heap.get? b=some o)->uq w s.heap S (o4 ((List.range i).map val))->
   (∀h' tk,(∀b o,b≠S->b≠I->s.heap.get? b=some o->h'.get? b=some o)->uq w h' S (o4 ((List.range n).map val))->R (.ok (.ret .none)) {s with heap:=h',toks:=tk})->
   codeAny (model prog w) A (.builtin "set.update.loop" ⟨[.ref S,.ref I],[]⟩) R s:=by
 have Yu:I∈fp:=W.sub I (by simp);have V3:S≠I:=fun e=>RG (e▸Yu);have nS:∀{b:Addr} {o:Obj},h0.get? b=some o->b≠S:=fun{b o} e z=>by rw[z,Uy]at e;cases e
 have nI:∀{b:Addr} {o:Obj},h0.get? b=some o->b≠I:=fun{b o} e z=>by rw[z,TX]at e;cases e
 intro k
 induction k with
 |zero=>
  intro i s hk hi eJ V4 hS hR;have iT:i=n:=by omega
  subst iT;refine fP F.entry_set_update_loop ?_
  rw[gA rA _];show wpAny _ A.in1 (pyNext (.ref I)>>=_) _ _ s;refine aa (W.done s _ _ eJ fun h' tk kk=>?_);show wpAny _ A.in1 (ret Value.none) _ _ _;exact af (hR h' tk (fun b o _ h2 e=>kk b o (by simpa using h2) e) (hS.keep fun o e=>kk S o (by simpa using V3) e))
 |succ k ih=>
  intro i s hk hi eJ V4 hS hR;have dO:i<n:=by omega
  refine fP F.entry_set_update_loop ?_
  rw[gA rA _];show wpAny _ A.in1 (pyNext (.ref I)>>=_) _ _ s;refine aa (W.item i s _ _ dO eJ fun v h1 qE hP Uz kk=>?_);have ev:=Ld i v hP;subst ev;have V5:∀b o,h0.get? b=some o->h1.get? b=some o:=fun b o e=>kk b o (by simpa using nI e) (V4 b o e);have T':uq w h1 S (o4 ((List.range i).map val)):=hS.keep fun o e=>kk S o (by simpa using V3) e;have IY:∀j,j<n->NV h1 3 (val j).1 (.ref (val j).2):=fun j hj=>(IE j hj).keep fun b o _ _ _ _ e=>V5 b o e;have er:o4 ((List.range (i+1)).map val)=lY (o4 ((List.range i).map val)) (val i):=by rw[List.range_succ,dZ];exact EC _ _
  show wpAny _ A.in1 (holding [.ref (val i).2] (setAdd S (.ref (val i).2))>>=_) _ _ _;refine aa (cu ?_);unfold setAdd;refine cu ?_
  refine aa (AS (d:=3) (s:={s with heap:=h1,toks:=qE}) (by show A.units+1+3<cLine;omega) (IY i dO) fun RA=>?_);refine Pm (s:={s with heap:=h1,toks:=RA}) (by show A.units+1+3<cLine;omega) T' (by rw[show((val i).1,(val i).2)=val i from rfl,<-er];exact hn (i+1) dO) (IY i dO) (fun p hp=>?_) fun h2 r sb V6=>?_
  ·obtain⟨j,hj,rfl⟩:=bp.mp (v_ hp);exact IY j (kq (cI.mp hj) dO)
  have Kz:∀b o,b≠S->h1.get? b=some o->h2.get? b=some o:=fun b o hb e=>(sb.2 b hb).trans e;rw[show((val i).1,(val i).2)=val i from rfl,<-er]at V6;refine af ⟨fq rA _,ih (i+1) _ (by omega) dO (W.frame _ _ _ Uz fun b hb o e=>Kz b o (fun z=>RG (z▸hb)) e) (fun b o e=>Kz b o (nS e) (V5 b o e)) V6 fun h' tk Yv Le=>?_⟩;exact hR h' tk (fun b o uk Dx e=>Yv b o uk Dx (Kz b o uk (kk b o (by simpa using Dx) e))) Le
end
end L2
namespace PySem
section
variable {prog:Program}{w:World}{A:Around}{E:Value->Shared->Prop}{s:Shared}
set_option maxHeartbeats 3200000 in
theorem ED{l:Addr}{items:Array Value}{val:Nat->L2.Tr×Addr}{Q:Value->Shared->Prop}(hu:A.units+8<cLine)(hh:A.handled=none)(hl:s.heap.IsTuple l items)(hv:∀(i:Nat) (v:Value),items[i]?=some v->v=.ref (val i).2)(hn:∀i,i<=items.size->(L2.o4 ((List.range i).map val)).length<=18)
  (IE:∀i,i<items.size->L2.NV s.heap 3 (val i).1 (.ref (val i).2))
  (h:∀(h':Heap) (tk:Nat),L2.uq w h' s.heap.objs.size (L2.o4 ((List.range items.size).map val))->(∀b o,b<s.heap.objs.size->s.heap.get? b=some o->h'.get? b=some o)->Q (.ref s.heap.objs.size) {s with heap:=h',toks:=tk}):
  wpAny (model prog w) A (call (.type "set") [.ref l]) Q E s:=by
 obtain⟨c,tl,Yw⟩:=fY.mro;have V7:=fY.made;have Oq:=fY.sub;refine wpAny_call (codeAny_of_tree ?_);show wpAny _ _ (callAny (.type "set") _) _ _ _;refine af ⟨Code.quiet_builtin _ (by decide+kernel),fP F.entry_type_call ?_⟩;rw[Around.under_plain (weight_type_call_type "set" [.ref l] []) rfl];have h1:=fY.notType;have h2:=fY.canCreate;have Zy:=F.typeCall_set_1 (.ref l)
 repeat(any_goals (first|assumption|wp_step))
 refine g8 (D4 (.ref l) (E:=E) (Q₁:=fun obj bZ=>obj=.ref s.heap.objs.size/\bZ={s with heap:=s.heap.push {cls:=.type "set",dict:=none,data:=.set #[] 0 (.fresh 0 0 (!L2.wK w))}}) ⟨rfl,rfl⟩) fun r bZ hr=>?_
 cases r with
 |error e=>exact hr
 |ok fl=>
  cases fl with
  |ret obj=>
   obtain⟨rfl,rfl⟩:=hr;generalize UA:({cls:=.type "set",dict:=none,data:=.set #[] 0 (.fresh 0 0 (!L2.wK w))}:Obj)=ob;have hS:(s.heap.push ob).get? s.heap.objs.size=some ob:=aQ _ (by rw[<-UA];rfl);have hT:Shared.TypeIs {s with heap:=s.heap.push ob} (.ref s.heap.objs.size) "set":=⟨_,hS,by rw[<-UA]⟩;have TZ:=fY.init.lookup;have Zz:=fY.init.bind (.ref s.heap.objs.size)
   repeat(any_goals (first|assumption|wp_step))
   refine g8 (codeAny_call_builtin (R:=wants (fun r oF=>r=.none/\∃h' tk,oF={s with heap:=h',toks:=tk}/\L2.uq w h' s.heap.objs.size (L2.o4 ((List.range items.size).map val))/\
     (∀b o,b<s.heap.objs.size->s.heap.get? b=some o->h'.get? b=some o)) E) fY.init.plain F.entry_set_init (check_set_init_1 hT ?_)) fun UB oF EE=>?_
   ·obtain⟨ol,V8,yZ,nl,V9⟩:=hl;obtain⟨Yx,PJ,V_,Lf⟩:=ol;simp only at yZ V9;subst yZ;subst V9;have UC:(s.heap.push ob).get? l=some {cls:=.type "tuple",dict:=PJ,data:=.seq items nl,slots:=Lf}:=aB _ V8;have Yy:=F.sub_tuple_set;have Yz:=F.sub_tuple_frozenset;have YA:(Value.type "tuple"==Value.type "dict")=false:=by decide
    have RH:(s.heap.push ob).IsTuple l items:=⟨_,UC,rfl,nl,rfl⟩;subst UA;unfold Builtin.«set.__init__» noKeywords Builtin.Frozenset.updateFrom;generalize YB:pyIter=PI
    wp_walk
    subst YB;refine mZ RH ?_
    refine aa (wpAny_runValue ?_);have V':l<s.heap.objs.size:=az V8;have YC:A.in1.in1.in1.handled=none:=by simp[hh]
    generalize hsz:(s.heap.push {cls:=.type "set",dict:=none,data:=.set #[] 0 (.fresh 0 0 (!L2.wK w))}).objs.size=I at*;have Hq:I=s.heap.objs.size+1:=by rw[<-hsz,Heap.size_push]
    have UD:l≠I:=by rw[Hq];exact bo (i3 V')
    have RG:s.heap.objs.size∉[I,l]:=by
     simp only[a8,rK,or_false,not_or];exact⟨by rw[Hq];exact bo (i7 _),ef V'⟩
    refine L2.Cv (h0:=s.heap) (by show A.units+1+1+4<cLine;omega) (Walks.tuple YC I l UD items) RG val hv hn (rl (aq _)) (rl (by rw[Hq];exact kB _)) IE (items.size - 0) 0 _ (by omega) (bK _) ⟨⟨_,by rw[<-hsz];exact aQ _ rfl,rfl,rfl⟩,RH.push _⟩ (fun b o e=>aB _ (aB _ e)) ?Uy ?hR
    case Uy=>
     refine⟨_,#[],0,.fresh 0 0 (!L2.wK w),aB _ hS,⟨rfl,rfl,rfl⟩,rfl,List.Perm.refl _,⟨rfl,.inl rfl,(fun x hx=>by cases hx),rfl,(show 0*5<7*3 by decide),List.Pairwise.nil⟩,?_,(fun p hp=>by cases hp)⟩;show L2.wK w=true\/(!L2.wK w)=true;cases L2.wK w<;>simp
    case hR=>
     intro h' tk hk Le;show wpAny _ _ _ _ _ _;refine af ?_
     show wpAny _ _ (ret Value.none) _ _ _;refine af ⟨rfl,h',tk,rfl,Le,fun b o hb e=>?_⟩;exact hk b o (bo hb) (by rw[Hq];exact bo (i3 hb)) (aB _ (aB _ e))
   ·cases UB with
    |error e=>exact EE
    |ok PK=>
     cases PK with
     |ret r=>
      obtain⟨rfl,h',tk,rfl,Le,zD⟩:=EE
      repeat(any_goals (first|assumption|wp_step))
      exact h _ _ Le zD
     |_=>exact EE.elim
  |_=>exact hr.elim
end
end PySem
namespace L2
open PySem PySem.Spec PySem.Calls PyProof.Rows
def kt:Nat->Tr->Bool
 |_,.int _=>true
 |d+1,.tup ts=>ts.all (kt d)
 |_,_=>false
def jA:Tr->List Int
 |.tup [.tup [.int a,.int b],.tup _]=>[a,b]
 |_=>[]
def EF(us:List Tr)(t:Tr):List Tr:=if(us.any fun y=>eqT y t)=true then us else us++[t]
def FT(ts:List Tr):List Tr:=ts.foldl EF []
def jY(ts:List Tr):List Tr:=ts.mergeSort fun a b=>lN (jA a) (jA b)
def ML(ts:List Tr):Bool:=(ts.all fun t=>kt 3 t&&(jA t).length==2)&&(decide ((FT ts).length<=18)&&decide (((FT ts).map jA).Nodup))
def gj:Tr->Rs Tr
 |.tup ts=>if ML ts=true then .ok (.lst (jY (FT ts)))else .bad
 |_=>.bad
theorem Lg(tl:List (Tr×Addr)):(o4 tl).map (·.1)=FT (tl.map (·.1)):=by
 have gen:∀(tl acc:List (Tr×Addr)),(tl.foldl lY acc).map (·.1)=(tl.map (·.1)).foldl EF (acc.map (·.1)):=by
  intro tl
  induction tl with
  |nil=>intro acc;rfl
  |cons p tl ih=>
   intro acc;rw[fU,ih,aC,fU];congr 1;unfold lY EF;rw[kz];show(if(acc.any fun y=>eqT y.1 p.1)=true then acc else acc++[p]).map (·.1)=if(acc.any fun y=>eqT y.1 p.1)=true then _ else _
   split
   ·rfl
   ·rw[dZ];rfl
 exact gen tl []
theorem Hr(tl:List (Tr×Addr))(i:Nat):(o4 (tl.take i)).length<=(o4 tl).length:=by
 have grow:∀(xs acc:List (Tr×Addr)),acc.length<=(xs.foldl lY acc).length:=by
  intro xs
  induction xs with
  |nil=>intro acc;exact aq _
  |cons x xs ih=>
   intro acc;refine aZ ?_ (ih _)
   unfold lY;split
   ·exact aq _
   ·rw[aY];omega
 have e:o4 tl=(tl.drop i).foldl lY (o4 (tl.take i)):=by
  unfold o4;rw[<-rq,List.take_append_drop]
 rw[e];exact grow _ _
theorem EG{ts:List Tr}(nd:(ts.map jA).Nodup){a b:Tr}(ha:a∈ts)(hb:b∈ts)(e:jA a=jA b):a=b:=by
 obtain⟨i,hi⟩:=dI ha;obtain⟨j,hj⟩:=dI hb;obtain⟨Pz,La⟩:=cb.mp hi;obtain⟨Uu,PC⟩:=cb.mp hj;have q:(ts.map jA)[i]'(by rw[ak];exact Pz)=(ts.map jA)[j]'(by rw[ak];exact Uu):=by
  rw[gG,gG,La,PC,e]
 have z:=(gW nd).mp q;subst z;rw[<-La,<-PC]
theorem mw(ts:List Tr):(jY ts).Pairwise fun a b=>lN (jA a) (jA b)=true:=iu (le:=fun a b=>lN (jA a) (jA b)) (fun a b c h1 h2=>fh h1 h2) (fun a b=>fi _ _) _
theorem zH{ts us:List Tr}(nd:(ts.map jA).Nodup)(p:us.Perm ts):jY us=jY ts:=by
 have hp:(jY us).Perm ts:=(cA _ _).trans p;have Dt:(jY ts).Perm ts:=cA _ _;exact jC (le:=fun a b=>lN (jA a) (jA b)=true) (fun a b ha hb h1 h2=>EG nd (hp.mem_iff.mp ha) (Dt.mem_iff.mp hb) (gi h1 h2)) (mw _) (mw _) (hp.trans Dt.symm)
theorem EH{ts:List Tr}(nd:(ts.map jA).Nodup):(cz (ts.map jA)).map (fun i=>ts.getD i .dv)=jY ts:=by
 have hp:((cz (ts.map jA)).map fun i=>ts.getD i .dv).Perm ts:=by
  have q:=(di (ts.map jA)).map fun i=>ts.getD i .dv;rw[ak,dP]at q;exact q
 have Dt:(jY ts).Perm ts:=cA _ _;refine jC (le:=fun a b=>lN (jA a) (jA b)=true) (fun a b ha hb h1 h2=>EG nd (hp.mem_iff.mp ha) (Dt.mem_iff.mp hb) (gi h1 h2)) ?_ (mw _) (hp.trans Dt.symm)
 rw[j8];refine(lh (ts.map jA)).imp_of_mem fun{i j} hi hj e=>?_
 have jq:=c_ hi;have yk:=c_ hj;rw[ak]at jq yk;rw[bz,bz,aL,aL,ay jq,ay yk]at e;rw[bz,bz,ay jq,ay yk];exact e
theorem yn{α:Type}:∀(ys:List Addr) (zs:List (α×Addr)),ys.Perm (zs.map (·.2))->∃tl:List (α×Addr),tl.map (·.2)=ys/\tl.Perm zs
 |[],zs,h=>by have:=h.length_eq;rw[ak]at this;cases zs with|nil=>exact⟨[],rfl,.refl _⟩|cons _ _=>cases this
 |y::ys,zs,h=>by
  obtain⟨z,hz,rfl⟩:=bp.mp (h.mem_iff.mp (aP ..));obtain⟨i,hi,ei⟩:=List.getElem_of_mem hz;have pe:=jK zs i hi;have h2:(z.2::ys).Perm (z.2::(zs.eraseIdx i).map (·.2)):=by
   refine h.trans ?_
   have:=(pe.map (·.2)).symm;rw[aC,ei]at this;exact this
  obtain⟨tl,e1,e2⟩:=yn ys _ (List.Perm.cons_inv h2);refine⟨z::tl,by rw[aC,e1],?_⟩;rw[ei]at pe;exact(List.Perm.cons z e2).trans pe
section
variable {X:Cx}{pins:List (Addr×Obj)}{σ:St}{H:Hp}{s:Shared}{B:bN}
theorem EI(I:Inv X pins σ H s):∀{d:Nat} {t:Tr} {v:V} {u:Value},kt d t=true->Rep X.K (aN B H) v t->RelV v u->NV s.heap d t u
 |0,t,v,u,k,r,rv=>by
  unfold kt at k;split at k
  ·cases r.int_inv;obtain⟨w,rfl⟩:=rv;exact⟨_,w,rfl,rfl⟩
  ·rename_i e;exact absurd e (Nat.succ_ne_zero _).symm
  ·cases k
 |d+1,t,v,u,k,r,rv=>by
  unfold kt at k;split at k
  ·cases r.int_inv;obtain⟨w,rfl⟩:=rv;exact .inl ⟨_,w,rfl,rfl⟩
  ·rename_i ts e;cases e;obtain⟨a,us,rfl,hq,rr⟩:=r.fJ;cases(show u=Value.ref a from rv);obtain⟨aV,CU,⟨o,h1,h2,n,h3⟩,_⟩:=I.tuple (.inl (.inl (aK _ _ hq)));refine .inr ⟨ts,a,o,aV.toArray,n,rfl,rfl,h1,h2,h3,by rw[<-rr.length,CU.length,aS],fun i t v e1 e2=>?_⟩;obtain⟨v',ev,rp⟩:=rr.get e1;obtain⟨u',eu,ru⟩:=CU.get ev;rw[List.getElem?_toArray,eu]at e2;cases e2;exact EI I (bA.mp k t (bg e1)) rp ru
  ·cases k
theorem EJ{t:Tr}(h:((jA t).length==2)=true):∃a b bs,t=.tup [.tup [.int a,.int b],.tup bs]:=by
 unfold jA at h;split at h
 ·exact⟨_,_,_,rfl⟩
 ·cases h
theorem Lh(I:Inv X pins σ H s){t:Tr}{v:V}{u:Value}(k:((jA t).length==2)=true)(r:Rep X.K (aN B H) v t)(rv:RelV v u):TL s.heap u (jA t):=by
 obtain⟨a,b,bs,rfl⟩:=EJ k;obtain⟨ad,us,rfl,hq,rr⟩:=r.fJ;cases(show u=Value.ref ad from rv);obtain⟨x1,x2,rfl,r1,r2⟩:=Ag rr;obtain⟨aV,CU,⟨o,h1,h2,n,h3⟩,_⟩:=I.tuple (.inl (.inl (aK _ _ hq)));obtain⟨u1,u2,rfl,e1,e2⟩:=vals2 CU;exact⟨ad,o,n,u1,u2,a,b,rfl,h1,h2,h3,rfl,qG I r1 e1⟩
theorem Cw(hu:X.A.units+8<cLine)(hc:X.calm=true):jT X (.type "set") (fun xs H Q=>∃(p:Addr) (tl:List (Tr×Addr)) (B:bN),xs=[.ref p]/\kG X.K H p (tl.map fun t=>V.ref t.2)/\(∀t∈tl,kt 3 t.1=true/\Rep X.K (aN B H) (.ref t.2) t.1)/\(o4 tl).length<=18/\∀a,H a=none->Q (.ref a) (upd H a (AX X.w a ((o4 tl).map fun t=>Value.ref t.2)))):=by
 intro pins s σ H xs us Q I r h;obtain⟨p,ts,B,rfl,hl,hk,hb,q⟩:=h;obtain⟨u,rfl,ru⟩:=vals1 r;cases(show u=Value.ref p from ru);obtain⟨aV,rv,pl,hz⟩:=I.tuple hl;have hlen:aV.length=ts.length:=by have e:=rv.length;rw[ak]at e;exact e.symm
 have hsz:aV.toArray.size=ts.length:=by rw[aS];exact hlen
 have gd:∀i (hi:i<ts.length),ts.getD i (.dv,0)=ts[i]:=fun i hi=>by rw[bz,ay hi];rfl
 have Wa:∀i,i<=ts.length->(List.range i).map (fun i=>ts.getD i (.dv,0))=ts.take i:=fun i hi=>by
  refine i5 (by simp;omega) fun j h1 h2=>?_
  rw[gG,List.getElem_range,List.getElem_take,gd]
 refine ED (val:=fun i=>ts.getD i (.dv,0)) hu (I.ok.hd hc) pl (fun i v hv=>?_) (fun i hi=>?_) (fun i hi=>?_) fun h' tk hS v9=>?_
 ·have Wb:aV[i]?=some v:=by simpa using hv
  have hi:i<ts.length:=by rw[<-hlen];exact(cb.mp Wb).1
  obtain⟨u,FQ,ru⟩:=rv.get (i:=i) (x:=V.ref ts[i].2) (by rw[aL,ay hi];rfl);rw[Wb]at FQ;cases FQ;rw[gd i hi];exact ru
 ·rw[hsz]at hi;rw[Wa i hi];exact aZ (Hr ts i) hb
 ·rw[hsz]at hi;rw[gd i hi];obtain⟨k1,k2⟩:=hk _ (gZ hi);exact EI I k1 k2 rfl
 ·rw[hsz,Wa _ (aq _),rJ]at hS;have hV:p8 X.w h' s.heap.objs.size ((o4 ts).map fun t=>Value.ref t.2):=by
   obtain⟨o,es,ep,t,ho,hex,hd,hp,tk,hl,_⟩:=hS;refine⟨o,es,ep,t,es.toList,ho,hex,hd,(sR _).symm,?_,trivial,?_,tk.fits,hl,tk.rise⟩
   ·have q:=hp.map (·.2);rw[bG]at q;exact q
   ·have:=tk.Ry;rcases tk.ms with e|e<;>rw[e]at this<;>(show es.size<4096;omega)
  have hf:H s.heap.objs.size=none:=I.fresh;refine⟨.ref s.heap.objs.size,_,I.laid (o:=AX X.w s.heap.objs.size ((o4 ts).map fun t=>Value.ref t.2)) (fun b o e=>v9 b o (az e) e) (aq _) ⟨hV,?_,fun h1 h2 x k=>p8.keep x k⟩,rfl,q _ hf⟩;obtain⟨o,_,_,_,_,ho,_⟩:=hV;exact⟨o,ho⟩
theorem p9(hu:X.A.units+6<cLine)(hc:X.calm=true):jT X (.builtin "sorted") (fun xs H Q=>∃(a:Addr) (ts:List (Tr×Addr)) (B:bN),xs=[.ref a]/\H a=some (AX X.w a (ts.map fun t=>Value.ref t.2))/\(∀t∈ts,((jA t.1).length==2)=true/\Rep X.K (aN B H) (.ref t.2) t.1)/\((ts.map (·.1)).map jA).Nodup/\ts.length<64/\
  ∀(D:Addr) (tl:List (Tr×Addr)),H D=none->tl.Perm ts->Q (.ref D) (upd H D (.lst ((cz ((tl.map (·.1)).map jA)).map fun i=>(tl.map fun t=>V.ref t.2).getD i .dv)))):=by
 intro pins s σ H xs us Q I r h;obtain⟨a,ts,B,rfl,ha,hk,nd,yJ,q⟩:=h;obtain⟨u,rfl,ru⟩:=vals1 r;cases(show u=Value.ref a from ru);obtain⟨hS,_,_⟩:=(show bY X.prog X.w H s.heap a (.ext fun h=>p8 X.w h a (ts.map fun t=>Value.ref t.2))from I.bV a _ ha);refine call_function_entry kind_sorted plain_sorted entry_sorted (args_sorted1 _) ?_
 unfold Builtin.«sorted»;refine aa (m:=checkCount "sorted" 1 1 _) (af ?_);refine aa (vZ (A:=X.A.in1) (I.ok.hd hc) hS (by rw[ak,bT];omega) fun h1 tk d l hp v9 hle=>?_);have pq:(l.map uo).Perm (ts.map fun t=>Value.ref t.2):=hp;obtain⟨oN,e',Po⟩:=perm_back (f:=fun v:Addr=>Value.ref v) (fun v=>match v with|.ref x=>x|_=>0) (fun _=>rfl) (l:=ts.map (·.2)) (es:=l.map uo) (by rw[bG];exact pq);obtain⟨tl,et,PL⟩:=yn oN ts Po;have qH:l.map uo=(tl.map (·.2)).map Value.ref:=by rw[e',et]
 have Li:(l.map uo).length=tl.length:=by rw[qH,ak,ak]
 have Wc:((tl.map (·.1)).map jA).Nodup:=(ra ((PL.map _).map _)).mpr nd;have PM:tl.length<64:=by rw[PL.length_eq];exact yJ
 refine aa (jd ?_ (by rw[Li,bT];omega));have zZ:(h1.push (seqObj "list" (l.map uo).toArray 0)).get? h1.objs.size=some (seqObj "list" (l.map uo).toArray 0):=aQ _ rfl;have uY:Vals (tl.map fun t=>V.ref t.2) (l.map uo):=by
  rw[qH]
  clear qH Li Wc PM et PL
  induction tl with
  |nil=>exact .nil
  |cons t tl ih=>exact .cons rfl ih
 refine aa (cu (dM slot_list_sort ⟨_,zZ,rfl⟩ nk (ym (Q:=Q) (tk:=tk) (d:=d) (by omega) I v9 uY (ks:=(tl.map (·.1)).map jA) (by rw[Li,ak,ak]) (fun i v k e1 e2=>?_) Wc (by rw[ak,ak];exact PM) (fun D hD=>q D tl hD PL) fun s' he=>⟨_,rfl,af ⟨_,rfl,he⟩⟩) (args_list_sort _)));rw[qH,aL,aL]at e1;rw[aL,aL]at e2;cases eq:tl[i]? with
 |none=>rw[eq]at e2;cases e2
 |some t=>
  rw[eq]at e1 e2;cases e1;cases e2;obtain⟨h2,h3⟩:=hk t (PL.mem_iff.mp (bg eq));exact Lh I h2 h3 rfl
theorem AY{K:PySem.W.Frag}{B:bN}{H:Hp}:∀{vs:List V} {ts:List Tr},aJ K (aN B H) vs ts->(∀t∈ts,((jA t).length==2)=true)->∃tl:List (Tr×Addr),vs=(tl.map fun t=>V.ref t.2)/\tl.map (·.1)=ts/\∀t∈tl,t.1∈ts/\Rep K (aN B H) (.ref t.2) t.1
 |[],_,r,_=>by cases r;exact⟨[],rfl,rfl,fun t m=>nomatch m⟩
 |v::vs,t::ts,r,hk=>by
  cases r with
  |cons h r=>
   obtain⟨tl,e1,e2,e3⟩:=AY r fun t m=>hk t (aO _ m);obtain⟨a,b,bs,rfl⟩:=EJ (hk t (aP ..));obtain⟨ad,us,rfl,hq,rr⟩:=h.fJ;refine⟨(_,ad)::tl,by rw[e1];rfl,by rw[aC,e2],fun t m=>?_⟩;rcases a8.mp m with rfl|m
   ·exact⟨aP ..,h⟩
   ·exact⟨aO _ (e3 t m).1,(e3 t m).2⟩
end
section
variable {X:Cx}{l:Expr}{p1 p2 PN PQ:Pos}{F:av->Rs Tr}
theorem Hs(hu:X.A.units+8<cLine)(hs:X.mg "sorted"=none)(hm:X.mg "set"=none)(hl:PE X l (tP X F))(hc:X.calm=true:=by rfl) (hg:Gl X "sorted":=by rfl) (Pr:Gl X "set":=by rfl) (eJ:bx [l]=true:=by rfl):
  PE X (.Call (.Name "sorted" p1) [.Call (.Name "set" p2) [l] [] PQ] [] PN) (tP X fun ρ=>(F ρ).bind gj):=
 (xb (p9 (by omega) hc) hg hs rfl (lE (jg (Cw hu hc) Pr hm rfl (lE hl oJ (bC _ _ (aU eJ).1)) (by decide) (by decide) (bC _ _ (aU eJ).1) (cx (aU eJ).2)) oJ (bC _ _ rfl)) (by decide) (by decide) (bC _ _ rfl) (cx (es:=[]) rfl)).weak fun σ H Q ⟨B,ρ,hb,r,q⟩=>⟨B,ρ,hb,r,q.bind.mono fun t qt v H1 s1 rv=>by
  have key:∃ts,t=.tup ts/\ML ts=true/\∀v H',aw H H'->Rep X.K (aN B H') v (.lst (jY (FT ts)))->Q v H':=by
   unfold gj at qt;split at qt
   ·obtain⟨h0,z⟩:=eV qt;exact⟨_,rfl,h0,z⟩
   ·exact qt.elim
  obtain⟨ts,rfl,ok,k⟩:=key;unfold ML at ok;rw[aE,aE,cp,cp,bA]at ok;obtain⟨We,Wf,UE⟩:=ok;obtain⟨a,vs,rfl,h,rr⟩:=rv.fJ;obtain⟨tl,ev,et,er⟩:=AY rr fun t m=>by have q:=We t m;rw[aE]at q;exact q.2
  have lU:∀t∈tl,kt 3 t.1=true/\((jA t.1).length==2)=true:=fun t m=>by have q:=We _ (er t m).1;rw[aE]at q;exact q
  have UG:(o4 tl).map (·.1)=FT ts:=by rw[Lg,et]
  have YD:(o4 tl).length<=18:=by rw[<-UG,ak]at Wf;exact Wf
  refine⟨a,tl,B,rfl,.inl (.inl (by rw[<-ev];exact aK _ _ h)),fun t m=>⟨(lU t m).1,(er t m).2⟩,YD,fun sa Pq=>⟨sa,o4 tl,B,rfl,aH ..,fun t m=>?_,by rw[UG];exact UE,by omega,fun D us hD hp=>?_⟩⟩
  ·have m:=v_ m;exact⟨(lU t m).2,(er t m).2.same (aT (aw.upd Pq))⟩
  ·have s2:aw H1 (upd H1 sa (AX X.w sa ((o4 tl).map fun t=>Value.ref t.2))):=aw.upd Pq;refine k _ _ ((s1.trans s2).trans (aw.upd hD)) (.vI ((hb.same s1).same s2) hD ?_);have Wg:(us.map (·.1)).Perm (FT ts):=by rw[<-UG];exact hp.map _
   have YE:((us.map (·.1)).map jA).Nodup:=(ra (Wg.map _)).mpr UE;rw[<-zH UE Wg,<-EH YE];refine qz fun i hi=>?_
   have hit:=c_ hi;rw[ak,ak]at hit;rw[bz,bz,aL,aL,ay hit];exact(er _ (v_ (hp.mem_iff.mp (gZ hit)))).2.same (aT s2)⟩
theorem Ht(hu:X.A.units+8<cLine)(hs:X.mg "sorted"=none)(hm:X.mg "set"=none)(hl:QE X l F)(hc:X.calm=true:=by rfl) (hg:Gl X "sorted":=by rfl) (Pr:Gl X "set":=by rfl) (eJ:bx [l]=true:=by rfl):
  QE X (.Call (.Name "sorted" p1) [.Call (.Name "set" p2) [l] [] PQ] [] PN) (fun ρ=>(F ρ).bind gj):=⟨Hs hu hs hm hl.h hc hg Pr eJ⟩
end
end L2
namespace L2
open PySem PySem.Spec PySem.Calls PyProof.Rows
section
variable {prog:Program}{w:World}
theorem Cy{A:Around}(hh:A.handled=none)(I d:Addr)(f':d≠I){o:Obj}{es:Array DictEntry}{ep:Nat}(hd:o.data=.dict es ep):
  Walks prog w A I [I,d] [I] es.size (fun i v=>∃e,es[i]?=some e/\v=e.key) (fun i h=>h.IsKeyIter I d i es.size ep/\h.get? d=some o) where
 sub:=fun b hb=>by simp at hb;simp[hb]
 frame:=fun _ _ _ st hk=>⟨st.1.at fun o e=>hk I (by simp) o e,hk d (by simp) _ st.2⟩
 item:=fun i s Q E hi st hQ=>by
  refine xV st.1 st.2 hd hi fun h' T1 sb=>?_
  exact hQ _ h' s.toks ⟨es[i],bP hi,rfl⟩ ⟨T1,(sb.2 d f').trans st.2⟩ fun b o hb e=>sb.extBut b o (fun h=>hb (by simp[h])) e
 done:=fun s Q E st hQ=>AJ hh st.1 st.2 hd (aq _) fun h' eb=>hQ h' s.toks fun b o hb e=>eb b o (fun h=>hb (by simp[h])) e
 self:=fun _ _ _ _ st hQ=>wpAny_pyIter_keyiter st.1 hQ
theorem EK{d:Addr}{o:Obj}{es:Array DictEntry}{ep:Nat}(lo:(d==sysModules)=false)(hc:o.cls=.type "dict")(hd:o.data=.dict es ep):PySem.W.KdlSrc prog w "dict" d d es.size (fun i v=>∃e,es[i]?=some e/\v=e.key) (fun h=>h.get? d=some o) where
 type:=fun _ hm=>⟨o,hm,hc⟩
 there:=fun _ hm=>⟨az hm,az hm⟩
 keep:=fun _ _ hm hk=>hk d (.inl rfl) o hm
 notList:=by decide
 notTuple:=by decide
 hint:=fun _ _ _ _ hm hq=>PySem.W.kdl_hint_dict ⟨o,hm,hc⟩ hq
 iter:=fun _ _ hh hm=>⟨_,_,(fun _ _ hq=>xU ⟨o,hm,hc⟩ lo hm hd hq),Cy hh _ d (bo (az hm)) hd,⟨⟨_,aQ _ rfl,rfl,rfl⟩,aB _ hm⟩⟩
theorem jQ{A:Around}{E:Value->Shared->Prop}{s:Shared}{a:Addr}{o:Obj}{es:Array DictEntry}{ep:Nat}{R:List Value->Shared->Prop}(hh:A.handled=none)(lo:(a==sysModules)=false)(hm:s.heap.get? a=some o)(hc:o.cls=.type "dict")(hd:o.data=.dict es ep)(hn:es.size<=sizeLine)
  (h:∀(h':Heap) (tk:Nat),(∀b o,s.heap.get? b=some o->h'.get? b=some o)->R (es.toList.map (·.key)) {s with heap:=h',toks:=tk}):wpAny (model prog w) A (collect (.ref a)) R E s:=by
 have dO:a<s.heap.objs.size:=az hm;have items:∀(acc:Array Value),ItemsOf (fun i v=>∃e,es[i]?=some e/\v=e.key) acc es.size->acc.toList=es.toList.map (·.key):=fun acc hi=>by
  refine List.ext_getElem? fun i=>?_
  rw[aL,cf,cf];cases e:acc[i]? with
  |none=>
   have h1:acc.size<=i:=mK.mp e;rw[hi.1]at h1;rw[mK.mpr h1];rfl
  |some v=>
   obtain⟨x,ex,ev⟩:=hi.2 i v e;rw[ex,ev];rfl
 unfold collect;refine aa (wpAny_runValue (fP entry_proto_collect' ?_));rw[gA wR _];show wpAny _ A.in1 (newList []>>=fun l=>again (.builtin "list.__iadd__" ⟨[l,.ref a],[]⟩)) _ _ s;refine aa (cB ?_);refine af ⟨fq mM _,fP entry_list_iadd' ?_⟩;rw[gA mM _];have hL:(s.heap.push {cls:=.type "list",data:=.seq ([]:List Value).toArray}).get? s.heap.objs.size=some {cls:=.type "list",data:=.seq #[]}:=aQ _ rfl;show wpAny _ A.in1 (Builtin.List.listExtendWith (.ref s.heap.objs.size) (.ref a) (.ref s.heap.objs.size)) _ _ _;have key:=PySem.W.kdl_extend (prog:=prog) (w:=w) (A:=A) (s:={s with heap:=s.heap.push {cls:=.type "list",data:=.seq ([]:List Value).toArray}})
  (R:=fun(q:Result) (s':Shared)=>∃(h':Heap) (tk:Nat) (iq:Array Value) (c':Nat),q=.ok (.ret (.ref s.heap.objs.size))/\s'={s with heap:=h',toks:=tk}/\
   (∀b o,s.heap.get? b=some o->h'.get? b=some o)/\h'.get? s.heap.objs.size=some {cls:=.type "list",dict:=none,data:=.seq iq c',slots:=#[]}/\ItemsOf (fun i v=>∃e,es[i]?=some e/\v=e.key) iq es.size)
  (EK lo hc hd) hh (aB _ hm) s.heap.objs.size (ef dO) (ef dO) (.ref s.heap.objs.size) 0 hL
  (fun h' tk iq c' hk zC oW=>⟨h',tk,iq,c',rfl,rfl,fun b o e=>hk b o (bo (az e)) (aB _ e),zC,oW⟩) hn
 refine cT key (fun fin s' x=>?_) fun e s' x=>?_
 ·cases fin with
  |done f=>
   obtain⟨h',tk,iq,c',e,rfl,hk,zC,oW⟩:=x;cases e;show wpAny _ A (load s.heap.objs.size>>=_) _ _ _;refine aa (kC zC ?_);refine af ?_
   rw[items iq oW];exact h h' tk hk
  |again c₁=>
   refine⟨x.1,g8 x.2 fun q oF y=>?_⟩;obtain⟨h',tk,iq,c',rfl,rfl,hk,zC,oW⟩:=y;show wpAny _ A (load s.heap.objs.size>>=_) _ _ _;refine aa (kC zC ?_);refine af ?_
   rw[items iq oW];exact h h' tk hk
 ·obtain⟨_,_,_,_,e',_⟩:=x;cases e'
end
end L2
namespace L2
open PySem PySem.Spec PySem.Calls PyProof.Rows
theorem o5{prog:Program}{w:World}{h h':Heap}{d:Addr}{xs:List (List Key×Addr×Value)}(k:∀b o,h.get? b=some o->h'.get? b=some o)(x:h.DictOfH (tupleKind (aR prog w)) d xs):h'.DictOfH (tupleKind (aR prog w)) d xs:=by
 obtain⟨o,es,ep,e1,e2,e3,e4,e5,e6⟩:=x;exact⟨o,es,ep,k _ _ e1,e2,e3,e4,fun x hx=>iF (e5 x hx) h' k,e6⟩
abbrev Cz(d x:Str)(p1 p2 p3 p4 p5:Pos)(n1:Nat):Expr:=.Tuple [.Subscript (.Name d p1) (.Name x p2) p3,.Name x p4] n1 p5
structure EL(scope:Scope)(d x:Str):Prop where
 kind:scope.kind=.function
 co:scope.isCoroutine=false
 gen:scope.isGenerator=false
 lx:scope.names.lookup x=some .local
 ld:scope.names.lookup d=some .free
 vG:∀y∈scope.names,y.2≠ .cell
 dx:(x==("__debug__":Str))=false
 dd:(d==("__debug__":Str))=false
 dc:(d==("__classdict__":Str))=false
section
variable {prog:Program}{w:World}{A:Around}{E:Value->Shared->Prop}{s:Shared}
theorem EM{f c' cell da b:Addr}{nm qual:Str}{params:Arguments}{scope:Scope}{p_:List (Str×Addr)}{pm zI:Value}{d x:Str}{p1 p2 p3 p4 p5:Pos}{n1:Nat}{xs:List (List Key×Addr×Value)}{k:List Key}{pv:Addr×Value}{Q:Value->Shared->Prop}
  (hu:∀env:Env,(A.deeper env).units+1<cLine) (PR:A.depth<recursionLimit) (J2:s.heap.NoLimit)
  (ho:s.heap.get? f=some (PySem.W.kla_obj nm qual params (Cz d x p1 p2 p3 p4 p5 n1) scope p_ pm c' zI)) (pQ:s.heap.CodeRec (.ref c') qual)
  (hb:∀v,bindArgs (PySem.W.kla_fn nm qual params (Cz d x p1 p2 p3 p4 p5 n1) scope p_ pm (.ref c') zI) ⟨[v],[]⟩=pure [(x,v)]) (S:EL scope d x)
  (yZ:p_.lookup d=some cell) (Ld:s.heap.IsCell cell (some (.ref da))) (hm:s.heap.DictOfH (tupleKind (aR prog w)) da xs) (hk:(tupleKind (aR prog w)).is s.heap k b) (hp:atKey xs k=some pv)
  (h:∀h' tk tp,(∀b o,s.heap.get? b=some o->h'.get? b=some o)->s.heap.objs.size<=tp->h'.get? tp=some {cls:=.type "tuple",data:=.seq #[pv.2,.ref b]}->Q (.ref tp) {s with heap:=h',toks:=tk}):
  wpAny (model prog w) A (call (.ref f) [.ref b]) Q E s:=by
 refine wpAny_call (PySem.W.kla_callFunE PR ho rfl S.co S.gen rfl pQ ?_);rw[hb];refine af (wpAny_newFunctionEnv S.vG (fun y hy=>by rw[cn.mp hy];exact S.lx) (fun fH uH Dz=>?_) S.kind);have yo:∀b o,s.heap.get? b=some o->fH.get? b=some o:=fun b o e=>Dz.extBut b o (bo (az e)) (aB _ e);refine⟨J2.fresh _ Dz,?_⟩;have Lj:fH.Ns s.heap.objs.size (fun y=>[(x,Value.ref b)].reverse.lookup y):=uH;have Wh:[(x,Value.ref b)].reverse.lookup x=some (.ref b):=by simp
 have pk:fH.IsCell cell (some (.ref da)):=by obtain⟨o,e,r⟩:=Ld;exact⟨o,yo _ _ e,r⟩
 refine PySem.W.kla_codeExpr (wpAny_Tuple_spliced ?_);show wpAny _ _ (spliced ((false,eval (.Subscript (.Name d p1) (.Name x p2) p3) _)::backTo p5 (starEach [.Name x p4] _))) _ _ _;refine mX (Subscript_ ?_);refine g_ (wpAny_loadName_free S.kind S.ld yZ pk ?_ S.dc) S.dd;refine g_ (mT S.kind S.lx Lj Wh ?_) S.dx;refine tail_any (T:="dict") (o5 yo hm).typeIs qO.lookup (wpAny_getItem_heap (i4 (hu _)) (iF hk fH yo) (o5 yo hm) hp ?_) rfl;show wpAny _ _ (spliced ((false,eval (.Name x p4) _)::backTo p5 (starEach [] _))) _ _ _;refine mX (g_ (mT S.kind S.lx Lj Wh ?_) S.dx);refine rS ⟨by show 2<=sizeLine;decide,?_⟩;exact h _ _ fH.objs.size (fun b o e=>aB _ (yo b o e)) (fX (bQ (i7 _) (by obtain⟨o,es,ep,e,_⟩:=Lj;exact az e))) (aQ _ rfl)
end
end L2
namespace L2
open PySem PySem.Spec PySem.Calls PyProof.Rows
section
variable {prog:Program}{w:World}{A:Around}{E:Value->Shared->Prop}{s:Shared}
structure lO(s:Shared)(D kS e1:Nat)(ks:List (List Int))(kv:List Value)(h:Heap):Prop where
 old:∀b o,b≠D->s.heap.get? b=some o->h.get? b=some o
 d:h.get? D=some (seqObj "list" #[] e1)
 k:∃e,h.get? kS=some (seqObj "list" kv.toArray e)
 t:∀(i:Nat) (v:Value) (k:List Int),kv[i]?=some v->ks[i]?=some k->TK h v k
theorem lO.upd {D kS e1:Nat}{ks:List (List Int)}{kv UH:List Value}{h:Heap}{g:Array Value->Array Value}(x:lO s D kS e1 ks kv h)(hn:s.heap.objs.size<=kS)(hD:kS≠D)(hg:g kv.toArray=UH.toArray)(ht:∀(i:Nat) (v:Value) (k:List Int),UH[i]?=some v->ks[i]?=some k->TK h v k):
  lO s D kS e1 ks UH (h.update kS (Obj.mapSeq g)):=by
 obtain⟨e,ek⟩:=x.k;have sb:=gC h kS (Obj.mapSeq g);refine⟨fun b o n q=>(sb.2 b (fun z=>?_)).trans (x.old b o n q),(sb.2 D hD.symm).trans x.d,⟨_,by rw[<-hg];exact ni ek g⟩,fun i v k e1 e2=>(ht i v k e1 e2).keep fun b o xs n hc hd q=>(sb.2 b fun z=>?_).trans q⟩
 ·rw[z]at q;exact absurd (az q) (Nat.not_lt.mpr hn)
 ·rw[z,ek]at q;cases q;exact absurd (show Value.type "list"=Value.type "tuple"from hc) (by decide)
theorem zJ{D f:Addr}{vs:List Value}{ks:List (List Int)}{n0:Nat}{P:PySem.Fin->Shared->Prop}(hu:A.units<cLine)(ho:s.heap.get? D=some (seqObj "list" vs.toArray n0))(hl:vs.length=ks.length)(yJ:ks.length<64)(zF:ks.Nodup)(yl:∀k∈ks,∀k'∈ks,k.length=k'.length)
  (PU:∀(i:Nat) (v:Value) (k:List Int) (h1:Heap) (qE:Nat) (C:Value->Shared->Prop),vs[i]?=some v->ks[i]?=some k->(∀b o,b≠D->s.heap.get? b=some o->h1.get? b=some o)->(∀h' tk u,(∀b o,h1.get? b=some o->h'.get? b=some o)->TK h' u k->C u {s with heap:=h',toks:=tk})->
   wpAny (model prog w) A (call (.ref f) [v]) C (fun _ _=>False) {s with heap:=h1,toks:=qE})
  (h:∀h' tk c,(∀b o,b≠D->s.heap.get? b=some o->h'.get? b=some o)->h'.get? D=some (seqObj "list" ((cz ks).map fun i=>vs.getD i Value.none).toArray c)->P (.done (.ret .none)) {s with heap:=h',toks:=tk}):
  wpAny (model prog w) A (PyProof.Rows.ksk_tree D (.ref f) false) P E s:=by
 have UI:D<s.heap.objs.size:=az ho;have s1:=gC s.heap D (Obj.mapSeq fun _=>(#[]:Array Value));obtain⟨e1,IG⟩:∃e1,(s.heap.update D (Obj.mapSeq fun _=>(#[]:Array Value))).get? D=some (seqObj "list" #[] e1):=⟨_,ni ho fun _=>#[]⟩;unfold PyProof.Rows.ksk_tree;refine aa (listItems_at ho rfl ?_);refine aa (je ho rfl ?_ (by rw[aS,bT];omega) (bK _));refine aa (seqEpoch_at IG rfl ?_);refine aa (wpAny_newTuple ?_ (by show vs.length<=_;rw[bT];omega));refine aa (jd ?_ (bK _));refine cu ?_
 have IE:((s.heap.update D (Obj.mapSeq fun _=>(#[]:Array Value))).push (seqObj "tuple" vs.toArray 0)).objs.size=s.heap.objs.size+1:=by rw[size_push',Heap.size_update]
 have K0:lO s D (s.heap.objs.size+1) e1 ks [] (((s.heap.update D (Obj.mapSeq fun _=>(#[]:Array Value))).push (seqObj "tuple" vs.toArray 0)).push (seqObj "list" #[] 0)):=
  ⟨fun b o n q=>aB _ (aB _ ((s1.2 b n).trans q)),aB _ (aB _ IG),⟨0,by rw[<-IE];exact aQ _ rfl⟩,fun i v k e=>by simp at e⟩
 show wpAny (model prog w) A (PyProof.Rows.ksk_rest D (.ref f) false vs.toArray e1 (.ref ((s.heap.update D (Obj.mapSeq fun _=>(#[]:Array Value))).push (seqObj "tuple" vs.toArray 0)).objs.size)) P E {s with heap:=((s.heap.update D (Obj.mapSeq fun _=>(#[]:Array Value))).push (seqObj "tuple" vs.toArray 0)).push (seqObj "list" #[] 0)};rw[IE];have UJ:s.heap.objs.size+1≠D:=ef (i3 UI);generalize ZA:s.heap.objs.size+1=kS at K0 UJ;have Wi:s.heap.objs.size<=kS:=by omega
 generalize ((s.heap.update D (Obj.mapSeq fun _=>(#[]:Array Value))).push (seqObj "tuple" vs.toArray 0)).push (seqObj "list" #[] 0)=h0 at K0;unfold PyProof.Rows.ksk_rest;refine aa (hW ?_)
 first
  |rw[List.forIn_toArray]
  |(rw[<-iX];simp only[List.toList_toArray])
  |rw[<-iX]
 refine aa (iz _ (fun rest _ s'=>∃done kv h1 qE,vs=done++rest/\kv.length=done.length/\s'={s with heap:=h1,toks:=qE}/\lO s D kS e1 ks kv h1) _ ?_ ?_ vs PUnit.unit ⟨[],[],h0,s.toks,rfl,rfl,rfl,K0⟩)
 ·rintro x rest _ s' ⟨done,kv,h1,qE,ev,MK,rfl,K⟩
  have hi:vs[done.length]?=some x:=by rw[ev];simp
  have NU:done.length<ks.length:=by rw[<-hl,ev];simp
  have Rx:ks[done.length]?=some ks[done.length]:=ay NU
  refine aa (kA (cT (PU done.length x _ h1 qE (fun u FI=>∃h' tk,FI={s with heap:=h',toks:=tk}/\(∀b o,h1.get? b=some o->h'.get? b=some o)/\TK h' u ks[done.length]) hi Rx K.old fun h' tk u kp tu=>⟨h',tk,rfl,kp,tu⟩) (fun u FI hq=>?_) fun _ _ hF=>hF.elim));obtain⟨h',tk,rfl,kp,tu⟩:=hq;have K1:lO s D kS e1 ks kv h':=⟨fun b o n q=>kp _ _ (K.old b o n q),kp _ _ K.d,let⟨e,q⟩:=K.k;⟨e,kp _ _ q⟩,fun i v k e1 e2=>(K.t i v k e1 e2).keep fun b o _ _ _ _ q=>kp b o q⟩;obtain⟨e,ek⟩:=K1.k
  try dsimp only
  have Wj:kv.length<64:=by omega
  refine aa (je (s:={s with heap:=h',toks:=tk}) ek rfl ?_ (by rw[aS,bT];omega) (aZ (Nat.le_of_eq (Array.size_push ..)) (by rw[aS,bT];omega)));refine af ⟨done++[x],kv++[u],h'.update kS (Obj.mapSeq (·.push u)),tk,by rw[ev,gE];rfl,by rw[aY,aY,MK];rfl,rfl,?_⟩;refine K1.upd Wi UJ (by simp) fun i v k e1 e2=>?_
  by_cases z:i<kv.length
  ·rw[b8 z]at e1;exact K1.t i v k e1 e2
  ·have hz:=(cb.mp e1).1;rw[aY,eY]at hz;have Wk:i=kv.length:=by omega
   rw[Wk,dH (aq _),eU]at e1;cases e1;rw[Wk,MK,Rx]at e2;cases e2;exact tu
 ·rintro _ s' ⟨done,kv,h1,qE,ev,MK,rfl,K⟩
  rw[dq]at ev;subst ev;obtain⟨e,ek⟩:=K.k
  try dsimp only
  refine aa (listItems_at (s:={s with heap:=h1,toks:=qE}) ek rfl ?_);have hz:∀n,n<=vs.length->n<=sizeLine:=fun n hn=>by rw[bT];omega
  have fin:∀st:SortSt,(arrOf st).map (·.2)=((cz ks).map fun i=>vs.getD i Value.none).toArray->failedOf st=none->wpAny (model prog w) A (PyProof.Rows.ksk_tail D false e1 (.ref kS) st) P E {s with heap:=h1,toks:=qE}:=by
   intro st n8 hf;unfold PyProof.Rows.ksk_tail
   try dsimp only
   rw[n8];simp only[bS,bB];refine aa (je (s:={s with heap:=h1,toks:=qE}) ek rfl ?_ (by rw[aS];exact hz _ (by omega)) (bK _));refine aa (wpAny_letGo ?_);have sb:=gC h1 kS (Obj.mapSeq fun _=>(#[]:Array Value));have hd2:(h1.update kS (Obj.mapSeq fun _=>(#[]:Array Value))).get? D=some (seqObj "list" #[] e1):=(sb.2 D UJ.symm).trans K.d;refine aa (seqEpoch_at hd2 rfl ?_);have hsz:(((cz ks).map fun i=>vs.getD i Value.none).toArray).size<=sizeLine:=by rw[aS,ak,(di ks).length_eq,iy];exact hz _ (by omega)
   refine aa (je hd2 rfl ?_ (bK _) (aZ hsz (kB _)));rw[hf];simp only[iZ,bS,bB];refine af ?_
   have Rq:=gC (h1.update kS (Obj.mapSeq fun _=>(#[]:Array Value))) D (Obj.mapSeq fun _=>((cz ks).map fun i=>vs.getD i Value.none).toArray);refine h _ qE _ (fun b o n q=>?_) (ni hd2 fun _=>((cz ks).map fun i=>vs.getD i Value.none).toArray);refine(Rq.2 b n).trans ((sb.2 b fun z=>?_).trans (K.old b o n q));rw[z]at q;exact absurd (az q) (Nat.not_lt.mpr Wi)
  unfold PyProof.Rows.ksk_end
  try dsimp only
  simp only[bS,bB];have Wl:kv.length=vs.length:=MK;by_cases h2:ks.length<2
  ·have FN:vs.toArray.size<2:=by rw[aS,hl];exact h2
   rw[ab FN,ab FN];refine aa (af ?_);rw[StateT.run_pure];refine aa (af ?_);dsimp only;refine fin _ ?_ rfl
   rw[jP h2,<-hl,dP];show((List.toArray kv).zip (List.toArray vs)).map (·.2)=_;apply Array.toList_inj.mp;simp only[Array.toList_map,Array.toList_zip];exact List.map_snd_zip (by omega)
  ·have h2:2<=ks.length:=by omega
   have Q_:¬vs.toArray.size<2:=by rw[aS,hl];omega
   rw[ae Q_,ae Q_];obtain⟨p,er,hp,hs⟩:=sX (v5 zF) h2;have ep:=oZ zF hp hs;have UK:kv.length=ks.length:=by omega
   obtain⟨fs,aA,fl,K'⟩:=mr UK K.t;refine aa (rL (s:={s with heap:=h1,toks:=qE}) (T:=.type "int") aA (by rw[fl];omega) (fun v hv=>by obtain⟨z,t,rfl⟩:=K' v hv;exact .of_pure rfl) (by decide) ?_);rw[show(Value.type "int" !=Value.type "tuple")=true by decide];refine aa (PySem.W.kat_run (Q:=fun ud s'=>wpAny (model prog w) A (PyProof.Rows.ksk_tail D false e1 (.ref kS) ud) P E s') (G:=fun q s'=>s'={s with heap:=h1,toks:=qE}/\q.toList=cz ks) Wl (by omega) (by omega) (fun p' ud s' a1 a2 a3 a4=>?_) ?_)
   ·obtain⟨rfl,a5⟩:=a4;exact fin ud (by rw[PySem.W.kat_snds Wl a2,a5]) a3
   ·rw[hl];refine lM (fun i j C hi hj t8 hC=>?_) _ er ⟨rfl,ep⟩;have vi:kv[i]?=some (kv[i]'(by omega)):=ay (by omega)
    have vj:kv[j]?=some (kv[j]'(by omega)):=ay (by omega)
    have ki:ks[i]?=some ks[i]:=ay hi
    have kj:ks[j]?=some ks[j]:=ay hj
    show wpAny _ _ (keyLt' _ (kv.getD i Value.none) (kv.getD j Value.none)) _ _ _;rw[bz,bz,vi,vj];refine IX (s:={s with heap:=h1,toks:=qE}) hu (K.t i _ _ vi ki) (K.t j _ _ vj kj) (yl _ (gZ hi) _ (gZ hj)) (fun e=>t8 ((gW zF).mp e)) ?_
    unfold Pu at hC;rw[bz,bz,ki,kj]at hC;exact hC
end
end L2
namespace L2
open PySem PySem.Spec PySem.Calls PyProof.Rows
def CA(K:PySem.W.Frag)(c P:Addr):Bool:=match K.lookup c with
 |some ⟨.type "code",_,.fields vs,_⟩=>decide (vs[11]?=some (.ref P))&&((match vs.getD 18 .none with|.str _ _=>true|_=>false)&&((match vs.getD 7 .none with|.int _ _=>true|_=>false)&&((match vs.getD 9 .none with|.bool _=>true|_=>false)&&((match vs.getD 10 .none with|.int _ _=>true|_=>false)&&decide (c≠P)))))
 |_=>false
theorem EN{K:PySem.W.Frag}{c P:Addr}{h:Heap}(X:K.In h)(e:CA K c P=true):PySem.W.CodeHd h c P:=by
 unfold CA at e;split at e
 ·rename_i od vs sl hk;rw[aE,aE,aE,aE,aE,cp,cp]at e;obtain⟨h1,h2,h3,h4,h5,h6⟩:=e;have g:=X _ _ hk;have UL:vs.getD 11 .none=.ref P:=by rw[b_,h1];rfl
  cases e2:vs.getD 18 .none with
  |str f tf=>
   cases e3:vs.getD 7 .none with
   |int fl tg=>
    cases e4:vs.getD 9 .none with
    |bool b=>
     cases e5:vs.getD 10 .none with
     |int tx tt=>exact⟨_,vs,f,tf,fl,tg,b,tx,tt,g,rfl,rfl,h1,UL,e2,e3,e4,e5,h6⟩
     |_=>rw[e5]at h5;cases h5
    |_=>rw[e4]at h4;cases h4
   |_=>rw[e3]at h3;cases h3
  |_=>rw[e2]at h2;cases h2
 ·cases e
def UM(mg:Str->Option Value)(base:Heap):Prop:=∃bm ob,mg "__builtins__"=some (.ref bm)/\bm≠builtinsNs/\bm≠mainGlobals/\base.get? bm=some ob/\ob.cls=.type "module"/\ob.dict=some builtinsNs/\ob.data=.plain
theorem yp{i j:Int}{t u:Tok}{c:Value}:∀{l:List Value},TriplesOk l->TriplesOk (l++[.int i t,.int j u,c])
 |[],_=>trivial
 |.int _ _:: .int _ _::_::rest,h=>yp (l:=rest) h
theorem vb{q:Pos}{i j:Int}{t u:Tok}{c v:Value}:∀{l:List Value},TriplesOk l->codeAmong q (l++[.int i t,.int j u,c])=some v->codeAmong q l=some v\/v=c
 |[],_,e=>by
  have e:(if(i==q.line&&j==q.col)=true then some c else codeAmong q [])=some v:=e;split at e
  ·exact .inr (Option.some.inj e).symm
  ·cases e
 |.int a _:: .int b _::d::rest,h,e=>by
  have e:(if(a==q.line&&b==q.col)=true then some d else codeAmong q (rest++[.int i t,.int j u,c]))=some v:=e;show(if(a==q.line&&b==q.col)=true then some d else codeAmong q rest)=some v\/_;split at e
  ·rename_i z;rw[ab z];exact .inl e
  ·rename_i z;rw[ae z];exact vb (l:=rest) h e
section
variable {X:Cx}{pins:List (Addr×Obj)}{σ:St}{H:Hp}{s:Shared}
theorem EO{nm q:Str}{params:Arguments}{body:Expr}{scope:Scope}{p_:List (Str×Addr)}{c P:Addr}{pos:Pos}{fl:Nat}{A:Around}{E:Value->Shared->Prop}{Q:Value->Shared->Prop}(I:Inv X pins σ H s)(C:PySem.W.CodeHd X.base c P)(Bm:UM X.mg X.base)(hP:H P=some (.wF #[.str q 0])) (vc:X.env.code=.ref c) (MM:X.env.globals=mainGlobals)
  (yZ:closureFor scope X.env=pure p_)
  (h:∀f c' pm zI h' tk H',Inv X pins σ H' {s with heap:=h',toks:=tk}->aw H H'->H' f=none->s.heap.objs.size<=f->h'.get? f=some (PySem.W.kla_obj nm q params body scope p_ pm c' zI)->h'.CodeRec (.ref c') q->Q (.ref f) {s with heap:=h',toks:=tk}):
  wpAny (model X.prog X.w) A (makeFunction nm q params (.expr body) scope X.env [] [] [] pos fl) Q E s:=by
 obtain⟨qs,hp,tr,rec⟩:=(show bY X.prog X.w H s.heap P (.wF #[.str q 0])from I.bV P _ hP);have hC:=C.keeps I.bk;have hg:=I.mod.glob.keeps I.bk;obtain⟨bm,ob,b1,b2,b3,b4,b5,b6,b7⟩:=Bm;have YF:bm≠P:=fun z=>by
  have e:=I.bk _ _ b4;rw[z,hp]at e;cases e;cases b5
 have hB:s.heap.BuiltinsAt X.mg P:=⟨bm,ob,b1,b2,b3,YF,I.bk _ _ b4,b5,b6,b7⟩;have YG:mainGlobals≠P:=fun z=>by
  obtain⟨o,es,ep,e,hd,_⟩:=hg;rw[z,hp]at e;cases e;cases hd
 cases hf:codeAmong pos qs.toList with
 |some v=>
  obtain⟨c',oc,vs,q',t,rfl,e2,e3,e4,e5,e6⟩:=rec pos v hf;have eq:q=q':=by
   have z:=b9 (fun a:Array Value=>a[0]?) e2;simp at z;exact z
  subst eq;refine PySem.W.kla_makeFunctionHit yZ MM hg vc hC hp tr hf hB fun zI h' tk kp hsz=>?_
  have I1:Inv X pins σ H {s with heap:=h',toks:=tk}:=I.kept kp;refine h _ c' _ zI _ tk H (I1.kept fun b o e=>aB _ e) (aw.refl H) (I1.bV.fresh (aq _)) hsz (aQ _ rfl) ⟨c',oc,vs,t,rfl,aB _ (kp _ _ e4),e5,e6⟩
 |none=>
  refine PySem.W.kla_makeFunction yZ MM hg vc hC hp tr hf YG hB fun c' zI h' tk hx ER dO UN Wm=>?_
  obtain⟨c₂,oc,vs,t,e2,Mt,hd,hv⟩:=UN;cases e2;have Ll:H c'=none:=I.bV.fresh ER;have ZC:c'≠P:=ef (bQ (az hp) ER);have bV:md X.prog X.w (upd H c' (.own P)) (h'.push (PySem.W.kla_obj nm q params body scope p_ ((X.mg "__name__").getD .none) c' zI)):=by
   intro b u e;by_cases z:b=c'
   ·subst z;rw[aH]at e;cases e;exact⟨oc,aB _ Mt⟩
   ·rw[au z]at e;by_cases zP:b=P
    ·subst zP;rw[hP]at e;cases e;refine⟨_,aB _ Wm,?_,fun pos' v' ev=>?_⟩
     ·rw[Array.toList_append];exact yp tr
     ·rw[Array.toList_append]at ev;rcases vb tr ev with ev|rfl
      ·obtain⟨c₂,PV,PX,UO,UP,f1,f2,f3,f4,f5⟩:=rec pos' v' ev;refine⟨c₂,PV,PX,UO,UP,f1,f2,(au fun z=>by rw[z,Ll]at f3;cases f3).trans f3,aB _ (hx _ _ (fun z=>?_) f4),f5⟩;rw[z,hP]at f3;cases f3
      ·exact⟨c',oc,vs,q,t,rfl,rfl,aH,aB _ Mt,hd,hv⟩
    ·refine(I.bV b u e).oE (fun d o C4 e'=>aB _ (hx d o (fun zd=>?_) e')) (fun d e'=>(au fun zd=>by rw[zd,Ll]at e';cases e').trans e') fun d xs e'=>(au fun zd=>by rw[zd,Ll]at e';cases e').trans e';rcases C4 with C4|C4
     ·exact zP (C4.symm.trans zd)
     ·rw[zd,hP]at C4;cases C4
  have I1:Inv X pins σ (upd H c' (.own P)) {s with heap:=h'.push (PySem.W.kla_obj nm q params body scope p_ ((X.mg "__name__").getD .none) c' zI),toks:=tk}:=by
   refine I.un (t':=tk) ⟨fun b o e n _ _=>aB _ (hx _ _ (fun z=>by rw[z,hP]at n;cases n) e),fun b o e n _ _=>⟨o.slots,aB _ (hx _ _ (fun z=>by rw[z,hP]at n;cases n) e)⟩,fun b o e n _=>(au fun z=>by rw[z]at e;exact absurd (az e) (Nat.not_lt.mpr ER)).trans n,fun b o e _=>?_,fun b xs e=>(au fun z=>by rw[z,Ll]at e;cases e).trans e,fun b o u e=>(au fun z=>by rw[z,Ll]at e;cases e).trans e,fun b ps e=>⟨#[],by rw[Array.append_empty];exact(au fun z=>by rw[z,Ll]at e;cases e).trans e⟩⟩ bV;by_cases z:b=P
   ·exact⟨_,by rw[z];exact aB _ Wm⟩
   ·exact⟨o,aB _ (hx _ _ z e)⟩
  have Ms:h'.objs.size≠c':=ef dO;refine h _ c' _ zI _ tk _ I1 (aw.upd Ll) ?_ ?_ (aQ _ rfl) ⟨c',oc,vs,t,rfl,aB _ Mt,hd,hv⟩
  ·rw[au Ms];refine I.bV.fresh (aZ ER (fX dO))
  ·exact aZ ER (fX dO)
end
end L2
namespace L2
open PySem PySem.Spec PySem.Calls PyProof.Rows
def ig(aA:List (List Key×Tr)):List Tr:=aA.map fun p=>.tup [p.2,.tup (p.1.map l6)]
def ES:Tr->Tr
 |.tup [_,k]=>k
 |_=>.dv
def wa:Tr->Rs Tr
 |.aI aA=>if t_ (ig aA)=true/\((ig aA).all fun t=>(dQ t).length==3)=true then .ok (.lst ((dR (ig aA)).map ES))else .bad
 |_=>.bad
def lp(x q:Str)(r:Rs Tr)(A:Ab):Rz Tr:=match(A[0]? :Option Ao)with
 |some (.tb x' q')=>if x'=x/\q'=q then aj (r.bind wa) A else .bad
 |_=>.bad
theorem zK{X:Cx}{H:Hp}{xc:Tr->Ab->Prop}{x q:Str}{ρ:av}{i:Nat}{A:Ab}{k:Tr->Ab->Prop}(h:cJ xc (lp x q (ar ρ i) A) k):A[0]?=some (.tb x q)/\∃aA,ar ρ i=.ok (.aI aA)/\t_ (ig aA)=true/\((ig aA).all fun t=>(dQ t).length==3)=true/\k (.lst ((dR (ig aA)).map ES)) A:=by
 unfold lp at h;split at h
 ·rename_i x' q' e;obtain⟨⟨rfl,rfl⟩,h2⟩:=nQ h
  clear h
  refine⟨e,?_⟩;cases e2:ar ρ i with
  |bad=>rw[e2]at h2;exact(show False from h2).elim
  |exc c=>rw[e2]at h2;exact(show False from h2).elim
  |ok t=>
   rw[e2]at h2;have h4:cJ xc (aj (wa t) A) k:=h2
   clear h2
   cases t with
   |aI aA=>
    by_cases z:t_ (ig aA)=true/\((ig aA).all fun t=>(dQ t).length==3)=true
    ·have e3:wa (.aI aA)=.ok (.lst ((dR (ig aA)).map ES)):=ab z;rw[e3]at h4;exact⟨aA,rfl,z.1,z.2,h4⟩
    ·have e3:wa (.aI aA)=.bad:=ae z;rw[e3]at h4;exact(show False from h4).elim
   |_=>exact(show False from h4).elim
 ·exact(show False from h).elim
theorem ET{xs:List (List Key×Addr×Value)}(nd:(xs.map (·.1)).Nodup):∀{i:Nat} {x:List Key×Addr×Value},xs[i]?=some x->atKey xs x.1=some x.2:=by
 induction xs with
 |nil=>intro i x e;simp at e
 |cons y xs ih=>
  intro i x e;rw[aC,dW]at nd;unfold atKey;cases i with
  |zero=>
   cases e;rw[dY,bj rfl];rfl
  |succ i=>
   have e:xs[i]?=some x:=e
   have f':¬y.1=x.1:=fun z=>nd.1 (by rw[z];exact List.mem_map_of_mem (bg e));rw[dY,aX f'];exact ih nd.2 e
section
variable {X:Cx}
theorem Hv{d x PY q:Str}{i:Nat}{c P:Addr}{p pd p1 p2 p3 p4 p5 kp pos Lm:Pos}{n1:Nat}{params:Arguments}{scope:Scope}(hu:X.A.units+40<cLine)(ZD:X.A.depth+3<recursionLimit)(UQ:PySem.W.tabIn X.K PY=some (c,P))(UR:CA X.K c P=true)(vc:X.env.code=.ref c)
  (hm:X.mg "sorted"=none) (hN:X.N[i]?=some d) (Ln:X.env.scope.names.lookup d=some .cell) (S:EL scope d x) (MF:∀y∈scope.names,y.2=.free->y.1=d) (hq:X.env.qual++"<lambda>"=q)
  (Lo:defaultsOf params X.env=([],[])) (xl:∀(nm qual:Str) (p_:List (Str×Addr)) (pm:Value) (c':Addr) (zI v:Value),bindArgs (PySem.W.kla_fn nm qual params (Cz d x p1 p2 p3 p4 p5 n1) scope p_ pm (.ref c') zI) ⟨[v],[]⟩=pure [(x,v)])
  (MM:X.env.globals=mainGlobals) (hc:X.calm=true) (hg:Gl X "sorted") (US:∀env:Env,(X.A.in1.in1.deeper env).units+1<cLine) (hk:X.env.kindOf d=some .cell):
  PE X (.Call (.Name "sorted" p) [.Name d pd] [⟨some "key",.Lambda params (Cz d x p1 p2 p3 p4 p5 n1) scope Lm,kp⟩] pos) (tE X fun ρ A=>lp PY q (ar ρ i) A):=by
 intro pins s σ H Q I ⟨B,A,ρ,ha,r,n,qq⟩;obtain⟨eA,aA,eg,ok,h3,k⟩:=zK (X:=X) (H:=H) qq;obtain⟨P',sG,C4,⟨c',RF⟩,hP⟩:=ha.ob 0 _ eA;cases UQ.symm.trans RF;obtain⟨v,t,ev,rv,et⟩:=xq (X:=X) (k:=fun t=>t=.aI aA) r (by rw[eg];rfl);subst et;obtain⟨da,ax,rfl,YH,ek,rr⟩:=rv.qB;have PZ:Jn X.env.scope d:=Or.inr (Or.inl Ln);obtain⟨m,hn,UK⟩:=id I.loc;obtain⟨u,ru,look⟩:=UK i d _ hN ev PZ;cases(show u=Value.ref da from ru);obtain⟨cell,yZ,pk⟩:∃cell,X.env.cells.lookup d=some cell/\s.heap.IsCell cell (some (.ref da)):=by
  rcases look with⟨zD,_⟩|⟨_,cc,e1,e2⟩
  ·rw[hk]at zD;cases zD
  ·exact⟨cc,e1,e2⟩
 have UT:∀(Q':Value->Shared->Prop),Q' (.ref da) s->wpAny (model X.prog X.w) X.A (eval (.Name d pd) X.env) Q' X.xe s:=fun Q' K4=>g_ (rB I.ok.kind hk yZ pk K4) S.dd;refine mY (vp (u:=.builtin "sorted") I hg hm rfl ?_ (by decide) (by decide));refine callWith_kw ?_ (by rw[bC _ _ rfl];rfl) (cx (es:=[.Name d pd]) rfl)
 show wpAny _ _ (spliced ((false,eval (.Name d pd) X.env)::backTo pos (starEach [] X.env))) _ _ _;refine mX (UT _ (rS ?_));refine kws_cons (PySem.W.kla_eval Lo ?_);rw[hq];have kN:∀y∈scope.names,y.2=.free->∃c,X.env.cells.lookup y.1=some c:=fun y hy z=>by rw[MF y hy z];exact⟨cell,yZ⟩
 have sub:∀x c,(vF scope X.env).lookup x=some c->X.env.cells.lookup x=some c:=mh scope.names [] kN (fun x c e=>by simp at e);obtain⟨EU,P0⟩:∃c,(vF scope X.env).lookup d=some c:=qQ.mp (mj scope.names [] d (.inr (gB S.ld)));have P4:EU=cell:=by have z:=sub d EU P0;rw[yZ]at z;exact(Option.some.inj z).symm
 subst P4;refine EO I (EN I.mod.QZ UR) I.mod.bm hP vc MM (jG kN) fun f cd pm zI wM YI H3 I3 sm Ms ZF NK pQ=>kws_nil ?_
 have Lp:wM.IsCell EU (some (.ref da)):=by
  obtain⟨m3,_,RI⟩:=I3.loc;obtain⟨u3,YJ,P5⟩:=RI i d _ hN ev PZ;cases(show u3=Value.ref da from YJ);rcases P5 with⟨zD,_⟩|⟨_,cc,f1,f2⟩
  ·rw[hk]at zD;cases zD
  ·rw[yZ]at f1;cases f1;exact f2
 have P6:Rd H3 da (.dT ax):=(YH.same aK).same sm;obtain⟨hz,UU,xs,rel,o,es,ep,g1,g2,g3,g4,g5⟩:=(show bY X.prog X.w H3 wM da (.dT ax)from P6.ok I3.bV);obtain⟨_,_,ZG,YK,dd⟩:=uE I3.bV P6;have bV:∀x∈xs,(tupleKind (aR X.prog X.w)).is wM x.1 x.2.1:=by
  have all:∀{l:List (List Key×V)} {m:List (List Key×Addr×Value)},KT H3 l m->∀x∈m,(tupleKind (aR X.prog X.w)).is wM x.1 x.2.1:=by
   intro l m q
   induction q with
   |nil=>intro x hx;exact nomatch hx
   |@cons p q ps qs hq t ih=>
    intro x hx;rcases a8.mp hx with e|hx
    ·subst e;exact mf I3.bV (by rw[<-hq.1];exact hq.2.1)
    ·exact ih x hx
  exact all rel
 have dd:wM.DictOfH (tupleKind (aR X.prog X.w)) da xs:=⟨o,es,ep,g1,g2,g3,g4,bV,g5⟩;have UW:xs.length=aA.length:=by
  have z1:=Paired.length rel;have z2:=b9 List.length ek;rw[ak,ak]at z2;omega
 obtain⟨YL,yJ,nd,same⟩:=sY ok;have Wn:(ig aA).length=aA.length:=by unfold ig;rw[ak]
 have P7:∀(j:Nat) (xj:List Key×Addr×Value),xs[j]?=some xj->∃kt hh a b,aA[j]?=some kt/\kt.2=.int hh/\kt.1=[.inl a,.inl b]/\(ig aA)[j]?=some (.tup [.int hh,.tup [.int a,.int b]])/\xj.1=[.inl a,.inl b]/\(∃t,xj.2.2=.int hh t)/\H3 xj.2.1=some (.tup [.int a,.int b]):=by
  intro j xj ej;have hj:j<aA.length:=by rw[<-UW];exact(cb.mp ej).1
  have IZ:aA[j]?=some aA[j]:=ay hj
  generalize aA[j]=kt at IZ;have UX:(ig aA)[j]?=some (.tup [kt.2,.tup (kt.1.map l6)]):=by unfold ig;rw[aL,IZ];rfl
  have IY:=YL _ (bg UX);have RI:(dQ (.tup [kt.2,.tup (kt.1.map l6)])).length=3:=eq_of_beq (bA.mp h3 _ (bg UX));obtain⟨vk,UY,Wo⟩:=zt rel ej;have e1:(ax.map (·.1))[j]?=some xj.1:=by rw[aL,UY];rfl
  rw[ek,aL,IZ]at e1;have qj:kt.1=xj.1:=Option.some.inj e1;obtain⟨vv,Wq,UZ⟩:=rr.get (i:=j) (t:=kt.2) (by rw[aL,IZ];rfl);rw[aL,UY]at Wq;cases Wq;obtain⟨k1,k2⟩:=kt;have qj:k1=xj.1:=qj;have UZ:Rep X.K (aN B H) vk k2:=UZ;unfold FR at IY;split at IY
  ·rename_i a b e;rw[<-Option.some.inj IY]at RI;cases RI
  ·rename_i hh a b e;injection e with e
   injection e with e2 e
   injection e with e3 _
   injection e3 with e3
   have e2:k2=.int hh:=e2;subst e2;have YM:k1=[.inl a,.inl b]:=by
    match k1,e3 with
    |[.inl x,.inl y],e3=>injection e3 with z1 z2;injection z2 with z2 _;injection z1 with z1;injection z2 with z2;rw[z1,z2]
    |[.inl x,.inr y],e3=>injection e3 with z1 z2;injection z2 with z2 _;cases z2
    |[.inr x,_],e3=>injection e3 with z1 z2;cases z1
   subst YM;cases UZ.int_inv;have U0:RelV (.int hh) xj.2.2:=by
    have gen:∀{l:List (List Key×V)} {m:List (List Key×Addr×Value)},KT H3 l m->∀{j:Nat} {y:List Key×Addr×Value} {w':V} {kk:List Key},m[j]?=some y->l[j]?=some (kk,w')->RelV w' y.2.2:=by
     intro l m q
     induction q with
     |nil=>intro j y w' kk e;simp at e
     |@cons p q' ps qs hq t ih=>
      intro j y w' kk e1 e2;cases j with
      |zero=>cases e1;cases e2;exact hq.2.2
      |succ j=>exact ih (show qs[j]?=some y from e1) (show ps[j]?=some (kk,w')from e2)
    exact gen rel ej UY
   refine⟨_,hh,a,b,IZ,rfl,rfl,UX,qj.symm,U0,?_⟩;rw[<-qj]at Wo;exact Wo
  ·cases IY
 refine call_function_entry_kw kind_sorted plain_sorted entry_sorted (ksk_s1 _ _) ?_
 unfold Builtin.«sorted»;refine aa (m:=checkCount "sorted" 1 1 _) (af ?_);have Pk:es.size=xs.length:=by rw[<-bc,g4,ak]
 refine aa (jQ (A:=X.A.in1) (s:={s with heap:=wM,toks:=YI}) (I3.ok.hd hc) UU g1 g2.1 g3 (by rw[Pk,bT];omega) fun h4 U1 U2=>?_);have YN:es.toList.map (·.key)=xs.map fun x=>Value.ref x.2.1:=by rw[g4,bG];rfl
 rw[YN];refine aa (jd ?_ (by rw[ak,bT];omega));have zZ:(h4.push (seqObj "list" (xs.map fun x=>Value.ref x.2.1).toArray 0)).get? h4.objs.size=some (seqObj "list" (xs.map fun x=>Value.ref x.2.1).toArray 0):=aQ _ rfl;have RB:∀{b:Addr} {o:Obj},wM.get? b=some o->b≠h4.objs.size:=fun{b o} e=>bo (az (U2 _ _ e));refine aa (cu (wpAny_call_entry_kw slot_list_sort ⟨_,zZ,rfl⟩ nk ?body (ksk_l1 _ _)))
 case body=>
  show wpAny _ X.A.in1.in1 (Builtin.«list.sort» ⟨[.ref h4.objs.size],[(Str.ofString "key",.ref f)]⟩) _ _ _;rw[ksk_t1];refine zJ (s:={s with heap:=h4.push (seqObj "list" (xs.map fun x=>Value.ref x.2.1).toArray 0),toks:=U1}) (ks:=(ig aA).map dQ) (by show X.A.units+1+1<cLine;omega) zZ (by rw[ak,ak,Wn,UW]) (by rw[ak];exact yJ) nd same (fun j v' ky h1 qE C ej IZ YO hC=>?_) fun h5 YQ c5 YR YS=>?_
  ·rw[aL]at ej;cases P8:xs[j]? with
   |none=>rw[P8]at ej;cases ej
   |some xj=>
    rw[P8]at ej;cases ej;obtain⟨kt,hh,a,b,e1,e2,e3,e4,e5,⟨t5,e6⟩,e7⟩:=P7 j xj P8;rw[aL,e4]at IZ;cases IZ;have Lq:∀b o,wM.get? b=some o->h1.get? b=some o:=fun b o e=>YO b o (RB e) (aB _ (U2 b o e));refine EM (s:={s with heap:=h1,toks:=qE}) US (by show X.A.in1.in1.depth<recursionLimit;show X.A.depth<_;omega) ((I3.nolimit).keeps Lq) (Lq _ _ NK) (pQ.keeps Lq) (xl _ _ _ _ _ _) S P0 (by obtain⟨oc,ec,rc⟩:=id Lp;exact⟨oc,Lq _ _ ec,rc⟩) (o5 Lq dd) (iF (bV xj (bg P8)) h1 Lq) (ET g5 P8) fun h6 YT tp Wr _ Tx=>hC h6 YT _ Wr ?_
    show RE h6 (.ref tp) hh a b;obtain⟨aV,CU,⟨ot,t1,t2,nt,t3⟩,_⟩:=I3.tuple (.inl (.inl e7));obtain⟨w1,w2,rfl,⟨U3,rfl⟩,⟨U4,rfl⟩⟩:=vals2 CU;exact⟨tp,_,t5,0,.ref xj.2.1,rfl,Tx,rfl,by rw[e6],xj.2.1,ot,U3,U4,nt,rfl,Wr _ _ (Lq _ _ t1),t2,t3⟩
  ·
   refine⟨_,rfl,af ⟨_,rfl,?_⟩⟩;have J:Inv X pins σ H3 {s with heap:=h4,toks:=U1}:=(I3.kept (t':=U1) U2);have U5:H3 h4.objs.size=none:=J.fresh;have Ws:HB B H3:=ha.hb.same sm;have P9:((ig aA).map dQ).length=xs.length:=by rw[ak,Wn,UW]
   have I5:=J.laid (t':=YQ) (o:=.lst ((cz ((ig aA).map dQ)).map fun j=>(xs.map fun x=>V.ref x.2.1).getD j .dv)) (h':=h5) (fun b o e=>YR b o (bo (az e)) (aB _ e)) (aq _) ⟨by rw[ak,(di _).length_eq,iy,ak,bT];omega,_,c5,qF fun j hj=>?_,YS⟩
   ·refine⟨.ref h4.objs.size,_,I5,rfl,k _ B _ (.of (sm.trans (aw.upd U5))) (ha.same (sm.trans (aw.upd U5))) (.vI Ws U5 ?_)⟩;rw[<-u7 nd,bG];refine qz fun j hj=>?_
    have yk:=c_ hj;rw[P9]at yk;obtain⟨kt,hh,a,b,e1,e2,e3,e4,e5,_,e7⟩:=P7 j xs[j] (ay yk);show Rep _ _ ((xs.map fun x=>V.ref x.2.1).getD j .dv) (ES ((ig aA).getD j .dv));rw[bz,bz,aL,ay yk,e4];exact .tup (Ws.tup e7) (.cons (.int a) (.cons (.int b) .nil))
   ·have yk:=c_ hj;rw[P9]at yk;rw[bz,bz,aL,aL,ay yk];exact rfl
end
end L2
namespace L2
open PySem PySem.Spec PyProof.Rows PySem.W
def EV(K:Frag)(D:Addr):Bool:=decide (findIn K (.ref D) "__getattribute__"=some (some (.builtin "BaseException.__getattribute__")))&&(decide (findIn K (.ref D) "__getattr__"=some none)&&(decide (findIn K (.ref D) "__class__"=some (some (.builtin "object.__class__")))&&(decide (mroIn K D (.type "object")=some true)&&decide (mroIn K D (.type "BaseException")=some true))))
theorem Hw{K:Frag}{D:Addr}(h:EV K D=true):OJ K D:=by
 unfold EV at h;rw[aE,aE,aE,aE]at h;exact⟨cq h.1,cq h.2.1,cq h.2.2.1,cq h.2.2.2.1,cq h.2.2.2.2⟩
def P_(K:Frag)(u:Value)(tab:List (Str×Bool)):Bool:=tab.all fun p=>decide (kitOne K (.ref (clsAt K p.1)) u=some p.2)
def Qa(K:Frag)(xs:List Str):Bool:=xs.all fun x=>EV K (clsAt K x)&&(clsIn K (clsAt K x)).isSome
theorem o6{α:Type}{z:Str}:∀{l:List (Str×α)} {a:α},l.lookup z=some a->(z,a)∈l
 |[],_,h=>by cases h
 |(y,b)::l,a,h=>by
  rw[dj]at h;cases e:(z==y)with
  |true=>rw[e]at h;cases h;rw[eq_of_beq e];exact aP ..
  |false=>rw[e]at h;exact aO _ (o6 h)
theorem Lr{K:Frag}{u:Value}{tab:List (Str×Bool)}{xs:List Str}(h:P_ K u tab=true)(q:Qa K xs=true)(e:tab.map (·.1)=xs):IF K u tab:=⟨fun x b hx=>by
 have m:=o6 hx;have h1:=cq (bA.mp h _ m);have mx:x∈xs:=by rw[<-e];exact List.mem_map_of_mem m
 have h2:=bA.mp q x mx;rw[aE]at h2;exact⟨h1,Hw h2.1,h2.2⟩⟩
def Qb(K:Frag)(c:Str)(xs:List Str):Bool:=xs.all fun x=>decide (exmOne K (.ref (clsAt K x)) (.ref (clsAt K c))=some true)
theorem EW{K:Frag}{mg:Str->Option Value}{c:Str}{xs:List Str}(m:mg c=some (.ref (clsAt K c)))(h:Qb K c xs=true):AH K mg c xs:=⟨m,fun x hx=>cq (bA.mp h x hx)⟩
theorem Qc{P:List Value->Prop}(h:P []):∀us:List Value,us.length=0->P us
 |[],_=>h
theorem U6{P:List Value->Prop}{n:Nat}(h:∀a us,us.length=n->P (a::us)):∀us:List Value,us.length=n+1->P us
 |a::us,e=>h a us (Nat.succ.inj e)
theorem Qd{P:List Value->Prop}(h:∀a,P [a]):∀us:List Value,us.length=1->P us:=U6 fun a=>Qc (P:=fun l=>P (a::l)) (h a)
theorem Qe{P:List Value->Prop}(h:∀a b,P [a,b]):∀us:List Value,us.length=2->P us:=U6 fun a=>Qd (P:=fun l=>P (a::l)) (h a)
theorem RJ{P:List Value->Prop}(h:∀a b c,P [a,b,c]):∀us:List Value,us.length=3->P us:=U6 fun a=>Qe (P:=fun l=>P (a::l)) (h a)
end L2
namespace L2
open PySem PySem.Spec PyProof.Rows PySem.W
section
variable {K:Frag}{c m f:Str}{C:Addr}
def Hx(K:Frag)(C:Addr):Bool:=plainGet K C Str.empty&&(hasDictIn K C&&(plainOver K C&&decide (findIn K (.ref C) "__setattr__"=some (some (.builtin "object.__setattr__")))))
theorem EY(h:Hx K C=true):Su K C:=by
 unfold Hx at h;rw[aE,aE,aE]at h;exact⟨h.1,h.2.1,h.2.2.1,cq h.2.2.2⟩
def U7(K:Frag)(C:Addr)(fs:List Str):Bool:=fs.all fun f=>decide (findIn K (.ref C) f=some none)
end
end L2
namespace L2
open PySem PySem.Spec PyProof.Rows PySem.W
structure Df where
 c:Option Str
 x:Str
 q:Str
 st:Stmt
 ps:List Str
def YU(K:Frag)(c m:Str):Addr:=match findIn K (.ref (clsAt K c)) m with
 |some (some (.ref a))=>a
 |_=>0
def Qg(K:Frag)(a:Addr):FuncData:=match K.lookup a with
 |some ⟨_,_,.func d,_⟩=>d
 |_=>default
def U8(K:Frag)(a:Addr):Bool:=match K.lookup a with
 |some ⟨_,_,.func _,_⟩=>true
 |_=>false
theorem Ls{K:Frag}{a:Addr}(h:U8 K a=true):∃oc od z6,K.lookup a=some ⟨oc,od,.func (Qg K a),z6⟩:=by
 unfold U8 at h;unfold Qg;split at h
 ·rename_i e;rw[e];exact⟨_,_,_,rfl⟩
 ·cases h
namespace Df
def adr(K:Frag)(d:Df):Addr:=match d.c with
 |none=>clsAt K d.x
 |some c=>YU K c d.x
def fd(K:Frag)(d:Df):FuncData:=Qg K (d.adr K)
def re(d:Df)(f:FuncData):FuncData:=fnOf d.x d.q (qe d.st) (dy d.st) (aD d.st) .none f.kwdefaults f.doc f.pyModule f.annotations f.code f.closureTuple
def isAt(K:Frag)(d:Df):Bool:=match d.c with
 |none=>decide (nsIn K mainGlobals d.x=some (some (.ref (d.adr K))))
 |some c=>decide (findIn K (.ref (clsAt K c)) d.x=some (some (.ref (d.adr K))))&&(isFn K (.ref (d.adr K))&&Hx K (clsAt K c))
def I0(K:Frag)(d:Df):Bool:=U8 K (d.adr K)&&(codeIn K (d.fd K).code d.q&&(keepIn K (.ref (d.adr K))&&d.isAt K))
structure Ok(K:Frag)(mg:Str->Option Value)(d:Df):Prop where
 fn:uh K d.x d.q d.st (d.adr K) (d.fd K)
 m0:d.c=none->mg d.x=some (.ref (d.adr K))
 m1:∀c,d.c=some c->Meth K (clsAt K c) d.x (d.adr K)/\Su K (clsAt K c)
theorem of{K:Frag}{mg:Str->Option Value}{d:Df}{h:Heap}(X:K.In h)(G:h.Ns mainGlobals mg)(e:d.fd K=d.re (d.fd K))(k:d.I0 K=true):d.Ok K mg:=by
 unfold I0 at k;rw[aE,aE,aE]at k;obtain⟨k1,k2,k3,k4⟩:=k;obtain⟨oc,od,z6,l⟩:=Ls k1;refine⟨⟨⟨oc,od,_,_,_,_,_,_,z6,e,l,k2⟩,k3⟩,fun z=>?_,fun c z=>?_⟩<;>unfold isAt at k4<;>rw[z]at k4
 ·exact mg_of X G (cq k4)
 ·rw[aE,aE]at k4;exact⟨⟨cq k4.1,k4.2.1,k3⟩,EY k4.2.2⟩
end Df
theorem EZ{K:Frag}{mg:Str->Option Value}{h:Heap}(X:K.In h)(G:h.Ns mainGlobals mg):∀{ds:List Df},ds.map (Df.fd K)=ds.map (fun d=>d.re (d.fd K))->ds.all (Df.I0 K)=true->∀d∈ds,d.Ok K mg
 |[],_,_,d,m=>nomatch m
 |a::ds,e,k,d,m=>by
  rw[d_,aE]at k;rw[aC,aC]at e;injection e with e1 e2
  rcases a8.mp m with rfl|m
  ·exact Df.of X G e1 k.1
  ·exact EZ X G e2 k.2 d m
section
variable {P:Program}{w:World}{K:Frag}{mg:Str->Option Value}{base:Heap}{d:Df}{N:List Str}{k n:Nat}
structure AZ(P:Program)(w:World)(K:Frag)(mg:Str->Option Value)(base:Heap)(CX:yT)(n:Nat)(d:Df)(sp:Sp):Prop where
 ok:hX P w K mg base CX n (d.adr K) (d.fd K) d.ps sp
 bd:Binds K (d.fd K) d.ps []
 df:d.Ok K mg
abbrev RK(d:Df):Prop:=∀(kV doc pm:Value) (an:Option Addr) (dw ct:Value) (us:List Value),us.length=d.ps.length->bindArgs (fnOf d.x d.q (qe d.st) (dy d.st) (aD d.st) .none kV doc pm an dw ct) ⟨us,[]⟩=pure (d.ps.zip us)
abbrev RL(CX:yT)(P:Program)(w:World)(K:Frag)(mg:Str->Option Value)(base:Heap)(N:List Str)(d:Df):=j3 CX P w K mg base N d.q (aD d.st) (d.adr K)
abbrev A5(K:Frag)(d:Df)(k:Nat)(dw:Value)(A:Around)(s:Shared):Prop:=dC k (A.deeper (envOfC d.q (aD d.st) s.heap.objs.size (d.adr K) dw))
theorem Hy(N:List Str){a b:Nat}{G:av->Ab->Rz Out}(D:d.Ok K mg)(hb:N.Nodup->∀dw A outer s H E,A5 K d k dw A s->ZB (RL (qv P w) P w K mg base N d dw A outer s H E) (dy d.st) G)(S:eB N d.ps (aD d.st):=by exact⟨rfl,rfl,rfl,by decide+kernel,rfl,by decide+kernel,by decide+kernel⟩) (B:RK d:=by exact fun _ _ _ _ _ _=>by first|exact Qc rfl|exact Qd fun _=>rfl|exact Qe fun _ _=>rfl|exact RJ fun _ _ _=>rfl|exact U9 fun _ _ _ _=>rfl|exact U_ fun _ _ _ _ _=>rfl) (ha:d.ps.length=a:=by rfl) (hn:N.length=b:=by rfl):
  AZ P w K mg base (qv P w) (k+1) d (wL K (mq a b G)):=by
 subst ha;subst hn;exact⟨uh.TR D.fn S (fun ts A e=>sL e) fun dw A outer s H E hr=>⟨G,hb S.nd dw A outer s H E hr,fun ts A e=>AE e⟩,D.fn.binds B,D⟩
theorem Qh(N:List Str){a b:Nat}{G:av->Rs Out}(D:d.Ok K mg)(hb:N.Nodup->∀dw A outer s H E,A5 K d k dw A s->QB (RL qg P w K mg base N d dw A outer s H E).CN (dy d.st) G)(S:eB N d.ps (aD d.st):=by exact⟨rfl,rfl,rfl,by decide+kernel,rfl,by decide+kernel,by decide+kernel⟩) (B:RK d:=by exact fun _ _ _ _ _ _=>by first|exact Qc rfl|exact Qd fun _=>rfl|exact Qe fun _ _=>rfl|exact RJ fun _ _ _=>rfl|exact U9 fun _ _ _ _=>rfl|exact U_ fun _ _ _ _ _=>rfl) (ha:d.ps.length=a:=by rfl) (hn:N.length=b:=by rfl):
  AZ P w K mg base qg (k+1) d (spT K (Iw a b G)):=by
 subst ha;subst hn;exact⟨uh.XJ D.fn S (fun ts t e=>GW e) fun dw A outer s H E hr=>⟨G,hb S.nd dw A outer s H E hr,fun ts t e=>Km e⟩,D.fn.binds B,D⟩
theorem Lu(N:List Str){a b:Nat}{G:av->Ab->Rz Out}(D:d.Ok K mg)(hb:N.Nodup->∀dw A outer s H E,A5 K d k dw A s->ZB (RL qg P w K mg base N d dw A outer s H E).CN (dy d.st) G)(S:eB N d.ps (aD d.st):=by exact⟨rfl,rfl,rfl,by decide+kernel,rfl,by decide+kernel,by decide+kernel⟩) (B:RK d:=by exact fun _ _ _ _ _ _=>by first|exact Qc rfl|exact Qd fun _=>rfl|exact Qe fun _ _=>rfl|exact RJ fun _ _ _=>rfl|exact U9 fun _ _ _ _=>rfl|exact U_ fun _ _ _ _ _=>rfl) (ha:d.ps.length=a:=by rfl) (hn:N.length=b:=by rfl):
  AZ P w K mg base qg (k+1) d (spT K (sH a b G)):=by
 subst ha;subst hn;exact⟨uh.TQ D.fn S (fun ts t e=>DY e) fun dw A outer s H E hr=>⟨G,hb S.nd dw A outer s H E hr,fun ts t e=>Hb e⟩,D.fn.binds B,D⟩
theorem AZ.da {CX:yT}{sp:Sp}{x:Str}(C:AZ P w K mg base CX n d sp)(hc:d.c=none)(hx:d.x=x)(hq:d.q=x):uI K mg x d.st d.ps (d.adr K) (d.fd K):=
 ⟨by have f:=C.df.fn;rw[hx,hq]at f;exact f,C.bd,by have m:=C.df.m0 hc;rw[hx]at m;exact m⟩
structure U'(K:Frag)(mg:Str->Option Value)(c:Str):Prop where
 m:makesIn K (clsAt K c)=true
 k:keepIn K (.ref (clsAt K c))=true
 g:mg c=some (.ref (clsAt K c))
end
section
variable {X:Cx}{d:Df}{n k:Nat}{o e l:Expr}{es:List Expr}{p kp pos apos:Pos}{x c m:Str}
section
variable {F O:av->Rs Tr}{L:av->Rs (List Tr)}{h:List Tr->Rs Tr}(C:AZ X.prog X.w X.K X.mg X.base qg n d (spT X.K h))
include C
theorem tm(hr:dC k X.A)(ha:QA X (e::es) L)(hn:n<=k:=by first|decide|omega) (hc:d.c=none:=by rfl) (hx:d.x=x:=by rfl) (hq:d.q=x:=by rfl) (hg:Gl X x:=by rfl) (iS:(x==("__debug__":Str))=false:=by decide) (eJ:bx (e::es)=true:=by rfl):QE X (.Call (.Name x p) (e::es) [] pos) (fun ρ=>ba h (L ρ)):=
 OP (C.da hc hx hq) (C.ok.mono hn) hr ha hg iS eJ
end
section
variable {F:av->Ab->Rz Tr}{L:av->Ab->Rz (List Tr)}{h:List Tr->Ab->Rz Tr}(C:AZ X.prog X.w X.K X.mg X.base (qv X.prog X.w) n d (wL X.K h))
include C
theorem l9(hr:dC k X.A)(ha:ZL X (e::es) L)(hn:n<=k:=by first|decide|omega) (hc:d.c=none:=by rfl) (hx:d.x=x:=by rfl) (hq:d.q=x:=by rfl) (he:X.ex=[]:=by rfl) (hg:Gl X x:=by rfl) (iS:(x==("__debug__":Str))=false:=by decide) (eJ:bx (e::es)=true:=by rfl):ZE X (.Call (.Name x p) (e::es) [] pos) (fun ρ A=>(L ρ A).bind h):=
 OV (C.da hc hx hq) (C.ok.mono hn) hr ha he hg iS eJ
end
end
end L2
namespace L2
open PySem PySem.Spec PyProof.Rows PySem.W
theorem E1{k:Nat}{A:Around}(hr:dC k A):A.units+4<cLine:=by have:=hr.un;omega
structure TabAt(K:Frag)(x:Str)(c P:Addr):Prop where
 t:tabIn K x=some (c,P)
 h:CA K c P=true
theorem E2{K:Frag}{x:Str}{c P:Addr}(h:tabIn K x=some (c,P)):(Qg K (clsAt K x)).code=.ref c:=by
 unfold tabIn at h;unfold Qg clsAt;split at h
 ·rename_i f hf;rw[hf];split at h
  ·rename_i fd _ NK;show(match K.lookup f with|some ⟨_,_,.func d,_⟩=>d|_=>default).code=_;rw[NK];split at h
   ·rename_i c' hc;split at h
    ·split at h
     ·cases h;exact hc
     ·cases h
    ·cases h
   ·cases h
  ·cases h
 ·cases h
section
variable {P:Program}{w:World}{K:Frag}{mg:Str->Option Value}{base:Heap}{d:Df}{N:List Str}{k n:Nat}
theorem Qi(N:List Str){a b:Nat}{G:av->Ab->Rz Out}(D:d.Ok K mg)(hb:N.Nodup->∀dw A outer s H E,dw=(d.fd K).code->A5 K d k dw A s->ZB (RL (qv P w) P w K mg base N d dw A outer s H E) (dy d.st) G)(S:eB N d.ps (aD d.st):=by exact⟨rfl,rfl,rfl,by decide+kernel,rfl,by decide+kernel,by decide+kernel⟩) (B:RK d:=by exact fun _ _ _ _ _ _=>by first|exact Qc rfl|exact Qd fun _=>rfl|exact Qe fun _ _=>rfl|exact RJ fun _ _ _=>rfl|exact U9 fun _ _ _ _=>rfl|exact U_ fun _ _ _ _ _=>rfl) (ha:d.ps.length=a:=by rfl) (hn:N.length=b:=by rfl):
  AZ P w K mg base (qv P w) (k+1) d (wL K (mq a b G)):=by
 subst ha;subst hn;refine⟨?_,D.fn.binds B,D⟩;obtain⟨oc,od,kV,doc,pm,an,dw,ct,z6,e9,lk,pQ⟩:=D.fn.ex;have YV:dw=(d.fd K).code:=by rw[e9]
 rw[e9]at lk⊢;have nb:∀{B:bN} {A:Ab} {H:Hp} {E:XK} {ts:List Tr} {k:Tr->Ab->Prop},cJ (TC K B H E) (mq d.ps.length N.length G ts A) k->mq d.ps.length N.length G ts A≠ .bad:=fun{B A H E ts k} q z=>by rw[z]at q;exact q
 refine Dj lk pQ S (fun vs H Q E ⟨B,A,ts,ha,r,q⟩=>by rw[r.length];exact sL (nb q)) fun A outer s H vs Q E hr ⟨B,A1,ts,ha,r,q⟩=>?_
 have hG:=(hb S.nd dw A outer s H E YV hr).h;refine⟨_,hG,B,H,B,A1,startT N.length ts,ha.hb,.refl,ha,a_.start r,mn,?_⟩;rw[AE (nb q)]at q;refine(cJ.bind q).imp (fun c A2 z B' H' g dz e s x=>xG x (z B' H' g dz))|>.mono fun o A2 z=>?_
 cases o with
 |nx ρ=>exact fun bM B' H' g dz r' n'=>z .dv B' H' g dz .dv
 |ret t=>exact fun v B' H' g dz r'=>z v B' H' g dz r'
 |bk ρ=>exact(show False from z).elim
 |ct ρ=>exact(show False from z).elim
end
theorem Hz{X:Cx}{d x PY q:Str}{c P:Addr}{p pd p1 p2 p3 p4 p5 kp pos Lm:Pos}{n1 k:Nat}{params:Arguments}{scope:Scope}(i:Nat)(hr:dC (k+2) X.A)(T:TabAt X.K PY c P)(vc:X.env.code=.ref c)(hm:X.mg "sorted"=none)(hN:X.N[i]?=some d:=by rfl) (Ln:X.env.scope.names.lookup d=some .cell:=by rfl)
  (S:EL scope d x:=by exact⟨rfl,rfl,rfl,rfl,rfl,by decide,by decide,by decide,by decide⟩) (MF:∀y∈scope.names,y.2=.free->y.1=d:=by decide) (hq:X.env.qual++"<lambda>"=q:=by rfl)
  (Lo:defaultsOf params X.env=([],[]):=by rfl) (xl:∀(nm qual:Str) (p_:List (Str×Addr)) (pm:Value) (c':Addr) (zI v:Value),bindArgs (PySem.W.kla_fn nm qual params (Cz d x p1 p2 p3 p4 p5 n1) scope p_ pm (.ref c') zI) ⟨[v],[]⟩=pure [(x,v)]:=by exact fun _ _ _ _ _ _ _=>rfl)
  (MM:X.env.globals=mainGlobals:=by rfl) (hc:X.calm=true:=by rfl) (hg:Gl X "sorted":=by rfl) (hk:X.env.kindOf d=some .cell:=by rfl):
  ZE X (.Call (.Name "sorted" p) [.Name d pd] [⟨some "key",.Lambda params (Cz d x p1 p2 p3 p4 p5 n1) scope Lm,kp⟩] pos) (fun ρ A=>lp PY q (ar ρ i) A):=
 ⟨Hv (pV hr) (by have:=hr.dp;omega) T.t T.h vc hm hN Ln S MF hq Lo xl MM hc hg (fun env=>by have:=hr.un;show X.A.units+1+1+3+1<cLine;omega) hk⟩
end L2
namespace L2
open PySem PySem.Spec PySem.Calls PyProof.Rows
def MN(h:Heap):Value->List Int
 |.ref a=>match h.get? a with
  |some o=>match o.data with
   |.seq xs _=>match xs.toList with
    |[.int a _,.int b _]=>[a,b]
    |_=>[]
   |_=>[]
  |none=>[]
 |_=>[]
theorem Lw{h:Heap}{v:Value}{a b:Int}(x:v7 h v a b):MN h v=[a,b]:=by
 obtain⟨ad,o,t,u,n,rfl,h1,h2,h3⟩:=x;unfold MN;simp only[h1,h3]
def A6(ts:List Tr):Bool:=ts.all fun t=>(dQ t).length==2
theorem Qj{t:Tr}(h:((dQ t).length==2)=true):∃a b,t=.tup [.int a,.int b]:=by
 unfold dQ at h;unfold FR at h;split at h
 ·exact⟨_,_,rfl⟩
 ·cases h
 ·cases h
def pE(x y:Tr):Bool:=decide (dQ y=dQ x)
theorem Lx{x y:Tr}(hx:((dQ x).length==2)=true)(hy:((dQ y).length==2)=true):eqT y x=pE x y:=by
 obtain⟨a,b,rfl⟩:=Qj hx;obtain⟨c,d,rfl⟩:=Qj hy;show((c==a)&&((d==b)&&true))=decide ([c,d]=[a,b]);by_cases e1:c=a
 ·by_cases e2:d=b
  ·subst e1 e2;simp
  ·simp[e1,e2]
 ·simp[e1]
section
variable {X:Cx}{pins:List (Addr×Obj)}{σ:St}{H:Hp}{s:Shared}{B:bN}
theorem E3(I:Inv X pins σ H s){v:V}{t:Tr}{u:Value}(r:Rep X.K (aN B H) v t)(h:((dQ t).length==2)=true)(rv:RelV v u):MN s.heap u=dQ t:=by
 obtain⟨a,b,rfl⟩:=Qj h;exact Lw (qG I r rv)
theorem E4(I:Inv X pins σ H s){x:Tr}:∀{vs:List V} {ts:List Tr} {us:List Value},aJ X.K (aN B H) vs ts->A6 ts=true->Vals vs us->us.map (fun u=>decide (MN s.heap u=dQ x))=ts.map (pE x)
 |[],_,_,r,_,rv=>by cases r;cases rv;rfl
 |_::_,_,_,r,f,rv=>by
  cases r with
  |cons h r=>
   cases rv with
   |cons h1 rv=>
    unfold A6 at f;rw[d_,aE]at f;rw[aC,aC,E3 I h f.1 h1,E4 I r f.2 rv]
    rfl
theorem I_(I:Inv X pins σ H s){A:Around}(hu:A.units+1<cLine){x:V}{t:Tr}{v:Value}(rx:Rep X.K (aN B H) x t)(p:((dQ t).length==2)=true)(rv:RelV x v):∀{vs:List V} {ts:List Tr} {us:List Value},aJ X.K (aN B H) vs ts->A6 ts=true->Vals vs us->∀u∈us,SeqAt.EqAt A s u v (decide (MN s.heap u=dQ t))
 |[],_,_,r,_,q=>fun u m=>by cases q;cases m
 |_::_,_,_,r,f,q=>fun u m=>by
  cases r with
  |cons h r=>
   cases q with
   |cons h1 q=>
    unfold A6 at f;rw[d_,aE]at f;rcases a8.mp m with rfl|m
    ·rw[E3 I h f.1 h1];have e:=Lx p f.1;obtain⟨a,b,rfl⟩:=Qj f.1;obtain⟨c,d,rfl⟩:=Qj p;show SeqAt.EqAt A s u v (pE _ _);rw[<-e];exact xA I 1 (by show 0+1<=1;decide) rfl rfl h.up rx.up h1 rv hu
    ·exact I_ I hu rx p rv r f.2 q u m
end
def yq(ts:List Tr)(x:Tr):Rs Tr:=if A6 [x]=true/\A6 ts=true then(match ts.findIdx? (pE x)with|some j=>.ok (.int j)|none=>.bad)else .bad
theorem Va{x:Tr}(h:A6 [x]=true):((dQ x).length==2)=true:=by
 unfold A6 at h;rw[d_,aE]at h;exact h.1
section
variable {X:Cx}{o e:Expr}{F G:av->Rs Tr}{apos gk:Pos}
def E5(r a:Rs Tr):Rs Tr:=r.bind fun t=>match t with
 |.tup ts=>a.bind fun x=>yq ts x
 |_=>.bad
theorem E6{α β:Type}{f:α->Bool}{g:β->Bool}{us:List α}{ts:List β}{j:Nat}(e:us.map f=ts.map g)(h:ts.findIdx? g=some j):∃hj:j<us.length,f us[j]=true/\∀m (hm:m<us.length),m<j->f us[m]=false:=by
 obtain⟨hj,h1,h2⟩:=wO.mp h;have hl:us.length=ts.length:=by have q:=b9 List.length e;rw[ak,ak]at q;exact q
 have at_:∀(i:Nat) (h1:i<us.length) (h2:i<ts.length),f us[i]=g ts[i]:=fun i h1 h2=>by
  have q:=b9 (fun l:List Bool=>l[i]?) e;simp only[aL,ay h1,ay h2]at q;exact Option.some.inj q
 refine⟨by rw[hl];exact hj,by rw[at_ j _ hj];exact h1,fun m hm Vb=>?_⟩;rw[at_ m hm (by rw[<-hl];exact hm)];have q:=h2 m Vb;cases z:g ts[m]with
 |false=>rfl
 |true=>exact absurd z q
theorem E7(hu:X.A.units+4<cLine)(ho:QE X o F)(he:QE X e G)(so:isCall o=false:=by rfl) (eJ:bx [e]=true:=by rfl) (sq:(apos.endLine==gk.line)=true:=by rfl):QE X (.Call (.Attribute o "index" apos) [e] [] gk) (fun ρ=>E5 (F ρ) (G ρ)):=by
 refine⟨fun pins s σ H Q I ⟨B,ρ,hb,r,q⟩=>?_⟩;have hO:=ho.h pins s σ H (fun v H1=>∃t,Fi X H (match t with
  |.tup ts=>(G ρ).bind fun x=>yq ts x
  |_=>Rs.bad) (fun t=>∀v H',aw H H'->Rep X.K (aN B H') v t->Q v H')/\aw H H1/\Rep X.K (aN B H1) v t) I ⟨B,ρ,hb,r,(Fi.bind q).mono fun t qt v H1 s1 r1=>⟨t,qt,s1,r1⟩⟩
 refine wpAny_Call_method_late (Af so) (by rw[sy eJ];rfl) sq rfl (dN hO fun v s1 ⟨x,H1,I1,YW,t,qt,sm,r1⟩=>?_);split at qt
 ·rename_i ts;obtain⟨a,vs,rfl,hq,rr⟩:=r1.fJ;cases(show v=Value.ref a from YW);have Wt:H1 a=some (.tup vs):=aK _ _ hq;obtain⟨hz,aV,rv,⟨ob,g1,g2,n,g3,g4⟩⟩:=I1.bV a _ Wt;refine⟨"tuple","tuple.index",PySem.F.plainAttrs_tuple,PySem.F.slot_tuple_index,PySem.F.type_tuple_index,⟨ob,g1,g2⟩,fun a ea=>by cases ea;exact⟨ob,g1,g4⟩,?_⟩;have hA:=(DG he.h Iq (aU eJ).1) gk pins s1 σ H1 (fun ws H3=>∃y ty,ws=[y]/\aw H1 H3/\Rep X.K (aN B H3) y ty/\Fi X H (yq ts ty) fun t=>∀v H',aw H H'->Rep X.K (aN B H') v t->Q v H') I1 ⟨B,ρ,hb.same sm,r.same sm,(Tz (B:=B) sm (Fi.bind qt)).mono fun zs ⟨x,ez,qx⟩ ws H3 s3 r3=>by
   subst ez;obtain⟨y,rfl,ry⟩:=h8 r3;exact⟨y,x,rfl,s3,ry,qx⟩⟩
  rw[bC _ _ (aU eJ).1]at hA⊢;refine Calls.callWith_builtin (by show(false||(backTo gk (starEach [] X.env)).any (·.1))=false;rw[cx (es:=[]) rfl];rfl) (Calls.evalArgs_plain ?_);refine dN hA fun us s4 ⟨ws,H4,I4,r4,y,ty,ew,Ly,ry,qf⟩=>?_
  subst ew;obtain⟨u,rfl,ru⟩:=vals1 r4;have YX:H4 a=some (.tup vs):=Ly _ _ Wt;have Wu:aJ X.K (aN B H4) vs ts:=rr.same (aT Ly);obtain⟨Qk,Wv,pl,ZH⟩:=I4.tuple (.inl (.inl YX));unfold yq at qf;obtain⟨f,qf⟩:(A6 [ty]=true/\A6 ts=true)/\Fi X H (match ts.findIdx? (pE ty)with|some j=>Rs.ok (Tr.int j)|none=>.bad) fun t=>∀v H',aw H H'->Rep X.K (aN B H') v t->Q v H':=by
   by_cases z:A6 [ty]=true/\A6 ts=true
   ·rw[ab z]at qf;exact⟨z,qf⟩
   ·rw[ae z]at qf;exact(show False from qf).elim
  cases e:ts.findIdx? (pE ty)with
  |none=>rw[e]at qf;exact(show False from qf).elim
  |some j=>
   rw[e]at qf;obtain⟨hj,k1,k2⟩:=E6 (E4 I4 (x:=ty) Wu f.2 Wv) e;obtain⟨⟨cls,dd,data,sl⟩,Ww,Wx,n4,Wy⟩:=(show s4.heap.IsTuple a Qk.toArray from pl);simp only at Wx Wy;subst Wx Wy;refine hJ PySem.F.slot_tuple_index ⟨_,Ww,rfl⟩ PySem.F.entry_tuple_index (PySem.F.args_tuple_index_2 _ _) (SeqAt.um a Qk.toArray n4 dd sl u (fun u=>decide (MN s4.heap u=dQ ty)) j (by simpa using hj) (by simpa using k1) fun m hm Vb=>by simpa using k2 m (by simpa using hm) Vb) ⟨Ww,fun y hy=>I_ I4 (A:=X.A.in1) (by show X.A.units+1+1<cLine;omega) ry (Va f.1) ru Wu f.2 Wv y (by simpa using hy),?_⟩;exact⟨.int j,H4,I4.tok _,⟨_,rfl⟩,qf _ H4 (sm.trans Ly) (.int _)⟩
 ·exact(show False from qt).elim
end
end L2
namespace L2
open PySem PySem.Spec PySem.Calls PyProof.Rows
def zL(aA:List (List Key×Tr)):List Tr:=aA.map fun p=>.tup (p.1.map l6)
def o7:List Tr->Rs Tr
 |[.aI aA]=>if aA.all (fun p=>p.1.all keyOk)=true/\t_ (zL aA)=true then .ok (.lst (dR (zL aA)))else .bad
 |_=>.bad
section
variable {X:Cx}{pins:List (Addr×Obj)}{σ:St}{H:Hp}{s:Shared}{B:bN}
theorem zM{l:List (List Key×V)}{m:List (List Key×Addr×Value)}(q:KT H l m)(hb:HB B H){K:PySem.W.Frag}:∀{aA:List (List Key×Tr)},l.map (·.1)=aA.map (·.1)->aA.all (fun p=>p.1.all keyOk)=true->Vals (m.map fun x=>V.ref x.2.1) (m.map fun x=>Value.ref x.2.1)/\aJ K (aN B H) (m.map fun x=>V.ref x.2.1) (zL aA):=by
 induction q with
 |nil=>
  intro aA e _;cases aA with
  |nil=>exact⟨.nil,.nil⟩
  |cons _ _=>cases e
 |@cons p q ps qs hq t ih=>
  intro aA e hk;cases aA with
  |nil=>cases e
  |cons kt aA=>
   rw[aC,aC]at e;injection e with e1 e2
   rw[d_,aE]at hk;obtain⟨i1,i2⟩:=ih e2 hk.2;obtain⟨h1,h2,_⟩:=hq;refine⟨.cons rfl i1,.cons ?_ i2⟩;rw[e1]at h2;exact .tup (hb.tup h2) (oU hk.1)
theorem A7(I:Inv X pins σ H s)(hb:HB B H){v:V}{aA:List (List Key×Tr)}(r:Rep X.K (aN B H) v (.aI aA))(hk:aA.all (fun p=>p.1.all keyOk)=true):
  ∃(a:Addr) (o:Obj) (es:Array DictEntry) (ep:Nat) (vs:List V) (us:List Value),v=.ref a/\(a==sysModules)=false/\s.heap.get? a=some o/\o.cls=.type "dict"/\o.data=.dict es ep/\es.size<=sizeLine/\es.toList.map (·.key)=us/\Vals vs us/\aJ X.K (aN B H) vs (zL aA):=by
 obtain⟨a,ax,rfl,h,e,rr⟩:=r.qB;obtain⟨hz,hs,xs,rel,o,es,ep,g1,g2,g3,g4,g5⟩:=(show bY X.prog X.w H s.heap a (.dT ax)from(h.same aK).ok I.bV);obtain⟨k1,k2⟩:=zM (K:=X.K) rel hb e hk;have hsz:es.size=xs.length:=by rw[<-bc,g4,ak]
 refine⟨a,o,es,ep,_,_,rfl,hs,g1,g2.1,g3,by rw[hsz,<-Paired.length rel];exact hz,?_,k1,k2⟩;rw[g4,bG]
 rfl
theorem CB(hu:X.A.units+4<cLine)(hc:X.calm=true):jl X (.builtin "sorted") o7:=by
 intro pins s σ H xs us Q I rv ⟨B,ts,hb,r,q⟩;have key:∃aA,ts=[.aI aA]/\aA.all (fun p=>p.1.all keyOk)=true/\t_ (zL aA)=true/\∀v H',aw H H'->Rep X.K (aN B H') v (.lst (dR (zL aA)))->Q v H':=by
  unfold o7 at q;split at q
  ·obtain⟨h0,z⟩:=eV q;exact⟨_,rfl,h0.1,h0.2,z⟩
  ·exact(show False from q).elim
 obtain⟨aA,rfl,hk,ok,k⟩:=key;obtain⟨x,rfl,h⟩:=h8 r;obtain⟨u,rfl,ru⟩:=vals1 rv;obtain⟨a,o,es,ep,vs,us,rfl,hs,g1,g2,g3,hz,Lz,uY,rr⟩:=A7 I hb h hk;cases(show u=Value.ref a from ru);obtain⟨_,yJ,nd,same⟩:=sY ok;obtain⟨hl,ht⟩:=u_ I ok rr uY;have hz:us.length<=64:=by rw[hl,ak];omega
 refine call_function_entry kind_sorted plain_sorted entry_sorted (args_sorted1 _) ?_
 unfold Builtin.«sorted»;refine aa (m:=checkCount "sorted" 1 1 _) (af ?_);refine aa (jQ (A:=X.A.in1) (I.ok.hd hc) hs g1 g2 g3 (by assumption) fun h1 tk v9=>?_);rw[Lz];refine aa (jd ?_ (by simpa using aZ hz (by decide)));have zZ:(h1.push (seqObj "list" us.toArray 0)).get? h1.objs.size=some (seqObj "list" us.toArray 0):=aQ _ rfl;refine aa (cu (dM slot_list_sort ⟨_,zZ,rfl⟩ nk (sZ (tk:=tk) (d:=s.drawn) hu I v9 uY hl ht nd (by rw[ak];exact yJ) same (fun D hD=>k _ _ (aw.upd hD) (.vI hb hD (u9 ok rr))) fun s' he=>⟨_,rfl,af ⟨_,rfl,he⟩⟩) (args_list_sort _)))
end
end L2
namespace PySem
open PySem PySem.Spec PySem.Calls PyProof.Rows L2
theorem yr(a:Addr)(o:Obj)(es:Array DictEntry)(ep:Nat)(lo:(a==sysModules)=false)(hc:o.cls=.type "dict")(hd:o.data=.dict es ep)(hn:es.size<=sizeLine):Meets (Builtin.«tuple.__new__» ⟨[.type "tuple",.ref a],[]⟩)
  (fun A R s=>A.handled=none/\s.heap.get? a=some o/\∀(h':Heap) (tk:Nat),(∀b o,s.heap.get? b=some o->h'.get? b=some o)->R (.ok (.ret (.ref h'.objs.size))) {s with heap:=h'.push {cls:=.type "tuple",data:=.seq (es.toList.map (·.key)).toArray},toks:=tk}):=
 .of_wp fun prog w A R s ⟨hh,hm,h⟩=>by
  have q1:=sub_tuple_self;have q2:=init_tuple_lookup;have q3:=madeHere_tuple;have q4:s.TypeIs (.ref a) "dict":=⟨o,hm,hc⟩
  wp_walk using fo q4,jQ (show A.in1.handled=none from hh) lo hm hc hd hn
  intro h' tk hk;show wpAny _ _ (Builtin.Tuple.tupleExact (es.toList.map (·.key)).toArray>>=fun v=>ret v) _ _ _;unfold Builtin.Tuple.tupleExact;refine aa (cB ?_ (show(es.toList.map (·.key)).toArray.size<=sizeLine by simpa using hn));exact af ⟨_,rfl,h h' tk hk⟩
end PySem
namespace L2
open PySem PySem.Spec PySem.Calls PyProof.Rows
def vd:List Tr->Rs Tr
 |[.aI aA]=>if aA.all (fun p=>p.1.all keyOk)=true then .ok (.tup (zL aA))else .bad
 |_=>.bad
section
variable {X:Cx}
theorem E8(hc:X.calm=true):jl X (.type "tuple") vd:=by
 intro pins s σ H xs us Q I rv ⟨B,ts,hb,r,q⟩;have key:∃aA,ts=[.aI aA]/\aA.all (fun p=>p.1.all keyOk)=true/\∀v H',aw H H'->Rep X.K (aN B H') v (.tup (zL aA))->Q v H':=by
  unfold vd at q;split at q
  ·obtain⟨h0,z⟩:=eV q;exact⟨_,rfl,h0,z⟩
  ·exact(show False from q).elim
 obtain⟨aA,rfl,hk,k⟩:=key;obtain⟨x,rfl,h⟩:=h8 r;obtain⟨u,rfl,ru⟩:=vals1 rv;obtain⟨a,o,es,ep,vs,us,rfl,hs,g1,g2,g3,hz,Lz,uY,rr⟩:=A7 I hb h hk;cases(show u=Value.ref a from ru);refine callType_new F.called_tuple (by decide) (F.typeCall_tuple_1 _) (F.newCall_tuple_1 _) (fun obj=>F.args_object_init_2 obj _) F.entry_tuple_new (yr a o es ep hs g2 g3 hz) ⟨I.ok.hd hc,g1,fun h' tk kp=>⟨⟨_,aQ _ rfl,rfl⟩,?_⟩⟩;rw[Lz];have I1:Inv X pins σ H {s with heap:=h',toks:=tk}:=I.kept (t':=tk) kp;have hl:us.length<=sizeLine:=by rw[<-Lz,ak,bc];exact hz
 have I2:Inv X pins σ (upd H h'.objs.size (.tup vs)) {s with heap:=h'.push {cls:=.type "tuple",data:=.seq us.toArray},toks:=tk}:=
  I1.laid (t':=tk) (fun b o e=>aB _ e) (aq _) (show bY X.prog X.w _ _ _ (.tup vs)from⟨by rw[uY.length];exact hl,us,uY,iJ.new _ _⟩)
 have hf:=I1.bV.fresh (aq h'.objs.size);exact⟨.ref h'.objs.size,_,I2,rfl,k _ _ (aw.upd hf) (.DO hb hf rr)⟩
end
end L2
namespace L2
open PySem PySem.Spec PySem.Calls PyProof.Rows
def yt(r:Rz Tr):Rz (List Tr):=r.bind fun t A=>match t with
 |.tup ts=>.ok ts A
 |_=>.bad
section
variable {X:Cx}{tg iter:Expr}{body:List Stmt}{T:iU}{G:av->Ab->Rz Out}{pos:Pos}
inductive Vc(X:Cx)(F:av->Ab->Rz Tr)(σ:St)(H:Hp)(R:It->Hp->Prop):Prop
 |mk (B:bN) (A:Ab) (ρ:av):HA X.K B A H->a_ X.K B H σ ρ->cQ ρ->(cJ (XE X B H) (F ρ A) fun t A'=>∃ts,t=.tup ts/\∀J B' H',Grows B H B' H'->HA X.K B' A' H'->kP X.K B' J H' ts->R J H')->Vc X F σ H R
theorem E9{F:av->Ab->Rz Tr}(h:PE X iter (tE X F)):PI X tg iter (Vc X F):=by
 intro pins s σ H R I ⟨B,A,ρ,ha,r,n,q⟩;refine dN (h pins s σ H (fun x H1=>∃a vs,x=.ref a/\kG X.K H1 a vs/\R (Sl X.K a) H1) I ⟨B,A,ρ,ha,r,n,q.mono fun t A1 ⟨ts,et,k⟩ v B1 H1 g1 fI rv=>?_⟩) fun v s1 ⟨x,H1,I1,r1,a,vs,ex,e1,k⟩=>?_
 ·subst et;obtain⟨a,vs,rfl,h,rr⟩:=rv.eC;exact⟨a,vs,rfl,aw.tup aK h,k _ B1 H1 g1 fI (uM h rr)⟩
 ·subst ex;cases r1;obtain⟨aV,rv,p,hz⟩:=I1.tuple e1;refine mZ (show s1.heap.IsTuple a aV.toArray from p) ⟨s1.heap.objs.size,[s1.heap.objs.size],_,_,H1,rfl,I1.kept (t':=s1.toks) fun b o e=>aB _ e,r_ a _,⟨_,aQ _ rfl,rfl,rfl⟩,fun b hb=>?_,k⟩;rw[cn.mp hb];exact I1.vt (aq _) (I1.bV.fresh (aq _))
theorem LA{F:av->Ab->Rz Tr}(hi:ZE X iter F)(hg:QG X tg T)(hT:fx T)(hb:ZB X body G)(hp:PassesOwn (model X.prog X.w) X.A X.env X.xe:=by first|exact g7|exact gY) (hc:X.calm=true:=by rfl)
  (hs:isSet iter=false:=by rfl):ZS X (.For tg iter body [] pos) (fun ρ A=>gz T G (yt (F ρ A)) ρ):=
 ⟨(vw hp hc (E9 hi.h) hg.h hb.h (cG hs)).weak fun D σ H ⟨B0,H0,B,A,ρ,nR,g,ha,r,n,q⟩=>⟨B,A,ρ,ha,r,n,((cJ.bind (cJ.bind q)).imp fun c A' x=>x.grow nR g).mono fun t A1 qt=>by
   have key:∃ts,t=.tup ts/\cJ (XE X B0 H0) (fz T G ts ρ A1) (iD X D B0 H0):=by
    split at qt
    ·exact⟨_,rfl,qt⟩
    ·exact(show False from qt).elim
   obtain⟨ts,et,qt⟩:=key;refine⟨ts,et,fun J B1 H1 IP fI gt=>?_⟩;have g1:Grows B0 H0 B1 H1:=g.trans nR IP;have uk:HB B1 H1:=fI.hb;refine⟨fun i m bM H'=>m=ts.length - i/\i<=ts.length/\∃B' A' dF,Grows B1 H1 B' H'/\HA X.K B' A' H'/\a_ X.K B' H' bM dF/\cQ dF/\cJ (XE X B0 H0) (fz T G (ts.drop i) dF A') (iD X D B0 H0),⟨_,rfl,bK _,B1,A1,ρ,.refl,fI,r.grow n IP,n,qt⟩,?_⟩
   rintro i m bM H' ⟨rfl,hi,B',A',dF,g',dz,r',n',q'⟩
   by_cases dO:i<ts.length
   ·rw[jB dO]at q';refine .inr ⟨gt.go i B' H' dO g'.eR dz.hb,fun mC H2=>∃B2 A2 ρ2,Grows B1 H1 B2 H2/\HA X.K B2 A2 H2/\a_ X.K B2 H2 mC ρ2/\cQ ρ2/\cJ (XE X B0 H0) (fz T G (ts.drop (i+1)) ρ2 A2) (iD X D B0 H0),
     fun mC H2 x=>⟨ts.length - (i+1),by omega,rfl,dO,x⟩,fun x H2 hx=>?_⟩
    obtain⟨s2,t,et,rt⟩:=gt.yO i B' H' x H2 dO g'.eR dz.hb hx;have GI:ts[i]=t:=by rw[ay dO]at et;exact Option.some.inj et
    rw[GI]at q';have g2:Grows B1 H1 B' H2:=g'.trans uk (.of s2);refine Ay hT uk g2 (dz.same s2) (r'.same s2) n' rt (cJ.bind q') fun ρ1 wG H3 q1 g3 wJ r3 n3 _=>?_
    refine⟨B1,H1,B',A',ρ1,uk,g3,wJ,r3,n3,((cJ.bind q1).imp fun c Tv x=>x.grow nR g1).mono fun o A4 qo=>?_⟩;cases o with
    |nx ρ2=>exact fun xH B4 H4 g4 jJ r4 n4=>⟨B4,A4,ρ2,g4,jJ,r4,n4,qo⟩
    |ct ρ2=>exact fun xH B4 H4 g4 jJ r4 n4=>⟨B4,A4,ρ2,g4,jJ,r4,n4,qo⟩
    |bk ρ2=>exact fun xH B4 H4 g4 jJ r4 n4=>qo xH B4 H4 (g1.trans nR g4) jJ r4 n4
    |ret t=>exact fun v B4 H4 g4 jJ r4=>qo v B4 H4 (g1.trans nR g4) jJ r4
   ·have e:i=ts.length:=by omega
    subst e;rw[i6]at q';exact .inl ⟨gt.stop B' H' g'.eR,q' bM B' H' (g1.trans nR g') dz r' n'⟩⟩⟩
end
end L2
namespace L2
open PySem PySem.Spec PySem.Calls PyProof.Rows
def CC(ix:List (Option Nat))(T:iU)(A:av->Rs Bool)(F:av->Rs Tr)(r:Rz (List Tr))(ρ:av):Rz Tr:=r.bind fun ts A'=>aj (ij ix T A F (.ok ts) ρ) A'
section
variable {X:Cx}{tg iter elt:Expr}{ifs:List Expr}{T:iU}{A:av->Rs Bool}{F:av->Rs Tr}{F0:av->Ab->Rz Tr}{pos:Pos}{ix:List (Option Nat)}{scope:Scope}{N':List Str}
theorem CD{σ:St}{H:Hp}{Q:VK}(hT:fx T)(q:tE X (fun ρ A'=>CC ix T A F (yt (F0 ρ A')) ρ) σ H Q):Gu (Vc X F0) ix (CO X.K T) (GH X.K A) (GG X.K F) σ H Q:=by
 obtain⟨B,A',ρ,ha,r,n,q⟩:=q;refine⟨B,A',ρ,ha,r,n,(cJ.bind (cJ.bind q)).mono fun t A1 qt=>?_⟩;have key:∃ts,t=.tup ts/\cJ (XE X B H) (aj (ij ix T A F (.ok ts) ρ) A1) fun t A2=>∀v B' H',Grows B H B' H'->HA X.K B' A2 H'->Rep X.K (aN B' H') v t->Q v H':=by
  split at qt
  ·exact⟨_,rfl,qt⟩
  ·exact(show False from qt).elim
 obtain⟨ts,et,qt⟩:=key;refine⟨ts,et,fun J B1 H1 g1 fI gt D hD=>?_⟩;have ql:Fi X H (if ts.length<=ik then(lH T A F ts (h_ ix ρ)).bind fun ys=>Rs.ok (Tr.lst ys)else .bad) (fun t=>∀v B' H',Grows B H B' H'->HA X.K B' A1 H'->Rep X.K (aN B' H') v t->Q v H'):=gc (X:=X) qt;by_cases hz:ts.length<=ik
 ·rw[ab hz]at ql;exact nF hT (jH ix ρ) fI.hb gt hz ((r.grow n g1).comp ix (ia hD)) hD (Fi.bind ql) fun ys H' k s' rp=>k _ B1 H' (g1.trans ha.hb (.of s')) (fI.same s') rp
 ·rw[ae hz]at ql;exact(show False from ql).elim
end
end L2
namespace L2
open PySem PySem.Spec PySem.Calls PyProof.Rows
theorem YY{k:Nat}{A:Around}(hr:dC k A):A.units+8<cLine:=by have:=hr.units;omega
theorem Ql{k:Nat}{A:Around}(hr:dC k A):A.units+44<cLine:=by have:=hr.units;omega
section
variable {X:Cx}{tg iter elt:Expr}{ifs:List Expr}{T:iU}{A:av->Rs Bool}{F:av->Rs Tr}{F0:av->Ab->Rz Tr}{pos:Pos}{ix:List (Option Nat)}{scope:Scope}{N':List Str}
theorem Qm(Lk:eQ X N' ix scope)(hit:ZE X iter F0)(iT:xM X scope N' tg elt ifs T A F)(hT:fx T)(hc:X.calm=true:=by rfl) (hs:isSet iter=false:=by rfl):
  ZE X (.ListComp elt [⟨tg,iter,ifs,0⟩] scope pos) (fun ρ A'=>CC ix T A F (yt (F0 ρ A')) ρ):=
 ⟨(sv Lk hc (E9 hit.h) iT.to.MC (cG hs)).weak fun σ H Q q=>CD hT q⟩
end
def FU(r:Rz Bool)(k:Ab->Rz Bool):Rz Bool:=r.bind fun c A=>if c then .ok true A else k A
section
variable {X:Cx}{a b c:Expr}{rest:List Expr}{pos:Pos}{P R S:av->Ab->Rz Bool}
theorem pw_orZ(h1:PT X a (CQ X P))(h2:PW X (.BoolOp .Or (b::rest) pos) (CQ X R)):PW X (.BoolOp .Or (a::b::rest) pos) (CQ X fun ρ A=>FU (P ρ A) (R ρ)):=
 (pw_or h1 h2).weak fun σ H Q ⟨B,A,ρ,ha,r,n,q⟩=>⟨B,A,ρ,ha,r,n,(cJ.bind q).mono fun c A1 qc B1 H1 g1 fI=>by
  cases c with
  |false=>exact⟨B1,A1,ρ,fI,r.grow n g1,n,((show cJ (XE X B H) (R ρ A1) _ from qc).imp fun c A' x=>x.grow ha.hb g1).mono fun b A2 qb B2 H2 g2 oQ=>qb B2 H2 (g1.trans ha.hb g2) oQ⟩
  |true=>exact(show∀B' H',Grows B H B' H'->HA X.K B' A1 H'->Q true H' from qc) B1 H1 g1 fI⟩
theorem LB(h1:ZT X a P)(h2:ZT X b R)(h3:ZT X c S):ZT X (.BoolOp .Or [a,b,c] pos) (fun ρ A=>FU (P ρ A) fun A=>FU (R ρ A) (S ρ)):=⟨(pw_orZ h1.h (pw_orZ h2.h (pw_or1 h3.h))).pt⟩
end
end L2
namespace L2
open PySem PySem.Spec PySem.Calls PyProof.Rows
def FV(T:iU)(P:av->Ab->Rz Bool):List Tr->av->Ab->Rz Tr
 |[],_,A=>.ok (.lst []) A
 |t::ts,ρ,A=>match T t ρ with
  |.ok ρ1=>match P ρ1 A with
   |.ok false A=>FV T P ts ρ1 A
   |_=>.bad
  |_=>.bad
def LD(ix:List (Option Nat))(T:iU)(P:av->Ab->Rz Bool)(r:Rs (List Tr))(ρ:av)(A:Ab):Rz Tr:=match r with
 |.ok ts=>FV T P ts (h_ ix ρ) A
 |_=>.bad
def n_(T:iU)(P:av->Ab->Rz Bool)(j:Nat):Nat->Nat->av->Ab->Rz Tr
 |0,_,_,_=>.bad
 |m+1,i,ρ,A=>match A[j]? with
  |some (.lst us)=>match us[i]? with
   |none=>.ok (.lst []) A
   |some t=>match T t ρ with
    |.ok ρ1=>match P ρ1 A with
     |.ok false A=>n_ T P j m (i+1) ρ1 A
     |_=>.bad
    |_=>.bad
  |_=>.bad
def ve(ix:List (Option Nat))(T:iU)(P:av->Ab->Rz Bool)(m:Nat)(r:Rz Tr)(ρ:av):Rz Tr:=r.bind fun t A=>match t with
 |.at j=>match A[j]? with
  |some (.lst _)=>n_ T P j m 0 (h_ ix ρ) A
  |_=>.bad
 |_=>.bad
inductive RM(K:PySem.W.Frag)(P:av->Ab->Rz Bool)(σ:St)(H:Hp)(Q:Bool->Hp->Prop):Prop
 |mk (B:bN) (A:Ab) (ρ:av):HA K B A H->a_ K B H σ ρ->cQ ρ->(∃c A',P ρ A=.ok c A'/\∀B' H',Grows B H B' H'->HA K B' A' H'->Q c H')->RM K P σ H Q
structure RN(X:Cx)(scope:Scope)(N':List Str)(tg c:Expr)(T:iU)(P:av->Ab->Rz Bool):Prop where
 all:∀s H ex,QG (kL X scope N' s H ex) tg T/\ZT (kL X scope N' s H ex) c P
section
variable {X:Cx}{tg iter elt c:Expr}{T:iU}{P:av->Ab->Rz Bool}{pos:Pos}{ix:List (Option Nat)}{scope:Scope}{N':List Str}
theorem RN.to (h:RN X scope N' tg c T P):∀s H ex,PG (kL X scope N' s H ex) tg (CO X.K T)/\PF (kL X scope N' s H ex) [c] (RM X.K P)/\PE (kL X scope N' s H ex) elt (fun _ _ _=>False):=fun s H ex=>by
 obtain⟨h1,h2⟩:=h.all s H ex;exact⟨fun pins s σ H v u Q I r q=>h1.h pins s σ H v u Q I r (DN q),DB (h2.h.weak fun σ H Q ⟨B,A,ρ,ha,r,n,c,A',e,q⟩=>⟨B,A,ρ,ha,r,n,by rw[e];exact q⟩),fun _ _ _ _ _ _ q=>q.elim⟩
theorem LF{W:av->Rs (List Tr)}{σ:St}{H:Hp}{Q:VK}(hT:fx T)(q:tE X (fun ρ A=>LD ix T P (W ρ) ρ A) σ H Q):Gu (tI X W) ix (CO X.K T) (RM X.K P) (fun _ _ _=>False) σ H Q:=by
 obtain⟨B,A,ρ,ha,r,n,q⟩:=q;cases eW:W ρ with
 |exc c=>rw[eW]at q;exact(show False from q).elim
 |bad=>rw[eW]at q;exact(show False from q).elim
 |ok ts=>
  rw[eW]at q;have q:cJ (XE X B H) (FV T P ts (h_ ix ρ) A) (fun t A'=>∀v B' H',Grows B H B' H'->HA X.K B' A' H'->Rep X.K (aN B' H') v t->Q v H'):=q;refine⟨B,ρ,ha.hb,r,?_⟩;rw[eW];intro J H1 s1 gt D hD;have s2:aw H (upd H1 D (.lst [])):=s1.trans (aw.upd hD);have g0:Grows B H B (upd H1 D (.lst [])):=.of s2;refine⟨fun i m bM H'=>m=ts.length - i/\i<=ts.length/\∃B' A' dF,Grows B (upd H1 D (.lst [])) B' H'/\HA X.K B' A' H'/\a_ X.K B' H' bM dF/\cQ dF/\Rep X.K (aN B' H') (.ref D) (.lst [])/\cJ (XE X B H) (FV T P (ts.drop i) dF A') (fun t A'=>∀v B' H',Grows B H B' H'->HA X.K B' A' H'->Rep X.K (aN B' H') v t->Q v H'),
   ⟨_,rfl,bK _,B,A,_,.refl,ha.same s2,r.comp ix (aT s2),jH ix ρ,.vI (ha.hb.same s1) hD .nil,q⟩,?_⟩
  rintro i m bM H' ⟨rfl,hi,B',A',dF,g',dz,r',n',rd,q'⟩
  have eR:cD (aN B H1) (aN B' H'):=(aT (aw.upd hD)).trans g'.eR;by_cases dO:i<ts.length
  ·rw[jB dO]at q';refine .inr ⟨gt.go i B' H' dO eR dz.hb,fun mC H2=>∃B2 A2 ρ2,Grows B (upd H1 D (.lst [])) B2 H2/\HA X.K B2 A2 H2/\a_ X.K B2 H2 mC ρ2/\cQ ρ2/\Rep X.K (aN B2 H2) (.ref D) (.lst [])/\cJ (XE X B H) (FV T P (ts.drop (i+1)) ρ2 A2) (fun t A'=>∀v B' H',Grows B H B' H'->HA X.K B' A' H'->Rep X.K (aN B' H') v t->Q v H'),
    fun mC H2 x=>⟨ts.length - (i+1),by omega,rfl,dO,x⟩,fun x H2 hx=>?_⟩
   obtain⟨s3,t,et,rt⟩:=gt.yO i B' H' x H2 dO eR dz.hb hx;have GI:ts[i]=t:=by rw[ay dO]at et;exact Option.some.inj et
   rw[GI,FV]at q';split at q'
   ·rename_i ρ1 eT;refine⟨B',dF,t,dz.hb.same s3,r'.same s3,rt,ρ1,eT,fun wG H3 s4 r3=>?_⟩;have Ly:=s3.trans s4;have n1:=hT t dF ρ1 n' eT;split at q'
    ·rename_i A4 eP;refine⟨B',A',ρ1,dz.same Ly,r3,n1,false,A4,eP,fun B4 H4 g4 jJ=>Dy ?_⟩;exact⟨B4,A4,ρ1,(g'.trans (ha.same s2).hb (.of Ly)).trans (ha.same s2).hb g4,jJ,r3.grow n1 g4,n1,(rd.same (aT Ly)).same g4.eR,q'⟩
    ·exact(show False from q').elim
   ·exact(show False from q').elim
  ·have e:i=ts.length:=by omega
   subst e;rw[i6]at q';exact .inl ⟨gt.stop B' H' eR,q' (.ref D) B' H' (g0.trans ha.hb g') dz rd⟩
theorem LG{W:av->Rs (List Tr)}(Lk:eQ X N' ix scope)(hit:QI X tg iter W)(iT:RN X scope N' tg c T P)(hT:fx T)(hc:X.calm=true:=by rfl) (hs:isSet iter=false:=by rfl):
  ZE X (.ListComp elt [⟨tg,iter,[c],0⟩] scope pos) (fun ρ A=>LD ix T P (W ρ) ρ A):=
 ⟨(sv Lk hc hit.h iT.to (cG hs)).weak fun σ H Q q=>LF hT q⟩
theorem HC{F:av->Ab->Rz Tr}{mx:Nat}{σ:St}{H:Hp}{Q:VK}(hT:fx T)(q:tE X (fun ρ A=>ve ix T P mx (F ρ A) ρ) σ H Q):Gu (T4 X F) ix (CO X.K T) (RM X.K P) (fun _ _ _=>False) σ H Q:=by
 obtain⟨B,A,ρ,ha,r,n,q⟩:=q;refine⟨B,A,ρ,ha,r,n,(cJ.bind q).mono fun t A1 qt=>?_⟩;have key:∃j us,t=.at j/\A1[j]?=some (.lst us)/\cJ (XE X B H) (n_ T P j mx 0 (h_ ix ρ) A1) (fun t A'=>∀v B' H',Grows B H B' H'->HA X.K B' A' H'->Rep X.K (aN B' H') v t->Q v H'):=by
  split at qt
  ·rename_i j;split at qt
   ·rename_i us ej;exact⟨j,us,rfl,ej,qt⟩
   ·exact qt.elim
  ·exact qt.elim
 obtain⟨j,us,et,ej,qt⟩:=key;refine⟨j,us,et,ej,fun a B1 H1 IP fI FP D hD=>?_⟩;have s2:aw H1 (upd H1 D (.lst [])):=aw.upd hD;have oQ:=fI.same s2;refine⟨fun i m bM H'=>∃B' A' dF,Grows B1 (upd H1 D (.lst [])) B' H'/\HA X.K B' A' H'/\a_ X.K B' H' bM dF/\cQ dF/\Rep X.K (aN B' H') (.ref D) (.lst [])/\cJ (XE X B H) (n_ T P j m i dF A') (fun t A'=>∀v B' H',Grows B H B' H'->HA X.K B' A' H'->Rep X.K (aN B' H') v t->Q v H'),
  ⟨mx,B1,A1,_,.refl,oQ,(r.grow n IP).comp ix (aT s2),jH ix ρ,.vI fI.hb hD .nil,qt⟩,?_⟩
 rintro i k bM H' ⟨B',A',dF,g',dz,r',n',rd,q'⟩
 have Cc:B'.ix a=some j:=g'.eR.x a j FP;cases k with
 |zero=>exact(show False from q').elim
 |succ k=>
  unfold n_ at q';split at q'
  ·rename_i oC T5;obtain⟨vs,e1,rr⟩:=Em dz Cc T5;have hl:=rr.length;split at q'
   ·rename_i eu;refine .inl ⟨⟨vs,iA.of e1,?_⟩,q' (.ref D) B' H' ((IP.trans ha.hb (.of s2)).trans ha.hb g') dz rd⟩;rw[hl];exact j6.mp eu
   ·rename_i t eu;obtain⟨v,ev,rv⟩:=rr.get eu;refine .inr ⟨⟨vs,v,iA.of e1,ev⟩,fun mC H2=>∃B2 A2 ρ2,Grows B1 (upd H1 D (.lst [])) B2 H2/\HA X.K B2 A2 H2/\a_ X.K B2 H2 mC ρ2/\cQ ρ2/\Rep X.K (aN B2 H2) (.ref D) (.lst [])/\cJ (XE X B H) (n_ T P j k (i+1) ρ2 A2) (fun t A'=>∀v B' H',Grows B H B' H'->HA X.K B' A' H'->Rep X.K (aN B' H') v t->Q v H'),
     fun mC H2 x=>⟨k,i7 k,x⟩,fun x H2 hx=>?_⟩
    obtain⟨eh,hx⟩:=hx;subst eh;have ex:v=x:=by have z:=hx vs (iA.of e1);rw[ev]at z;exact Option.some.inj z
    subst ex;split at q'
    ·rename_i ρ1 eT;refine⟨B',dF,t,dz.hb,r',rv,ρ1,eT,fun wG H3 s4 r3=>?_⟩;have n1:=hT t dF ρ1 n' eT;split at q'
     ·rename_i A4 eP;refine⟨B',A',ρ1,dz.same s4,r3,n1,false,A4,eP,fun B4 H4 g4 jJ=>Dy ?_⟩;exact⟨B4,A4,ρ1,(g'.trans oQ.hb (.of s4)).trans oQ.hb g4,jJ,r3.grow n1 g4,n1,(rd.same (aT s4)).same g4.eR,q'⟩
     ·exact(show False from q').elim
    ·exact(show False from q').elim
  ·exact(show False from q').elim
theorem HD(mx:Nat){F:av->Ab->Rz Tr}(Lk:eQ X N' ix scope)(hit:ZE X iter F)(iT:RN X scope N' tg c T P)(hT:fx T)(hc:X.calm=true:=by rfl) (hs:isSet iter=false:=by rfl):
  ZE X (.ListComp elt [⟨tg,iter,[c],0⟩] scope pos) (fun ρ A=>ve ix T P mx (F ρ A) ρ):=
 ⟨(sv Lk hc (O9 hit.h) iT.to (cG hs)).weak fun σ H Q q=>HC hT q⟩
end
end L2
namespace L2
open PySem PySem.Spec PySem.Calls PyProof.Rows
def yu(v:Rz Tr)(o k:Ab->Rz Tr)(ρ:av):Rz Out:=v.bind fun tv A=>(o A).bind fun t A=>(k A).bind fun tk A=>match t,tk with
 |.at j,.int i=>match A[j]? with
  |some (.lst us)=>match yI us.length i with
   |some n=>.ok (.nx ρ) (A.set j (.lst (us.set n tv)))
   |none=>.bad
  |_=>.bad
 |_,_=>.bad
theorem yv{K:PySem.W.Frag}{W:Vw}{v:V}{t:Tr}(h:Rep K W v t):∀{vs:List V} {ts:List Tr} (n:Nat),aJ K W vs ts->aJ K W (vs.set n v) (ts.set n t)
 |_,_,_,.nil=>.nil
 |_,_,0,.cons _ r=>.cons h r
 |_,_,n+1,.cons h1 r=>.cons h1 (yv h n r)
section
variable {X:Cx}{o i value:Expr}{pos pos':Pos}{F G E:av->Ab->Rz Tr}
theorem E_(ho:ZE X o F)(hi:ZE X i G)(hv:ZE X value E)(hs:swapsWithSole [.Subscript o i pos'] value pos.line X.env=pure false:=by rfl) (hw:swappedStores [.Subscript o i pos'] value X.env=pure none:=by rfl) (h1:(assignEach [.Subscript o i pos'] X.env).map (·.2)=[assign (.Subscript o i pos') X.env]:=by rfl)
  (ha:∀v,assign (.Subscript o i pos') X.env v=(do
   let ov<-holding [v] (eval o X.env)
   let iv<-holding [v,ov] (eval i X.env)
   standAt pos'
   holding [v,ov,iv] (setItem ov iv v)
   release [v,ov,iv] []):=by intro _;rfl):
  ZS X (.Assign [.Subscript o i pos'] value pos) (fun ρ A=>yu (E ρ A) (F ρ) (G ρ) ρ):=
 ⟨(Ju hv.h (Jt ho.h hi.h set_list ha) hs hw h1).weak fun D σ H ⟨B0,H0,B,A,ρ,hb,g,ha,r,n,q⟩=>ic hb g ha r n q.bind fun tv A1 v B1 H1 q1 g1 fI r1 rv _=>ic hb g1 fI r1 n (cJ.bind q1) fun t A2 w B2 H2 q2 g2 oQ r2 lS OY=>ic hb g2 oQ r2 n (cJ.bind q2) fun tk A3 y B3 H3 q3 g3 wJ r3 ry IL=>by
   have key:∃j i us m,t=.at j/\tk=.int i/\A3[j]?=some (.lst us)/\yI us.length i=some m/\cJ (XE X B0 H0) (.ok (.nx ρ) (A3.set j (.lst (us.set m tv)))) (iD X D B0 H0):=by
    split at q3
    ·split at q3
     ·rename_i us eo;split at q3
      ·rename_i m em;exact⟨_,_,us,m,rfl,rfl,eo,em,q3⟩
      ·exact q3.elim
     ·exact q3.elim
    ·exact q3.elim
   obtain⟨j,k,us,m,rfl,rfl,eo,em,q3⟩:=key;obtain⟨c,rfl,sG⟩:=(lS.same IL.eR).sD;obtain⟨hd,vs,e1,e2⟩:=wJ.get sG eo;have hl:=e2.length;have TU:=(rv.same OY.eR).same IL.eR;obtain⟨g4,h6⟩:=wJ.write (o:=.lst (us.set m tv)) (u:=.lst (vs.set m v)) sG ⟨hd,_,aH,by rw[lK hd];exact yv TU m e2⟩;exact⟨c,vs,k,m,rfl,ry.int_inv,e1,by rw[hl];exact em,q3 σ B3 _ (g3.trans hb g4) h6 (r3.grow n g4) n⟩⟩
end
def Ja:V->List V->Hp->VK->Prop:=fun x vs H Q=>∃l b xs zs,x=.ref l/\vs=[.ref b]/\H l=some (.lst xs)/\H b=some (.tup zs)/\xs.length+zs.length<=sizeLine/\Q .dv (upd H l (.lst (xs++zs)))
theorem HE(l:Addr)(items:Array Value)(n:Nat)(b:Addr)(eK:Array Value)(ob:Obj)(n2:Nat)(hc:ob.cls=.type "tuple")(hd:ob.data=.seq eK n2)(KY:¬(!items.isEmpty&&Builtin.List.listTooLong (items.size+eK.size))=true)(YZ:items.size<=sizeLine)(Y0:items.size+eK.size<=sizeLine+1):
  Meets (Builtin.«list.extend» ⟨[.ref l,.ref b],[]⟩) (fun _ R s=>s.heap.get? l=some {cls:=.type "list",dict:=none,data:=.seq items n,slots:=#[]}/\s.heap.get? b=some ob/\R (.ok (.ret Value.none)) {s with heap:=s.heap.update l (Obj.mapSeq fun x=>x++eK),toks:=s.toks}):=
 .of_wp fun prog w A R s h=>by
  obtain⟨cls,dd,data,sl⟩:=ob;simp only at hc hd;subst hc hd;obtain⟨hp,g,d,tk,os⟩:=s;obtain⟨hl,hb,h⟩:=h;have f2:=F.sub_tuple_tuple;have f4:=F.sub_tuple_list;have Y1:(items++eK).size<=sizeLine+1:=by rw[Array.size_append];exact Y0
  wp_walk using(wpAny_updateSeq hl rfl (hz:=YZ) (_hz':=Y1)),AutoSeq1.wpAny_loadPart' hl,AutoSeq1.wpAny_loadPart' hb
  exact⟨_,rfl,h⟩
section
variable {X:Cx}
theorem HF:Q7 X "list.extend" Ja:=by
 intro pins s σ H x vs v us Q I rx rv h;obtain⟨l,b,xs,zs,rfl,rfl,hH,hB,hz,q⟩:=h;cases rx;obtain⟨u,rfl,ru⟩:=rv.one;cases ru;obtain⟨z,aV,n,r,hl,e⟩:=I.Dr hH;obtain⟨_,vA,r2,⟨ob,g1,g2,n2,g3,_⟩⟩:=(show bY X.prog X.w H s.heap b (.tup zs)from I.bV b _ hB);have Q8:=r2.length;have hsz:aV.toArray.size+vA.toArray.size<=sizeLine:=by rw[aS,aS];omega
 have Ds:¬(!aV.toArray.isEmpty&&Builtin.List.listTooLong (aV.toArray.size+vA.toArray.size))=true:=by
  rw[xg hsz,i_];exact cR
 refine hJ F.slot_list_extend ⟨_,e,rfl⟩ F.entry_list_extend (F.args_list_extend_2 _ _)
  (HE l aV.toArray n b vA.toArray ob n2 g2 g3 Ds (by rw[aS];omega) (by omega)) ⟨e,g1,?_⟩
 refine⟨.dv,_,I.Nu (nu:=aV++vA) hH e (by simp) (r.append r2) ?_,rfl,q⟩;rw[aY];omega
def LH(i:Nat):List Tr->Ab->Rz Tr
 |[.tup us],A=>match A[i]? with
  |some (.lst ts)=>if ts.length+us.length<=ik then .ok .dv (A.set i (.lst (ts++us)))else .bad
  |_=>.bad
 |_,_=>.bad
theorem HG:Rk X Ja LH:=by
 intro B A H a i xs ts Q ha sG rs q;unfold LH at q;split at q
 ·obtain⟨y,rfl,r1⟩:=h8 rs;obtain⟨b,zs,rfl,hb,rr⟩:=r1.fJ;split at q
  ·rename_i eo;obtain⟨hz,q⟩:=nQ q;obtain⟨hd,vs,h1,h2⟩:=ha.get sG eo;obtain⟨g,h3⟩:=ha.write (o:=.lst (_++_)) (u:=.lst (vs++zs)) sG ⟨hd,_,aH,by rw[lK hd];exact h2.append rr⟩;exact⟨a,b,vs,zs,rfl,rfl,h1,aK _ _ hb,by rw[h2.length,rr.length,<-h9];exact hz,q .dv B _ g h3 .dv⟩
  ·exact q.elim
 ·exact q.elim
end
section
variable {X:Cx}{a b:Expr}{pos:Pos}{P R:av->Ab->Rz Bool}
theorem LI(h1:ZT X a P)(h2:ZT X b R):ZT X (.BoolOp .Or [a,b] pos) (fun ρ A=>FU (P ρ A) (R ρ)):=⟨(pw_orZ h1.h (pw_or1 h2.h)).pt⟩
end
def l_{α:Type}:Rz α->Rz α
 |.ok x A=>.ok x A
 |_=>.bad
section
variable {X:Cx}{e:Expr}{es:List Expr}{p pos:Pos}{L:av->Ab->Rz (List Tr)}{h:List Tr->Ab->Rz Tr}{x:Str}{k n:Nat}{d:Df}
theorem zN(C:AZ X.prog X.w X.K X.mg X.base (qv X.prog X.w) n d (wL X.K h))(hr:dC k X.A)(ha:ZL X (e::es) L)(hn:n<=k:=by first|decide|omega) (hc:d.c=none:=by rfl) (hx:d.x=x:=by rfl) (hq:d.q=x:=by rfl) (hg:Gl X x:=by rfl) (iS:(x==("__debug__":Str))=false:=by decide) (eJ:bx (e::es)=true:=by rfl):
  ZE X (.Call (.Name x p) (e::es) [] pos) (fun ρ A=>l_ ((L ρ A).bind h)):=by
 have D:=C.da hc hx hq;have hp:Passes (qv X.prog X.w) X (fun _ _ _=>False):=by
  intro pins σ H s e s' I z;obtain⟨_,_,_,_,_,_,_,_,_,z⟩:=z;exact z.elim
 refine⟨(vx (p:=p) (pos:=pos) (C.ok.mono hn) hr hg D.mg D.fn.kp D.bd .nil hp ha.h (iS:=iS) (he:=bC _ _ (aU eJ).1) (pq:=cx (aU eJ).2)).weak fun σ H Q ⟨B,A,ρ,ha,r,n,q⟩=>⟨B,A,ρ,ha,r,n,?_⟩⟩;cases e1:L ρ A with
 |bad=>rw[e1]at q;exact(show False from q).elim
 |exc c A1=>rw[e1]at q;exact(show False from q).elim
 |ok ts A1=>
  rw[e1]at q;have q:cJ (XE X B H) (l_ (h ts A1)) _:=q;cases e2:h ts A1 with
  |bad=>rw[e2]at q;exact(show False from q).elim
  |exc c A2=>rw[e2]at q;exact(show False from q).elim
  |ok t A2=>
   rw[e2]at q;intro vs B1 H1 g1 fI r1;show wL X.K h (vs++[]) H1 Q _;rw[dq];exact⟨B1,A1,ts,fI,r1,by rw[e2];exact fun v B' H' g' dz rv=>q v B' H' (g1.trans ha.hb g') dz rv⟩
end
def my:Tr->Tr->Rs Tr
 |x,.tup ts=>if kR x=true/\ip ts=true/\t9 ts<=40 then .ok (.bl (!ts.any fun y=>eqT y x))else .bad
 |x,.lst ts=>if kR x=true/\ip ts=true/\t9 ts<=40 then .ok (.bl (!ts.any fun y=>eqT y x))else .bad
 |_,_=>.bad
section
variable {X:Cx}{pins:List (Addr×Obj)}{s:Shared}{σ:St}{H:Hp}{B:bN}
theorem any_eq(hu:X.A.units+44<cLine)(I:Inv X pins σ H s){x:V}{v:Value}{tx:Tr}(r1:Rep X.K (aN B H) x tx)(rx:RelV x v)(f1:kR tx=true){vs:List V}{ts:List Tr}{aV:List Value}(rr:aJ X.K (aN B H) vs ts)(rv:Vals vs aV)(f2:ip ts=true)(f3:t9 ts<=40):
  ∃k:Value->Bool,(∀z,z∈aV.toArray->SeqAt.EqAt X.A.in1 s z v (k z))/\aV.toArray.any k=ts.any fun y=>eqT y tx:=by
 have at':∀(j:Nat) (z:Value),aV[j]?=some z->∃t xv,ts[j]?=some t/\t∈ts/\Rep X.K (aN B H) xv t/\RelV xv z:=fun j z ez=>by
  have hj:j<vs.length:=by rw[rv.length];exact(cb.mp ez).1
  obtain⟨t,e1,p1⟩:=rr.BM (ay hj);obtain⟨z',e2,p2⟩:=rv.get (ay hj);rw[ez]at e2;cases e2;exact⟨t,_,e1,bg e1,p1,p2⟩
 have same:∀{j j':Nat} {z:Value} {t t':Tr},aV[j]?=some z->aV[j']?=some z->ts[j]?=some t->ts[j']?=some t'->t=t':=fun{j j' z t t'} e1 e2 e3 e4=>by
  obtain⟨t1,x1,a1,a2,a3,a4⟩:=at' j z e1;obtain⟨t2,x2,b1,b2,b3,b4⟩:=at' j' z e2;rw[a1]at e3;rw[b1]at e4;cases e3;cases e4;rw[a4.inj b4]at a3;exact Ap I 40 (aZ (nH _ a2) f3) (gb f2 _ a2) (gb f2 _ b2) a3.up b3.up
 have Pp:∀z:Value,∃k:Bool,∀(j:Nat) (t:Tr),aV[j]?=some z->ts[j]?=some t->k=eqT t tx:=fun z=>by
  by_cases hz:∃(j:Nat) (t:Tr),aV[j]?=some z/\ts[j]?=some t
  ·obtain⟨j,t,e1,e2⟩:=hz;exact⟨eqT t tx,fun j' t' e3 e4=>by rw[same e1 e3 e2 e4]⟩
  ·exact⟨false,fun j t e1 e2=>absurd ⟨j,t,e1,e2⟩ hz⟩
 obtain⟨k,hk⟩:∃k:Value->Bool,∀(z:Value) (j:Nat) (t:Tr),aV[j]?=some z->ts[j]?=some t->k z=eqT t tx:=⟨fun z=>(Pp z).choose,fun z=>(Pp z).choose_spec⟩
 refine⟨k,fun z hz=>?_,?_⟩
 ·obtain⟨j,ej⟩:=dI (show z∈aV by simpa using hz);obtain⟨t,xv,a1,a2,a3,a4⟩:=at' j z ej;rw[hk z j t ej a1];exact xA I 40 (aZ (nH _ a2) f3) (gb f2 _ a2) f1 a3.up r1.up a4 rx (by show X.A.units+1+40<cLine;omega)
 ·have e:aV.map k=ts.map fun y=>eqT y tx:=by
   refine i5 (by rw[ak,ak,<-rv.length,rr.length]) fun j h1 h2=>?_
   rw[ak]at h1 h2;rw[gG,gG];exact hk _ j _ (ay h1) (ay h2)
  rw[show aV.toArray.any k=aV.any k by simp,show aV.any k=(aV.map k).any id by rw[kz];rfl,e,kz];rfl
theorem Fb(hu:X.A.units+44<cLine):wI X (compareOp .NotIn) my:=by
 intro pins s σ H x y v u Q I rx ry ⟨B,tx,ty,hb,r1,r2,q⟩;unfold my at q;split at q
 ·obtain⟨⟨f1,f2,f3⟩,q⟩:=eV q;obtain⟨a,vs,rfl,h,rr⟩:=r2.eC;cases(show u=Value.ref a from ry);obtain⟨aV,rv,pl,_⟩:=I.tuple h.up;obtain⟨k,h1,h2⟩:=any_eq hu I r1 rx f1 rr rv f2 f3;refine SeqAt.notIn_tupleAt k pl h1 ⟨.bl _,H,I,rfl,?_⟩;rw[h2];exact q _ H (aw.refl H) (.bl _)
 ·obtain⟨⟨f1,f2,f3⟩,q⟩:=eV q;obtain⟨a,vs,rfl,h,rr⟩:=r2.lst_inv;cases(show u=Value.ref a from ry);obtain⟨aV,rv,pl,_⟩:=I.list (iA.of (gm h));obtain⟨k,h1,h2⟩:=any_eq hu I r1 rx f1 rr rv f2 f3;refine SeqAt.notIn_listAt k pl.isList h1 ⟨.bl _,H,I,rfl,?_⟩;rw[h2];exact q _ H (aw.refl H) (.bl _)
 ·exact(show False from q).elim
end
end L2
namespace L2
open PySem PySem.Spec PyProof.Rows PySem.W
structure MO where
 bl:List Str
 own:List Str
 Wz:List Str
 fl:List (Str×List Str)
 kd:List Df
 er:List Str
 xs:List (Str⊕String)
 cs:List Str
 rs:List Str
namespace MO
def val(K:Frag):Str⊕String->Value
 |.inl c=>.ref (clsAt K c)
 |.inr c=>.type c
def tab(er:List Str):Str⊕String->List (Str×Bool)
 |.inl c=>er.map fun x=>(x,x==c)
 |.inr _=>er.map fun x=>(x,true)
def I0(K:Frag)(o:MO):Bool:=o.bl.all (fun x=>decide (nsIn K mainGlobals x=some none))&&(o.own.all (fun c=>decide (nsIn K mainGlobals c=some (some (.ref (clsAt K c)))))&&(o.Wz.all (fun c=>makesIn K (clsAt K c)&&(keepIn K (.ref (clsAt K c))&&decide (nsIn K mainGlobals c=some (some (.ref (clsAt K c))))))&&
 (o.fl.all (fun p=>Hx K (clsAt K p.1)&&U7 K (clsAt K p.1) p.2)&&(o.kd.all (fun d=>decide (specialIn K (.ref (d.adr K)) "__get__"=some (some (.builtin "function.__get__")))&&decide (takesIn K (.ref (d.adr K))=some false))&&
 (Qa K o.er&&(o.xs.all (fun c=>P_ K (val K c) (tab o.er c))&&(o.cs.all (fun c=>Qb K c o.er)&&o.rs.all (fun c=>excIn K (clsAt K c) VL "ValueError.__new__"))))))))
structure Ok(o:MO)(K:Frag)(mg:Str->Option Value):Prop where
 bl:∀{x},o.bl.contains x=true->mg x=none
 RO:∀{c},o.own.contains c=true->mg c=some (.ref (clsAt K c))
 ZI:∀{c},o.Wz.contains c=true->U' K mg c
 fl:∀{c f fs},o.fl.lookup c=some fs->fs.contains f=true->OH K [c] f
 bn:∀(i:Nat) {d:Df},o.kd[i]?=some d->OK K (d.adr K)
 xc:∀(i:Nat) {c},o.xs[i]?=some c->IF K (val K c) (tab o.er c)
 ca:∀{c},o.cs.contains c=true->o.own.contains c=true->AH K mg c o.er
 er:∀{c},o.rs.contains c=true->o.own.contains c=true->OG K mg c
theorem ok{o:MO}{K:Frag}{mg:Str->Option Value}{h:Heap}(X:K.In h)(G:h.Ns mainGlobals mg)(k:o.I0 K=true):o.Ok K mg:=by
 unfold I0 at k;simp only[aE,bA,cp]at k;obtain⟨k1,k2,k3,k4,k5,k6,k7,k8,k9⟩:=k;have RO:∀{c},o.own.contains c=true->mg c=some (.ref (clsAt K c)):=fun m=>mg_of X G (k2 _ (lB.mp m));refine⟨fun m=>mg_none_of X G (k1 _ (lB.mp m)),RO,fun m=>?_,fun{c f fs} l m=>?_,fun i d e=>?_,fun i c e=>?_,fun m n=>EW (RO n) (k8 _ (lB.mp m)),fun m n=>⟨RO n,k9 _ (lB.mp m)⟩⟩
 ·have q:=k3 _ (lB.mp m);exact⟨q.1,q.2.1,mg_of X G q.2.2⟩
 ·have q:=k4 _ (o6 l);refine⟨fun x hx=>?_⟩;cases cn.mp hx;exact⟨EY q.1,(cq (bA.mp q.2 f (lB.mp m)):findIn K (.ref (clsAt K c)) f=some none)⟩
 ·have q:=k5 _ (bg e);exact⟨q.1,q.2⟩
 ·refine Lr (k7 _ (bg e)) k6 ?_
  cases c<;>simp[tab,Function.comp_def]
end MO
end L2
namespace ir
open PySem L2
def top(i:Nat):Stmt:=PySem.Challenge.pw_talkhall_k35_whole_halls_that_write.main.body.getD i (.Pass ⟨0,0,0,0⟩)
def fB:Df:=⟨none,"followers_of","followers_of",top 1,["known"]⟩
def fE:Df:=⟨none,"heights_of","heights_of",top 2,["letters"]⟩
def wb:Df:=⟨none,"order","order",top 3,["letters"]⟩
def o8:Df:=⟨none,"lacking","lacking",top 4,["letters"]⟩
def qI:Df:=⟨none,"ready","ready",top 5,["letters"]⟩
def jR:Df:=⟨none,"together","together",top 6,["one","other"]⟩
def tw:Df:=⟨none,"_law_cell","_law_cell",top 8,["_law_script","_law_k"]⟩
def wc:Df:=⟨none,"_law_mix","_law_mix",top 9,["_law_cell_here","_law_prime","_law_many"]⟩
def oa:Df:=⟨none,"_law_ends","_law_ends",top 12,["_law_letters"]⟩
def lq:Df:=⟨none,"law","law",top 13,["_law_script"]⟩
def DS:List Df:=[fB,fE,wb,o8,qI,jR,tw,wc,oa,lq]
structure MP(K:PySem.W.Frag)(w:World)(mg:Str->Option Value)(tc tP:Addr):Prop where
 d:∀(i:Nat) {e:Df},DS[i]?=some e->e.Ok K mg
 all:mg "all"=none
 bool:mg "bool"=none
 dict:mg "dict"=none
 int:mg "int"=none
 isinstance:mg "isinstance"=none
 len:mg "len"=none
 list:mg "list"=none
 max:mg "max"=none
 range:mg "range"=none
 set:mg "set"=none
 sorted:mg "sorted"=none
 str:mg "str"=none
 tuple:mg "tuple"=none
 zip:mg "zip"=none
 tab:TabAt K "order" tc tP
abbrev CS(n:Nat)(d:Df)(a b:Nat):={F:av->Ab->Rz Out//∀{P:Program} {w:World} {K:PySem.W.Frag} {mg:Str->Option Value} {base:Heap} {tc tP:Addr},MP K w mg tc tP->AZ P w K mg base (qv P w) n d (wL K (mq a b F))}
abbrev CP(n:Nat)(d:Df)(a b:Nat):={F:av->Rs Out//∀{P:Program} {w:World} {K:PySem.W.Frag} {mg:Str->Option Value} {base:Heap} {tc tP:Addr},MP K w mg tc tP->AZ P w K mg base qg n d (spT K (Iw a b F))}
abbrev CZ(n:Nat)(d:Df)(a b:Nat):={F:av->Ab->Rz Out//∀{P:Program} {w:World} {K:PySem.W.Frag} {mg:Str->Option Value} {base:Heap} {tc tP:Addr},MP K w mg tc tP->AZ P w K mg base qg n d (spT K (sH a b F))}
abbrev KS(n:Nat)(d:Df)(m:List Tr->Ab->Rz Tr):Prop:=∀{P:Program} {w:World} {K:PySem.W.Frag} {mg:Str->Option Value} {base:Heap} {tc tP:Addr},MP K w mg tc tP->AZ P w K mg base (qv P w) n d (wL K m)
abbrev KP(n:Nat)(d:Df)(m:List Tr->Rs Tr):Prop:=∀{P:Program} {w:World} {K:PySem.W.Frag} {mg:Str->Option Value} {base:Heap} {tc tP:Addr},MP K w mg tc tP->AZ P w K mg base qg n d (spT K m)
def fF:CS 1 fB 1 4:=⟨_,fun T=>Hy ["known","followers","mark","other"] (T.d 0 rfl) fun nd _ _ _ _ _ _ hr=>(a9 (cZ (i:=1) (Cp (jy (E1 hr) rfl) T.dict (Hk (N':=["mark"]) (ix:=[none]) (eQ.of (N:=["known","followers","mark","other"]) (sc:=aD fB.st) rfl rfl (by decide+kernel)) (AK (ai 0)) (fun s H ex=>NB.of (by show List.Nodup (["mark"]:List Str);decide+kernel)))) nd) (a9 (KU (AK (ai 0)) (cO 2 nd) (cN 2) (cF (sN (ju (nW (cw hr) (ai 0) (ai 2))) (cO 3 nd) (cN 3) (cF (sM (jL (ie (Eg (cw hr)) (ai 3) (ai 0))) (cF (zr (Ea qX PySem.F.type_list_append oK DX (IH (aG (nW (cw hr) (ai 1) (ai 3)))) (bU (aG (ai 2)) dG)))) l8))))) (cF (jv (aG (ai 1))))))⟩
def fG:=mq 1 4 fF.1
theorem tD:KS 1 fB fG:=fF.2
def gP:CZ 2 fE 1 10:=⟨_,fun T=>Lu ["letters","known","followers","waits","heights","level","height_now","freed","mark","follower"] (T.d 1 rfl) fun nd _ _ _ _ _ _ hr=>(a9 (cZ (i:=1) (aG (Ro (k_ (jy (E1 hr) rfl) T.dict (a7 (ai 0) bX)))) nd) (a9 (cZ (i:=2) (l9 (tD T) hr (bU (aG (ai 1)) dG)) nd) (a9 (cZ (i:=3) (nU (k_ (jy (E1 hr) rfl) T.dict (a7 (OU (N':=["mark","known"]) (ix:=[none,some 1]) (eQ.of (N:=["letters","known","followers","waits","heights","level","height_now","freed","mark","follower"]) (sc:=aD fE.st) rfl rfl (by first|decide+kernel|exact rfl|kernel_rfl)) (AK (ai 1)) ⟨fun s H ex=>⟨(cO 0 (by show List.Nodup (["mark","known"]:List Str);decide+kernel)),xQ,(nT (a7 (ai 0) (a7 (iE vP T.len (a7 (D' (N':=["other","known"]) (ix:=[none,some 1]) (eQ.of (N:=["mark","known"]) (sc:=_) rfl rfl (by first|decide+kernel|exact rfl|kernel_rfl)) (ju (nW (cw hr) (ai 1) (ai 0))) ⟨fun s H ex=>⟨(cO 0 (by show List.Nodup (["other","known"]:List Str);decide+kernel)),(xR (ie (Eg (cw hr)) (ai 0) (ai 1))),(ai 0)⟩⟩ (cN 0)) bX)) bX)))⟩⟩ (cN 0)) bX))) nd) (a9 (cZ (i:=4) (nU vS) nd) (a9 (Ec (i:=5) (N':=["mark","waits"]) (ix:=[none,some 3]) (eQ.of (N:=["letters","known","followers","waits","heights","level","height_now","freed","mark","follower"]) (sc:=aD fE.st) rfl rfl (by first|decide+kernel|exact rfl|kernel_rfl)) (AK (ai 1)) ⟨fun s H ex=>⟨(cO 0 (by show List.Nodup (["mark","waits"]:List Str);decide+kernel)),(xR (ie (DQ (pV hr)) (nW (cw hr) (ai 1) (ai 0)) cH)),(ai 0)⟩⟩ (cN 0) nd) (a9 (cZ (i:=6) (aG cH) nd) (a9 (Hd 100 (qA (ie Of (iE vP T.len (a7 (ai 5) bX)) cH)) (a9 (cZ (i:=7) (nU (Eb bX)) nd) (a9 (AL 100 (aG (ai 5)) (cO 8 nd) (cN 8) (a9 (qC (cw hr) (IH (aG (ai 4))) (aG (ai 8)) (aG (ai 6))) (cF (AL 100 (aG (nW (cw hr) (ai 2) (ai 8))) (cO 9 nd) (cN 9) (a9 (Hf (cw hr) (IH (aG (ai 3))) (aG (ai 9)) (aG cH)) (cF (sM (qA (ie (DQ (pV hr)) (nW (cw hr) (ai 3) (ai 9)) cH)) (cF (zr (Ea qX PySem.F.type_list_append oK DX (IH (aG (ai 7))) (bU (aG (ai 9)) dG)))) l8))))))) (a9 (cZ (i:=5) (aG (ai 7)) nd) (cF (KQ 6 (aG cH))))))) (cF (jv (aG (ai 4)))))))))))⟩
def gQ:=sH 1 10 gP.1
theorem wd:KP 2 fE gQ:=gP.2
def we:CS 6 wb 1 2:=⟨_,fun T=>Qi ["letters","heights"] (T.d 2 rfl) fun nd _ _ _ _ _ _ pQ hr=>(a9 (cZ (i:=1) (aG (tm (wd T) hr (a7 (ai 0) bX))) nd) (cF (jv (xT lJ T.tuple (bU (Hz (q:="order.<locals>.<lambda>") 1 hr T.tab (pQ.trans (E2 T.tab.t)) T.sorted) dG)))))⟩
def iH:=mq 1 2 we.1
theorem wg:KS 6 wb iH:=we.2
def o9:CZ 1 o8 1 5:=⟨_,fun T=>Lu ["letters","known","missing","letter","mark"] (T.d 3 rfl) fun nd _ _ _ _ _ _ hr=>(a9 (cZ (i:=1) (aG (Ro (k_ (jy (E1 hr) rfl) T.dict (a7 (ai 0) bX)))) nd) (a9 (cZ (i:=2) (nU vS) nd) (a9 (sN (ju (ai 0)) (cO 3 nd) (cN 3) (cF (sN (ju (lX (cw hr) (ai 3) cH)) (cO 4 nd) (cN 4) (cF (sM (jL (ie (KN (cw hr)) (ai 4) (ai 1))) (cF (qC (cw hr) (IH (aG (ai 2))) (aG (ai 4)) (aG xN))) l8))))) (cF (jv (gw (kZ lJ T.tuple (a7 (iE (CB (E1 hr) rfl) T.sorted (a7 (ai 2) bX)) bX))))))))⟩
def fL:=sH 1 5 o9.1
theorem CF:KP 1 o8 fL:=o9.2
def qJ:CS 7 qI 1 4:=⟨_,fun T=>Hy ["letters","known","whole","mark"] (T.d 4 rfl) fun nd _ _ _ _ _ _ hr=>(a9 (cZ (i:=1) (aG (Ro (k_ (jy (E1 hr) rfl) T.dict (a7 (ai 0) bX)))) nd) (a9 (cZ (i:=2) (nU vS) nd) (a9 (LA (l9 (wg T) hr (bU (aG (ai 0)) dG)) (cO 3 nd) (cN 3) (cF (sM (qA (II (iE (Ol rfl) T.all (a7 (D' (N':=["other","whole"]) (ix:=[none,some 2]) (eQ.of (N:=["letters","known","whole","mark"]) (sc:=aD qI.st) rfl rfl (by first|decide+kernel|exact rfl|kernel_rfl)) (ju (nW (cw hr) (ai 1) (ai 3))) ⟨fun s H ex=>⟨(cO 0 (by show List.Nodup (["other","whole"]:List Str);decide+kernel)),xQ,(OO (Eg (cw hr)) (ai 0) (ai 1))⟩⟩ (cN 0)) bX)))) (cF (qC (cw hr) (IH (aG (ai 2))) (aG (ai 3)) (aG xN))) l8))) (cF (jv (gw (kZ (E8 rfl) T.tuple (a7 (ai 2) bX))))))))⟩
def eD:=mq 1 4 qJ.1
theorem wj:KS 7 qI eD:=qJ.2
def mz:CS 7 jR 2 4:=⟨_,fun T=>Hy ["one","other","letters","known"] (T.d 5 rfl) fun nd _ _ _ _ _ _ hr=>(a9 (cZ (i:=2) (aG (kZ lJ T.tuple (a7 (Ht (YY hr) T.sorted T.set (jt Am (ai 0) (ai 1))) bX))) nd) (a9 (cZ (i:=3) (aG (Ro (k_ (jy (E1 hr) rfl) T.dict (a7 (ai 2) bX)))) nd) (cF (jv (xT lJ T.tuple (bU (Qm (N':=["mark","known"]) (ix:=[none,some 3]) (eQ.of (N:=["one","other","letters","known"]) (sc:=aD jR.st) rfl rfl (by first|decide+kernel|exact rfl|kernel_rfl)) (l9 (wg T) hr (bU (aG (ai 2)) dG)) ⟨fun s H ex=>⟨(cO 0 (by show List.Nodup (["mark","known"]:List Str);decide+kernel)),xQ,(nT (a7 (ai 0) (a7 (nW (cw hr) (ai 1) (ai 0)) bX)))⟩⟩ (cN 0)) dG))))))⟩
def bt:=mq 2 4 mz.1
theorem fM:KS 7 jR bt:=mz.2
def yw:CP 1 tw 2 2:=⟨_,fun T=>Qh ["_law_script","_law_k"] (T.d 6 rfl) fun nd _ _ _ _ _ _ hr=>(D8 (TM (ie Th (ai 1) (iE vP T.len (a7 (ai 0) bX))) (D9 (D_ (lX (cw hr) (ai 0) (ai 1)))) OQ) (D9 (D_ cH)))⟩
def og:=Iw 2 2 yw.1
theorem Fc:KP 1 tw og:=yw.2
def A8:CP 1 wc 3 4:=⟨_,fun T=>Qh ["_law_cell_here","_law_prime","_law_many","_law_blend"] (T.d 7 rfl) fun nd _ _ _ _ _ _ hr=>(D8 (OR (i:=3) (jt uO (jt DP (ai 0) cH) (ai 1)) nd) (D9 (D_ (jt uO (jt uO (jt DP (ai 3) (jt Am (ai 3) cH)) (ai 1)) (ai 2)))))⟩
def iI:=Iw 3 4 A8.1
theorem wk:KP 1 wc iI:=A8.2
def oh:CZ 1 oa 1 4:=⟨_,fun T=>Lu ["_law_letters","_law_behind","_law_mark","_law_some"] (T.d 8 rfl) fun nd _ _ _ _ _ _ hr=>(a9 (cZ (i:=1) (nU (Eb bX)) nd) (a9 (sN (ju (ai 0)) (IK (is:=[2,3]) (vR (i:=2) (vR (i:=3) IJ nd) nd)) (DM [2,3]) (cF (zr (Ea PySem.F.slot_list_extend PySem.F.type_list_extend HF HG (IH (aG (ai 1))) (bU (aG (ai 3)) dG))))) (cF (jv (gw (kZ lJ T.tuple (a7 (iE (va (E1 hr)) T.sorted (a7 (D' (N':=["_law_mark","_law_some","_law_behind"]) (ix:=[none,none,some 1]) (eQ.of (N:=["_law_letters","_law_behind","_law_mark","_law_some"]) (sc:=aD oa.st) rfl rfl (by first|decide+kernel|exact rfl|kernel_rfl)) (ju (ai 0)) ⟨fun s H ex=>⟨(IK (is:=[0,1]) (vR (i:=0) (vR (i:=1) IJ (by show List.Nodup (["_law_mark","_law_some","_law_behind"]:List Str);decide+kernel)) (by show List.Nodup (["_law_mark","_law_some","_law_behind"]:List Str);decide+kernel))),(xR (ie (Fb (Ql hr)) (ai 0) (ai 2))),(ai 0)⟩⟩ (DM [0,1])) bX)) bX)))))))⟩
def oj:=sH 1 4 oh.1
theorem Fd:KP 1 oa oj:=oh.2
def A_:CS 14 lq 1 14:=⟨_,fun T=>Hy ["_law_script","_law_halls","_law_had","_law_turn","_law_cell_here","_law_one","_law_other","_law_mark","_law_before","_law_part","_law_whole","_law_marks","_law_k","_law_mine"] (T.d 9 rfl) fun nd _ _ _ _ _ _ hr=>(a9 (cZ (i:=1) (nU (Eb (a7 (nT bX) (a7 (nT bX) (a7 (nT bX) bX))))) nd) (a9 (cZ (i:=2) (nU vS) nd) (a9 (sN (xO T.range (a7 cH bX)) (cO 3 nd) (cN 3) (a9 (cZ (i:=4) (aG (jt Am (tm (Fc T) hr (a7 (ai 0) (a7 (jt uO (ai 3) cH) bX))) (jt DP cH (ai 3)))) nd) (a9 (cZ (i:=5) (aG (tm (wk T) hr (a7 (ai 4) (a7 cH (a7 cH bX))))) nd) (a9 (cZ (i:=6) (aG (tm (wk T) hr (a7 (ai 4) (a7 cH (a7 cH bX))))) nd) (cF (sM (jL (ie (DQ (pV hr)) (jt uO (ai 4) cH) cH)) (a9 (cZ (i:=7) (aG (nT (a7 (ai 5) (a7 (ai 3) bX)))) nd) (a9 (qC (cw hr) (IH (aG (ai 2))) (aG (ai 7)) (nU (TN (N':=["_law_letter"]) (ix:=[none]) (eQ.of (N:=["_law_script","_law_halls","_law_had","_law_turn","_law_cell_here","_law_one","_law_other","_law_mark","_law_before","_law_part","_law_whole","_law_marks","_law_k","_law_mine"]) (sc:=aD lq.st) rfl rfl (by first|decide+kernel|exact rfl|kernel_rfl)) (ju (lX (cw hr) (ai 1) (ai 5))) ⟨fun s H ex=>⟨(cO 0 (by show List.Nodup (["_law_letter"]:List Str);decide+kernel)),xQ,(lX (cw hr) (ai 0) cH)⟩⟩ (cN 0)))) (cF (E_ (aG (ai 1)) (aG (ai 5)) (l9 (fM T) hr (bU (gw (lX (cw hr) (ai 1) (ai 5))) (bU (gw (nT (a7 (nT (a7 (ai 7) (a7 (tm (Fd T) hr (a7 (lX (cw hr) (ai 1) (ai 5)) bX)) bX))) bX))) dG))))))) (a9 (cZ (i:=8) (l9 (wj T) hr (bU (gw (lX (cw hr) (ai 1) (ai 6))) dG)) nd) (a9 (cZ (i:=9) (gw (OW (lX (cw hr) (ai 1) (ai 5)) KJ (KL (tm (wk T) hr (a7 (ai 4) (a7 cH (a7 (jt Am (iE vP T.len (a7 (lX (cw hr) (ai 1) (ai 5)) bX)) cH) bX))))))) nd) (a9 (sM (jL (ie (DQ (pV hr)) (jt uO (ai 4) cH) cH)) (cF (cZ (i:=9) (aG (OS (ai 9) (OT cH))) nd)) l8) (a9 (E_ (aG (ai 1)) (aG (ai 6)) (l9 (fM T) hr (bU (gw (lX (cw hr) (ai 1) (ai 6))) (bU (aG (ai 9)) dG)))) (cF (sM (Ed (LG (N':=["_law_mark","_law_halls","_law_other"]) (ix:=[none,some 1,some 6]) (eQ.of (N:=["_law_script","_law_halls","_law_had","_law_turn","_law_cell_here","_law_one","_law_other","_law_mark","_law_before","_law_part","_law_whole","_law_marks","_law_k","_law_mine"]) (sc:=aD lq.st) rfl rfl (by first|decide+kernel|exact rfl|kernel_rfl)) (ju (ai 8)) ⟨fun s H ex=>⟨(cO 0 (by show List.Nodup (["_law_mark","_law_halls","_law_other"]:List Str);decide+kernel)),(vU (Fb (Ql hr)) (aG (ai 0)) (zN (wj T) hr (bU (gw (lX (cw hr) (ai 1) (ai 2))) dG)))⟩⟩ (cN 0))) (cF (jv (aG xN))) l8)))))))))))) (a9 (cZ (i:=10) (l9 (fM T) hr (bU (l9 (fM T) hr (bU (gw (lX (cw hr) (ai 1) cH)) (bU (gw (lX (cw hr) (ai 1) cH)) dG))) (bU (gw (lX (cw hr) (ai 1) cH)) dG))) nd) (a9 (sM (Ed (HD 10 (N':=["_law_hall","_law_whole"]) (ix:=[none,some 10]) (eQ.of (N:=["_law_script","_law_halls","_law_had","_law_turn","_law_cell_here","_law_one","_law_other","_law_mark","_law_before","_law_part","_law_whole","_law_marks","_law_k","_law_mine"]) (sc:=aD lq.st) rfl rfl (by first|decide+kernel|exact rfl|kernel_rfl)) (aG (ai 1)) ⟨fun s H ex=>⟨(cO 0 (by show List.Nodup (["_law_hall","_law_whole"]:List Str);decide+kernel)),(LI (vU (BS (pV hr)) (zN (fM T) hr (bU (aG (ai 1)) (bU (aG (ai 0)) dG))) (aG (ai 1))) (vU (BS (pV hr)) (zN (fM T) hr (bU (aG (ai 0)) (bU (aG (ai 1)) dG))) (aG (ai 1))))⟩⟩ (cN 0))) (cF (jv (aG xN))) l8) (a9 (cZ (i:=11) (l9 (wg T) hr (bU (aG (ai 10)) dG)) nd) (a9 (sM (LB (jL (ie (BS (pV hr)) (tm (CF T) hr (a7 (ai 10) bX)) (nT bX))) (vU (BS (pV hr)) (l9 (wj T) hr (bU (aG (ai 10)) dG)) (aG (ai 11))) (jL (ie (BS (pV hr)) (kZ lJ T.tuple (a7 (D' (N':=["_law_letter"]) (ix:=[none]) (eQ.of (N:=["_law_script","_law_halls","_law_had","_law_turn","_law_cell_here","_law_one","_law_other","_law_mark","_law_before","_law_part","_law_whole","_law_marks","_law_k","_law_mine"]) (sc:=aD lq.st) rfl rfl (by first|decide+kernel|exact rfl|kernel_rfl)) (ju (ai 10)) ⟨fun s H ex=>⟨(cO 0 (by show List.Nodup (["_law_letter"]:List Str);decide+kernel)),xQ,(lX (cw hr) (ai 0) cH)⟩⟩ (cN 0)) bX)) (ai 11)))) (cF (jv (aG xN))) l8) (a9 (sN (ju (ai 11)) (cO 7 nd) (cN 7) (cF (sM (qA (II (D' (N':=["_law_one","_law_marks","_law_mark"]) (ix:=[none,some 11,some 7]) (eQ.of (N:=["_law_script","_law_halls","_law_had","_law_turn","_law_cell_here","_law_one","_law_other","_law_mark","_law_before","_law_part","_law_whole","_law_marks","_law_k","_law_mine"]) (sc:=aD lq.st) rfl rfl (by first|decide+kernel|exact rfl|kernel_rfl)) (ju (nW (cw hr) (ai 2) (ai 7))) ⟨fun s H ex=>⟨(cO 0 (by show List.Nodup (["_law_one","_law_marks","_law_mark"]:List Str);decide+kernel)),(xR (ie Of (E7 (E1 hr) (ai 1) (ai 0)) (E7 (E1 hr) (ai 1) (ai 2)))),(ai 0)⟩⟩ (cN 0)))) (cF (jv (aG xN))) l8))) (a9 (sN (xO T.range (a7 cH bX)) (cO 12 nd) (cN 12) (a9 (He (i:=13) (N':=["_law_mark","_law_k"]) (ix:=[none,some 12]) (eQ.of (N:=["_law_script","_law_halls","_law_had","_law_turn","_law_cell_here","_law_one","_law_other","_law_mark","_law_before","_law_part","_law_whole","_law_marks","_law_k","_law_mine"]) (sc:=aD lq.st) rfl rfl (by first|decide+kernel|exact rfl|kernel_rfl)) (ju (ai 11)) ⟨fun s H ex=>⟨(cO 0 (by show List.Nodup (["_law_mark","_law_k"]:List Str);decide+kernel)),(xR (ie (DQ (pV hr)) (lX (cw hr) (ai 0) cH) (ai 1))),(ai 0)⟩⟩ (cN 0) nd) (cF (sM (jL (ie (BS (pV hr)) (ai 13) (iE (va (E1 hr)) T.sorted (a7 (ai 13) bX)))) (cF (jv (aG xN))) l8)))) (cF (jv (aG xN))))))))))))⟩
def vf:=mq 1 14 A_.1
theorem Qn:KS 14 lq vf:=A_.2
end ir
namespace ir
open PySem L2
abbrev Mk:=Int×Int
def tM(m:Mk):Tr:=.tup [.int m.1,.int m.2]
def kM(m:Mk):List Key:=[.inl m.1,.inl m.2]
theorem zO{a b:Mk}:kM a=kM b↔a=b:=by
 constructor
 ·intro e;unfold kM at e;injection e with e1 e2
  injection e2 with e2 _
  injection e1 with e1
  injection e2 with e2
  exact kD e1 e2
 ·intro e;rw[e]
theorem HH(m:Mk):nV (tM m)=some (kM m):=rfl
def fD(ks:List Mk)(g:Mk->Tr):List (List Key×Tr):=ks.map fun m=>(kM m,g m)
theorem om(g:Mk->Tr)(m:Mk):∀ks:List Mk,iQ (fD ks g) (kM m)=if m∈ks then some (g m)else none
 |[]=>rfl
 |k::ks=>by
  unfold iQ fD;rw[aC,dY];by_cases e:k=m
  ·subst e;simp
  ·have h:decide (kM k=kM m)=false:=aX fun h=>e (zO.mp h);simp only[h];have:=om g m ks;unfold iQ fD at this;rw[this];have e':¬m=k:=fun h=>e h.symm;simp[e']
theorem Fe(ks:List Mk)(g:Mk->Tr):Ek (fD ks g)=.ok (ks.map tM):=by
 unfold Ek;rw[ab]
 ·unfold fD;rw[bG];rfl
 ·rw[bA];intro p hp;obtain⟨m,_,rfl⟩:=bp.mp hp
  rfl
theorem qK(ks:List Mk)(g:Mk->Tr):p7 (.ok (.aI (fD ks g)))=.ok (ks.map tM):=Fe ks g
theorem Ba(g:Mk->Tr):∀ks:List Mk,nX (ks.map fun m=>.tup [tM m,g m])=some (fD ks g)
 |[]=>rfl
 |k::ks=>by
  rw[aC,nX,HH,Ba g ks]
  rfl
theorem Ff(ks:List Mk)(g:Mk->Tr)(m:Mk):((fD ks g).any fun kv=>decide (kv.1=kM m))=decide (m∈ks):=by
 induction ks with
 |nil=>rfl
 |cons k ks ih=>
  unfold fD at ih⊢;rw[aC,ja,ih];by_cases e:k=m
  ·subst e;simp
  ·have h:decide (kM k=kM m)=false:=aX fun h=>e (zO.mp h);have e':¬m=k:=fun h=>e h.symm;simp only[h,m_];simp[e']
theorem tK{ks:List Mk}{g:Mk->Tr}{m:Mk}{t:Tr}(h:m∉ks)(e:g m=t):jw (fD ks g) (kM m) t=fD (ks++[m]) g:=by
 unfold jw;rw[Ff,aX h,ae (by decide)];unfold fD;rw[dZ,aC,nh,e]
theorem yx{ks:List Mk}{g:Mk->Tr}{m:Mk}{t:Tr}(h:m∈ks):jw (fD ks g) (kM m) t=fD ks (fun x=>if x=m then t else g x):=by
 unfold jw;rw[Ff,bj h,ab rfl];unfold fD;rw[bG];refine fO fun x _=>?_
 show(if kM x=kM m then(kM x,t)else(kM x,g x))=(kM x,if x=m then t else g x);by_cases e:x=m
 ·subst e;rw[ab rfl,ab rfl]
 ·rw[ae (fun h=>e (zO.mp h)),ae e]
theorem yy(g:Mk->Tr):∀(ks pre:List Mk),(pre++ks).Nodup->lb (fD pre g) (fD ks g)=fD (pre++ks) g
 |[],pre,_=>by rw[dq];rfl
 |k::ks,pre,h=>by
  show lb (jw (fD pre g) (kM k) (g k)) (fD ks g)=_;have e:pre++k::ks=(pre++[k])++ks:=by simp
  have hk:k∉pre:=by
   intro m;rw[gV]at h;exact h.2.2 k m k (aP ..) rfl
  rw[tK hk rfl,yy g ks (pre++[k]) (by rw[<-e];exact h),e]
theorem tN{ks:List Mk}(g:Mk->Tr)(h:ks.Nodup)(hl:ks.length<=100):cP [.lst (ks.map fun m=>.tup [tM m,g m])]=.ok (.aI (fD ks g)):=by
 show(match nX (ks.map fun m=>Tr.tup [tM m,g m])with
  |some aA=>if aA.length<=100000 then Rs.ok (Tr.aI (lb [] aA))else .bad
  |none=>.bad)=_
 rw[Ba];show(if(fD ks g).length<=100000 then Rs.ok (Tr.aI (lb [] (fD ks g)))else .bad)=_;rw[ab (by unfold fD;rw[ak];omega)];have:=yy g ks [] h;rw[kc]at this;exact b9 (fun x=>Rs.ok (Tr.aI x)) this
theorem oo{ks:List Mk}(g:Mk->Tr)(h:ks.Nodup)(hl:ks.length<=100):cP [.tup (ks.map fun m=>.tup [tM m,g m])]=.ok (.aI (fD ks g)):=tN g h hl
theorem jS{ks:List Mk}{g:Mk->Tr}{m:Mk}(h:m∈ks):oD (.aI (fD ks g)) (tM m)=.ok (g m):=by
 show BU (iQ (fD ks g) (kM m))=_;rw[om,ab h];rfl
theorem wm(ks:List Mk)(g:Mk->Tr)(m:Mk):CT (tM m) (.aI (fD ks g))=.ok (.bl (decide (m∈ks))):=by
 show Rs.ok (Tr.bl (iQ (fD ks g) (kM m)).isSome)=_;rw[om];by_cases e:m∈ks
 ·rw[ab e,bj e];rfl
 ·rw[ae e,aX e];rfl
theorem qa{T:iU}{G:av->Ab->Rz Out}{t:Tr}{ts:List Tr}{ρ ρ1 ρ2:av}{A A2:Ab}(e1:T t ρ=.ok ρ1)(e2:G ρ1 A=.ok (.nx ρ2) A2):fz T G (t::ts) ρ A=fz T G ts ρ2 A2:=by
 rw[fz,e1];show(G ρ1 A).bind _=_;rw[e2];rfl
theorem WA{i j m:Nat}{G:av->Ab->Rz Out}{us:List Tr}{t:Tr}{ρ ρ2:av}{A A2:Ab}(h:A[j]?=some (.lst us))(ht:us[i]?=some t){x:Nat}(e2:G (ρ.set x (.sh t)) A=.ok (.nx ρ2) A2):gg (gN x) G j (m+1) i ρ A=gg (gN x) G j m (i+1) ρ2 A2:=by
 rw[gg,h];show(match us[i]? with
   |none=>Rz.ok (Out.nx ρ) A
   |some t=>_)=_
 rw[ht];show(G (ρ.set x (.sh t)) A).bind _=_;rw[e2];rfl
theorem WB{i j m:Nat}{G:av->Ab->Rz Out}{us:List Tr}{ρ:av}{A:Ab}(h:A[j]?=some (.lst us))(ht:us[i]?=none){x:Nat}:gg (gN x) G j (m+1) i ρ A=.ok (.nx ρ) A:=by
 rw[gg,h];show(match us[i]? with
   |none=>Rz.ok (Out.nx ρ) A
   |some t=>_)=_
 rw[ht]
theorem HI{a b:Mk}{ks:List Mk}(ha:a∈ks)(hb:b∈ks)(e:ks.idxOf a=ks.idxOf b):a=b:=by
 have h1:=List.getElem_idxOf (mF ha);have h2:=List.getElem_idxOf (mF hb);rw[<-h1,<-h2];congr 1
theorem Bb:∀(ks:List Mk) (n:Nat),ks.Nodup->K3 n (ks.map tM)=ks.map fun m=>.tup [tM m,.at (n+ks.idxOf m)]
 |[],_,_=>rfl
 |k::ks,n,h=>by
  rw[dW]at h;rw[aC,K3,Bb ks (n+1) h.2,aC,List.idxOf_cons_self];refine b9 _ (fO fun x hx=>?_);have e:¬k=x:=fun e=>h.1 (e▸hx);have e2:(k::ks).idxOf x=ks.idxOf x+1:=by
   rw[List.idxOf_cons,e8 e];rfl
  rw[e2,show n+1+ks.idxOf x=n+(ks.idxOf x+1) by omega]
theorem fT:∀ks:List Mk,gJ (ks.map tM)=true
 |[]=>rfl
 |k::ks=>by rw[aC,gJ,fT ks];rfl
end ir
namespace ir
open PySem L2
def bI:av->Ab->Rz Out:=fun ρ A=>uT (aj (iL (cM CT (ar ρ 3) (ar ρ 0))) A) (fun A=>l4 (Kv pW (aj (cM oD (ar ρ 1) (ar ρ 3)) A) fun A=>bH (aj (ar ρ 2) A) fun A=>Rz.ok [] A) ρ) fun A=>Rz.ok (Out.nx ρ) A
def bO:av->Ab->Rz Out:=fun ρ A=>gz (gN 3) bI (aj (il (cM oD (ar ρ 0) (ar ρ 2))) A) ρ
def gF:av->Ab->Rz Out:=fun ρ A=>bu (cK 1 (oX cP (sV (p7 (ar ρ 0)) A)) ρ) fun ρ A=>bu (O7 (gz (gN 2) bO (aj (p7 (ar ρ 0)) A) ρ)) fun ρ A=>gs (aj (ar ρ 1) A)
theorem Qo:fF.1=gF:=rfl
def tB(bh:Mk->List Mk)(m:Mk):Tr:=.tup ((bh m).map tM)
def tI(ks:List Mk)(m:Mk):Tr:=.at (ks.idxOf m)
def AF(ks:List Mk)(F:Mk->List Mk)(A:Ab):Prop:=A.length=ks.length/\∀m∈ks,A[ks.idxOf m]?=some (.lst ((F m).map tM))
theorem AF.congr {ks:List Mk}{F G:Mk->List Mk}{A:Ab}(h:AF ks F A)(e:∀m∈ks,F m=G m):AF ks G A:=⟨h.1,fun m hm=>by rw[<-e m hm];exact h.2 m hm⟩
theorem Qp{ks:List Mk}{bh:Mk->List Mk}{F:Mk->List Mk}{A:Ab}{m b:Mk}(h:AF ks F A)(hb:b∈ks)(hl:(F b).length<=1000):
  bI [.sh (.aI (fD ks (tB bh))),.sh (.aI (fD ks (tI ks))),.sh (tM m),.sh (tM b)] A=.ok (.nx [.sh (.aI (fD ks (tB bh))),.sh (.aI (fD ks (tI ks))),.sh (tM m),.sh (tM b)]) (A.set (ks.idxOf b) (.lst ((F b++[m]).map tM))):=by
 show uT (aj (iL (CT (tM b) (.aI (fD ks (tB bh))))) A) (fun A=>l4 (Kv pW (aj (oD (.aI (fD ks (tI ks))) (tM b)) A) fun A=>bH (aj (Rs.ok (tM m)) A) fun A=>Rz.ok [] A) _) _=_;rw[wm,bj hb,jS hb];show l4 (if Ha A (ks.idxOf b)=true then pW (ks.idxOf b) [tM m] A else .bad) _=_;have e:=h.2 b hb;have e1:Ha A (ks.idxOf b)=true:=by unfold Ha;rw[e]
 have e2:pW (ks.idxOf b) [tM m] A=.ok .dv (A.set (ks.idxOf b) (.lst ((F b++[m]).map tM))):=by
  unfold pW;simp only[e];rw[ab (by rw[ak];unfold ik;omega),dZ]
  rfl
 rw[ab e1,e2]
 rfl
theorem LJ{ks:List Mk}{bh:Mk->List Mk}{A:Ab}{m b:Mk}{FO:Tr}(hb:b∉ks):
  bI [.sh (.aI (fD ks (tB bh))),.sh FO,.sh (tM m),.sh (tM b)] A=.ok (.nx [.sh (.aI (fD ks (tB bh))),.sh FO,.sh (tM m),.sh (tM b)]) A:=by
 show uT (aj (iL (CT (tM b) (.aI (fD ks (tB bh))))) A) _ (fun A=>_)=_;rw[wm,aX hb]
 rfl
theorem AF.put {ks:List Mk}{F:Mk->List Mk}{A:Ab}{b:Mk}(h:AF ks F A)(hb:b∈ks)(l:List Mk):AF ks (fun x=>if x=b then l else F x) (A.set (ks.idxOf b) (.lst (l.map tM))):=by
 refine⟨by rw[i9];exact h.1,fun m hm=>?_⟩;by_cases e:m=b
 ·subst e;have:ks.idxOf m<A.length:=by rw[h.1];exact mF hm
  rw[fk this];simp
 ·have:ks.idxOf b≠ks.idxOf m:=fun q=>e (HI hb hm q).symm;rw[cg this,h.2 m hm];simp[e]
theorem inner{ks:List Mk}{bh:Mk->List Mk}(m:Mk):∀(bs:List Mk) (F:Mk->List Mk) (A:Ab) (c:Cell),bs.Nodup->AF ks F A->(∀b∈bs,(F b).length<=1000)->
  ∃A' c',fz (gN 3) bI (bs.map tM) [.sh (.aI (fD ks (tB bh))),.sh (.aI (fD ks (tI ks))),.sh (tM m),c] A=.ok (.nx [.sh (.aI (fD ks (tB bh))),.sh (.aI (fD ks (tI ks))),.sh (tM m),c']) A'/\AF ks (fun b=>if b∈bs then F b++[m]else F b) A'
 |[],F,A,c,_,h,_=>⟨A,c,rfl,h.congr fun _ _=>by simp⟩
 |b::bs,F,A,c,nd,h,hl=>by
  rw[dW]at nd;by_cases hb:b∈ks
  ·have h1:=h.put hb (F b++[m]);obtain⟨A',c',e,h2⟩:=inner (bh:=bh) m bs _ _ (.sh (tM b)) nd.2 h1 fun x hx=>by
    have:¬x=b:=fun e=>nd.1 (e▸hx);simp only[this,bB];exact hl x (aO _ hx)
   refine⟨A',c',?_,h2.congr fun x hx=>?_⟩
   ·rw[aC,qa (ρ1:=[.sh (.aI (fD ks (tB bh))),.sh (.aI (fD ks (tI ks))),.sh (tM m),.sh (tM b)]) rfl (Qp h hb (hl b (aP ..)))];exact e
   ·by_cases e:x=b
    ·subst e;simp[nd.1]
    ·simp[e]
  ·obtain⟨A',c',e,h2⟩:=inner (bh:=bh) m bs F A (.sh (tM b)) nd.2 h fun x hx=>hl x (aO _ hx);refine⟨A',c',?_,h2.congr fun x hx=>?_⟩
   ·rw[aC,qa (ρ1:=[.sh (.aI (fD ks (tB bh))),.sh (.aI (fD ks (tI ks))),.sh (tM m),.sh (tM b)]) rfl (LJ hb)];exact e
   ·have:¬x=b:=fun e=>hb (e▸hx);simp[this]
def oq(bh:Mk->List Mk)(ks:List Mk)(b:Mk):List Mk:=ks.filter fun m=>decide (b∈bh m)
theorem outer{ks:List Mk}{bh:Mk->List Mk}:∀(rest pre:List Mk) (A:Ab) (c d:Cell),(∀m∈rest,m∈ks/\(bh m).Nodup)->pre.length+rest.length<=100->AF ks (oq bh pre) A->
  ∃A' c' d',fz (gN 2) bO (rest.map tM) [.sh (.aI (fD ks (tB bh))),.sh (.aI (fD ks (tI ks))),c,d] A=.ok (.nx [.sh (.aI (fD ks (tB bh))),.sh (.aI (fD ks (tI ks))),c',d']) A'/\AF ks (oq bh (pre++rest)) A'
 |[],pre,A,c,d,_,_,h=>⟨A,c,d,rfl,by rw[dq];exact h⟩
 |m::rest,pre,A,c,d,hm,hl,h=>by
  obtain⟨hk,nd⟩:=hm m (aP ..);rw[bb]at hl;obtain⟨A1,c1,e1,h1⟩:=inner (bh:=bh) m (bh m) _ _ d nd h fun b _=>by
   have:(oq bh pre b).length<=pre.length:=lC _ _;omega
  have Ce:AF ks (oq bh (pre++[m])) A1:=h1.congr fun x _=>by
   unfold oq;rw[List.filter_append,dJ,rR];by_cases e:x∈bh m<;>simp[e]
  obtain⟨A2,c2,d2,e2,h2⟩:=outer rest (pre++[m]) A1 (.sh (tM m)) c1 (fun x hx=>hm x (aO _ hx)) (by rw[aY,bb,dX];omega) Ce;refine⟨A2,c2,d2,?_,by rw[gE]at h2;exact h2⟩;have eb:bO [.sh (.aI (fD ks (tB bh))),.sh (.aI (fD ks (tI ks))),.sh (tM m),d] A=.ok (.nx [.sh (.aI (fD ks (tB bh))),.sh (.aI (fD ks (tI ks))),.sh (tM m),c1]) A1:=by
   show gz (gN 3) bI (aj (il (oD (.aI (fD ks (tB bh))) (tM m))) A) _=_;rw[jS hk];exact e1
  rw[aC,qa (ρ1:=[.sh (.aI (fD ks (tB bh))),.sh (.aI (fD ks (tI ks))),.sh (tM m),d]) rfl eb];exact e2
theorem yz{ks:List Mk}{bh:Mk->List Mk}(nd:ks.Nodup)(hl:ks.length<=100)(hb:∀m∈ks,(bh m).Nodup):
  ∃A,fG [.aI (fD ks (tB bh))] []=.ok (.aI (fD ks (tI ks))) A/\AF ks (oq bh ks) A:=by
 have h0:AF ks (oq bh []) (List.replicate ks.length (.lst [])):=⟨mP,fun m hm=>by
  rw[mL,ab (mF hm)]
  rfl⟩
 obtain⟨A,c,d,e,h⟩:=outer (bh:=bh) ks [] _ .no .no (fun m hm=>⟨hm,hb m hm⟩) (by rw[dX];omega) h0;refine⟨A,?_,h⟩;show dD (fF.1 [.sh (.aI (fD ks (tB bh))),.no,.no,.no] [])=_;rw[Qo];have e1:oX cP (sV (p7 (.ok (.aI (fD ks (tB bh))))) [])=.ok (.aI (fD ks (tI ks))) (List.replicate ks.length (.lst [])):=by
  rw[qK];show oX cP (if gJ (ks.map tM)=true/\(ks.map tM).length<=ik then Rz.ok (.lst (K3 0 (ks.map tM))) ([]++List.replicate (ks.map tM).length (.lst []))else .bad)=_;rw[ab ⟨fT ks,by rw[ak];unfold ik;omega⟩];show aj (cP [.lst (K3 0 (ks.map tM))]) _=_;rw[Bb ks 0 nd,tN (fun m=>.at (0+ks.idxOf m)) nd hl,ak];have:(fun m:Mk=>Tr.at (0+ks.idxOf m))=tI ks:=funext fun m=>by unfold tI;rw[kx]
  rw[this]
  rfl
 show dD (bu (cK 1 (oX cP (sV (p7 (.ok (.aI (fD ks (tB bh))))) [])) [.sh (.aI (fD ks (tB bh))),.no,.no,.no]) _)=_;rw[e1];show dD (bu (O7 (gz (gN 2) bO (aj (p7 (.ok (.aI (fD ks (tB bh))))) _) _)) _)=_;rw[qK];show dD (bu (O7 (fz (gN 2) bO (ks.map tM) [.sh (.aI (fD ks (tB bh))),.sh (.aI (fD ks (tI ks))),.no,.no] _)) _)=_;rw[e]
 rfl
end ir
namespace ir
open PySem L2
def CG(s:(Mk->Int)×List Mk)(f:Mk):(Mk->Int)×List Mk:=(fun x=>if x=f then s.1 f - 1 else s.1 x,if s.1 f - 1=0 then s.2++[f]else s.2)
def qH(E:List Mk)(s:(Mk->Int)×List Mk):(Mk->Int)×List Mk:=E.foldl CG s
theorem ou{f:Mk}{E:List Mk}{s:(Mk->Int)×List Mk}:qH (f::E) s=qH E (CG s f):=rfl
theorem HJ{E E':List Mk}{s:(Mk->Int)×List Mk}:qH (E++E') s=qH E' (qH E s):=rq
theorem Bc(s:(Mk->Int)×List Mk)(f:Mk):(CG s f).2.length<=s.2.length+1:=by
 unfold CG;by_cases e:s.1 f - 1=0
 ·simp[e]
 ·simp[e]
theorem Bd:∀(E:List Mk) (s:(Mk->Int)×List Mk),(qH E s).2.length<=s.2.length+E.length
 |[],s=>by show s.2.length<=_;omega
 |f::E,s=>by
  rw[ou,bb];have:=Bd E (CG s f);have:=Bc s f;omega
theorem yA:∀(E:List Mk) (w:Mk->Int) (fs:List Mk),(∀m∈E,(E.count m:Int)<=w m)->
  (∀m,(qH E (w,fs)).1 m=w m - E.count m)/\∃X,(qH E (w,fs)).2=fs++X/\X.Nodup/\∀m,m∈X↔m∈E/\(E.count m:Int)=w m
 |[],w,fs,_=>⟨fun m=>by show w m=_;simp,[],by show fs=_;simp,fQ,fun m=>by simp⟩
 |f::E,w,fs,h=>by
  have hc:∀m,(f::E).count m=E.count m+if m=f then 1 else 0:=fun m=>by
   rw[List.count_cons];by_cases e:m=f
   ·subst e;simp
   ·have:¬f=m:=fun h=>e h.symm;simp[e,this]
  obtain⟨h1,X,h2,h3,h4⟩:=yA E (fun x=>if x=f then w f - 1 else w x) (if w f - 1=0 then fs++[f]else fs) (fun m hm=>by
   have:=h m (aO _ hm);rw[hc]at this;by_cases e:m=f
   ·subst e;simp at this⊢;omega
   ·simp[e]at this⊢;exact this)
  refine⟨fun m=>?_,?_⟩
  ·rw[ou];unfold CG;rw[h1 m,hc];by_cases e:m=f
   ·subst e;simp;omega
   ·simp[e]
  ·rw[ou];unfold CG;show∃X,(qH E (fun x=>if x=f then w f - 1 else w x,if w f - 1=0 then fs++[f]else fs)).2=fs++X/\_;have hf:=h f (aP ..);rw[hc,ab rfl]at hf;have Qq:f∈E↔0<E.count f:=(List.count_pos_iff).symm;by_cases e0:w f - 1=0
   ·rw[ab e0]at h2⊢;have hz:E.count f=0:=by omega
    have Y2:f∉E:=fun h=>by have:=Qq.mp h;omega
    refine⟨f::X,by rw[h2];simp,?_,fun m=>?_⟩
    ·rw[dW];exact⟨fun hx=>Y2 ((h4 f).mp hx).1,h3⟩
    ·rw[a8,a8,h4 m,hc];by_cases e:m=f
     ·subst e;simp[hz];omega
     ·simp[e]
   ·rw[ae e0]at h2⊢;refine⟨X,h2,h3,fun m=>?_⟩;rw[h4 m,a8,hc];by_cases e:m=f
    ·subst e;simp only[f_,true_or,true_and];constructor
     ·intro⟨_,q⟩;omega
     ·intro q;refine⟨Qq.mpr ?_,by omega⟩;omega
    ·simp[e]
structure wo(ks:List Mk)(bh:Mk->List Mk)(H:Mk->Nat):Prop where
 nd:ks.Nodup
 len:ks.length<=20
 LK:∀m∈ks,(bh m).Nodup
 wq:∀m∈ks,(bh m).length<=20
 pos:∀m∈ks,1<=H m
 lt:∀m∈ks,∀b∈bh m,b∈ks->H b<H m
 ex:∀m∈ks,H m=1\/∃b∈bh m,b∈ks/\H m=H b+1
 top:∀m∈ks,H m<=50
section
variable {ks:List Mk}{bh:Mk->List Mk}{H:Mk->Nat}
def cnt(ks:List Mk)(bh:Mk->List Mk)(H:Mk->Nat)(h:Nat)(m:Mk):Nat:=((bh m).filter fun b=>decide (b∈ks)&&decide (h<=H b)).length
structure Lv(ks:List Mk)(bh:Mk->List Mk)(H:Mk->Nat)(h:Nat)(hs ls:List Mk)(w:Mk->Int):Prop where
 h1:1<=h
 nd:hs.Nodup
 mem:∀m,m∈hs↔m∈ks/\H m<h
 MQ:ls.Nodup
 wt:∀m,m∈ls↔m∈ks/\H m=h
 w:∀m∈ks,w m=cnt ks bh H h m
theorem dA{α:Type}{p:α->Bool}{l:List α}(h:l.Nodup):(l.filter p).Nodup:=List.Nodup.sublist List.filter_sublist h
theorem CH(K:wo ks bh H){m:Mk}(hm:m∈ks)(b:Mk):(oq bh ks b).count m=if b∈bh m then 1 else 0:=by
 unfold oq;rw[List.Nodup.count (dA K.nd)];simp[cC,hm]
theorem Be:∀(ls:List Mk) (p:Mk->Prop) [DecidablePred p],(ls.map fun b=>if p b then 1 else 0).sum=(ls.filter fun b=>decide (p b)).length
 |[],_,_=>rfl
 |b::ls,p,_=>by
  rw[aC,List.sum_cons,Be ls p,dJ];by_cases e:p b
  ·simp[e];omega
  ·simp[e]
theorem Fg(K:wo ks bh H){ls:List Mk}{h:Nat}(MQ:ls.Nodup)(lm:∀m,m∈ls↔m∈ks/\H m=h){m:Mk}(hm:m∈ks):
  (ls.flatMap (oq bh ks)).count m=((bh m).filter fun b=>decide (b∈ks)&&decide (H b=h)).length:=by
 rw[List.count_flatMap];have e:(List.count m∘oq bh ks)=fun b=>if b∈bh m then 1 else 0:=funext fun b=>CH K hm b
 rw[e,Be];refine List.Perm.length_eq ((mI (dA MQ) (dA (K.LK m hm))).mpr fun b=>?_);rw[cC,cC,lm];simp only[cp,aE];constructor
 ·rintro ⟨⟨a,b⟩,c⟩;exact⟨c,a,b⟩
 ·rintro ⟨c,a,b⟩;exact⟨⟨a,b⟩,c⟩
theorem ox{α:Type}:∀(l:List α) (p q r:α->Bool),(∀x∈l,p x=(q x||r x))->(∀x∈l,(q x&&r x)=false)->(l.filter p).length=(l.filter q).length+(l.filter r).length
 |[],_,_,_,_,_=>rfl
 |x::l,p,q,r,h1,h2=>by
  have e1:=h1 x (aP ..);have e2:=h2 x (aP ..);have ih:=ox l p q r (fun y hy=>h1 y (aO _ hy)) (fun y hy=>h2 y (aO _ hy));rw[dJ,dJ,dJ,e1];cases hq:q x<;>cases hr:r x<;>simp[hq,hr]at e2⊢<;>omega
theorem CI(h:Nat)(m:Mk):cnt ks bh H h m=((bh m).filter fun b=>decide (b∈ks)&&decide (H b=h)).length+cnt ks bh H (h+1) m:=by
 unfold cnt;refine ox _ _ _ _ (fun b _=>?_) fun b _=>?_
 ·by_cases e:b∈ks
  ·simp only[e,decide_true,kh];by_cases e1:h<=H b
   ·by_cases e2:H b=h
    ·simp[e2]
    ·have:h+1<=H b:=by omega
     simp[e1,e2,this]
   ·have a:¬H b=h:=by omega
    have b:¬h+1<=H b:=by omega
    simp[e1,a,b]
  ·simp[e]
 ·by_cases e2:H b=h
  ·have:¬h+1<=H b:=by omega
   simp[this]
  ·simp[e2]
theorem Lv.next (K:wo ks bh H){h:Nat}{hs ls:List Mk}{w:Mk->Int}(L:Lv ks bh H h hs ls w):Lv ks bh H (h+1) (hs++ls) (qH (ls.flatMap (oq bh ks)) (w,[])).2 (qH (ls.flatMap (oq bh ks)) (w,[])).1:=by
 have sub:∀m∈ls.flatMap (oq bh ks),m∈ks:=fun m hm=>by
  obtain⟨b,_,hb⟩:=i8.mp hm;exact(cC.mp hb).1
 have hc:∀m∈ks,((ls.flatMap (oq bh ks)).count m:Int)=w m - cnt ks bh H (h+1) m:=fun m hm=>by
  rw[Fg K L.MQ L.wt hm,L.w m hm,CI h m];omega
 obtain⟨h1,X,h2,h3,h4⟩:=yA (ls.flatMap (oq bh ks)) w [] (fun m hm=>by rw[hc m (sub m hm)];omega);rw[kc]at h2;refine⟨by have:=L.h1;omega,?_,fun m=>?_,by rw[h2];exact h3,fun m=>?_,fun m hm=>?_⟩
 ·rw[gV];refine⟨L.nd,L.MQ,fun a ha b hb e=>?_⟩;subst e;have:=((L.mem a).mp ha).2;have:=((L.wt a).mp hb).2;omega
 ·rw[bF,L.mem,L.wt];constructor
  ·rintro (⟨a,b⟩|⟨a,b⟩)
   ·exact⟨a,by omega⟩
   ·exact⟨a,by omega⟩
  ·rintro ⟨a,b⟩
   by_cases e:H m=h
   ·exact .inr ⟨a,e⟩
   ·exact .inl ⟨a,by omega⟩
 ·rw[h2,h4];constructor
  ·rintro ⟨hm,he⟩
   have hk:=sub m hm;refine⟨hk,?_⟩;rw[hc m hk]at he;have hz:cnt ks bh H (h+1) m=0:=by omega
   obtain⟨b,hb,hf⟩:=i8.mp hm;have lF:=(L.wt b).mp hb;have NF:b∈bh m:=cq (cC.mp hf).2;have g1:=K.lt m hk b NF lF.1;rcases K.ex m hk with e|⟨b2,k1,k2,k3⟩
   ·have:=K.pos b lF.1;omega
   ·by_cases q:h+1<=H b2
    ·exfalso;unfold cnt at hz;have:b2∈(bh m).filter fun b=>decide (b∈ks)&&decide (h+1<=H b):=cC.mpr ⟨k1,by simp[k2,q]⟩;rw[mN.mp hz]at this;cases this
    ·omega
  ·rintro ⟨hk,he⟩
   rcases K.ex m hk with e|⟨b,k1,k2,k3⟩
   ·have:=L.h1;omega
   ·refine⟨i8.mpr ⟨b,(L.wt b).mpr ⟨k2,by omega⟩,cC.mpr ⟨hk,bj k1⟩⟩,?_⟩;rw[hc m hk];have hz:cnt ks bh H (h+1) m=0:=by
     unfold cnt;rw[mN,qW];intro a ha;by_cases q:a∈ks
     ·have:=K.lt m hk a ha q;have:¬h+1<=H a:=by omega
      simp[this]
     ·simp[q]
    omega
 ·rw[h1 m,hc m hm];omega
theorem Lv.last (K:wo ks bh H){h:Nat}{hs:List Mk}{w:Mk->Int}(L:Lv ks bh H h hs [] w):∀m∈ks,H m<h:=by
 have key:∀(n:Nat) (m:Mk),m∈ks->H m=h+n->False:=fun n=>by
  induction n with
  |zero=>exact fun m hm e=>by have:=(L.wt m).mpr ⟨hm,e⟩;cases this
  |succ n ih=>
   intro m hm e;rcases K.ex m hm with q|⟨b,k1,k2,k3⟩
   ·have:=L.h1;omega
   ·exact ih b k2 (by omega)
 intro m hm;by_cases q:H m<h
 ·exact q
 ·exact(key (H m - h) m hm (by omega)).elim
theorem Lv.start (K:wo ks bh H)(w:Mk->Int)(hw:∀m∈ks,w m=((bh m).filter fun b=>decide (b∈ks)).length):Lv ks bh H 1 [] (ks.filter fun m=>w m==0) w:=by
 have hc:∀m∈ks,cnt ks bh H 1 m=((bh m).filter fun b=>decide (b∈ks)).length:=fun m hm=>by
  unfold cnt;congr 1;refine List.filter_congr fun b _=>?_
  by_cases e:b∈ks
  ·have:=K.pos b e;simp[e];omega
  ·simp[e]
 refine⟨aq _,fQ,fun m=>?_,dA K.nd,fun m=>?_,fun m hm=>by rw[hw m hm,hc m hm]⟩
 ·constructor
  ·intro h;cases h
  ·rintro ⟨a,b⟩;have:=K.pos m a;omega
 ·rw[cC];refine and_congr_right fun hm=>?_
  rw[hw m hm,g9];constructor
  ·intro e;rcases K.ex m hm with q|⟨b,k1,k2,k3⟩
   ·exact q
   ·have:b∈(bh m).filter fun b=>decide (b∈ks):=cC.mpr ⟨k1,bj k2⟩;have z:((bh m).filter fun b=>decide (b∈ks)).length=0:=by omega
    rw[mN.mp z]at this;cases this
  ·intro e;have:(bh m).filter (fun b=>decide (b∈ks))=[]:=by
    rw[qW];intro b hb q;have q:=cq q;have:=K.lt m hm b hb q;have:=K.pos b q;omega
   rw[this];rfl
end
end ir
namespace ir
open PySem L2
def bE:av->Ab->Rz Out:=fun ρ A=>bu (Ei (fun A=>aj (ar ρ 3) A) (fun A=>aj (ar ρ 9) A) (fun A=>aj (Rs.ok (Tr.int 1)) A) ρ A) fun ρ A=>uT (aj (iL (cM BR (cM oD (ar (bq A ρ) 3) (ar (bq A ρ) 9)) (Rs.ok (Tr.int 0)))) A) (fun A=>l4 (Kv pW (aj (ar ρ 7) A) fun A=>bH (aj (ar ρ 9) A) fun A=>Rz.ok [] A) ρ) fun A=>Rz.ok (Out.nx ρ) A
def bL:av->Ab->Rz Out:=fun ρ A=>bu (uX (aj (ar ρ 6) A) (fun A=>aj (ar ρ 4) A) (fun A=>aj (ar ρ 8) A) ρ) fun ρ A=>loopAt (gN 9) bE 100 (aj (cM oD (ar ρ 2) (ar ρ 8)) A) ρ
def bW:av->Ab->Rz Out:=fun ρ A=>bu (cK 7 (gr (DH (Rs.ok [])) A) ρ) fun ρ A=>bu (loopAt (gN 8) bL 100 (aj (ar ρ 5) A) ρ) fun ρ A=>bu (cK 5 (aj (ar ρ 7) A) ρ) fun ρ A=>KO 6 (fun A=>aj (Rs.ok (Tr.int 1)) A) ρ A
def cW:av->Ab->Rz Bool:=fun ρ A=>aj (iL (cM ME (ba pL (aF (ar (bq A ρ) 5) (Rs.ok []))) (Rs.ok (Tr.int 0)))) A
def RP(A:Ab)(ρ:av):Rs Tr:=ij [none,some 1] (gN 0) (fun _=>Rs.ok true) (fun ρ=>jk (aF (ar ρ 0) (aF (ba pL (aF (ij [none,some 1] (gN 0) (fun ρ=>iL (cM CT (ar ρ 0) (ar ρ 1))) (fun ρ=>ar ρ 0) (il (cM oD (ar ρ 1) (ar ρ 0))) ρ) (Rs.ok []))) (Rs.ok [])))) (p7 (ar (bq A ρ) 1)) (bq A ρ)
def RQ(A:Ab)(ρ:av):Rs Tr:=ij [none,some 3] (gN 0) (fun ρ=>iL (cM BR (cM oD (ar ρ 1) (ar ρ 0)) (Rs.ok (Tr.int 0)))) (fun ρ=>ar ρ 0) (p7 (ar (bq A ρ) 1)) (bq A ρ)
def gH:av->Ab->Rz Out:=fun ρ A=>bu (cK 1 (aj (ba cP (aF (ar ρ 0) (Rs.ok []))) A) ρ) fun ρ A=>bu (cK 2 ((bH (aj (ar ρ 1) A) fun A=>Rz.ok [] A).bind fG) ρ) fun ρ A=>bu (cK 3 (gr (ba cP (aF (RP A ρ) (Rs.ok []))) A) ρ) fun ρ A=>bu (cK 4 (gr (Rs.ok (Tr.aI [])) A) ρ) fun ρ A=>bu (cK 5 (gr (RQ A ρ) A) ρ) fun ρ A=>bu (cK 6 (aj (Rs.ok (Tr.int 1)) A) ρ) fun ρ A=>bu (iN cW bW 100 ρ A) fun ρ A=>gs (aj (ar ρ 4) A)
theorem Qr:gP.1=gH:=rfl
def tH(H:Mk->Nat)(m:Mk):Tr:=.int (H m)
structure Sy(ks:List Mk)(bh:Mk->List Mk)(H:Mk->Nat)(A:Ab)(w:Mk->Int)(hs:List Mk)(lv:Nat)(ls:List Mk):Prop where
 f:∀m∈ks,A[ks.idxOf m]?=some (.lst ((oq bh ks m).map tM))
 w:A[ks.length]?=some (.aI (fD ks fun m=>.int (w m)))
 h:A[ks.length+1]?=some (.aI (fD hs (tH H)))
 l:A[lv]?=some (.lst (ls.map tM))
 hl:ks.length+1<lv
structure Sx(ks:List Mk)(bh:Mk->List Mk)(H:Mk->Nat)(A:Ab)(w:Mk->Int)(hs:List Mk)(lv:Nat)(ls:List Mk)(fr:Nat)(fs:List Mk):Prop where
 y:Sy ks bh H A w hs lv ls
 r:A[fr]?=some (.lst (fs.map tM))
 hr:lv<fr
section
variable {ks:List Mk}{bh:Mk->List Mk}{H:Mk->Nat}{A:Ab}{w:Mk->Int}{hs ls fs:List Mk}{lv fr:Nat}
theorem a6{α:Type}{l:List α}{i:Nat}{x:α}(h:l[i]?=some x):i<l.length:=by
 by_cases q:i<l.length
 ·exact q
 ·rw[List.getElem?_eq_none (by omega)]at h;cases h
theorem tR{m:Mk}(h:m∈ks):ks.idxOf m<ks.length:=mF h
theorem Sx.Vd (S:Sx ks bh H A w hs lv ls fr fs)(w':Mk->Int):Sx ks bh H (A.set ks.length (.aI (fD ks fun m=>.int (w' m)))) w' hs lv ls fr fs:=by
 have:=S.hr;have:=S.y.hl;refine⟨⟨fun m hm=>?_,?_,?_,?_,S.y.hl⟩,?_,S.hr⟩
 ·rw[cg (by have:=tR hm;omega)];exact S.y.f m hm
 ·rw[fk (a6 S.y.w)]
 ·rw[cg (by omega)];exact S.y.h
 ·rw[cg (by omega)];exact S.y.l
 ·rw[cg (by omega)];exact S.r
theorem Sx.Ve (S:Sx ks bh H A w hs lv ls fr fs)(HK:List Mk):Sx ks bh H (A.set (ks.length+1) (.aI (fD HK (tH H)))) w HK lv ls fr fs:=by
 have:=S.hr;have:=S.y.hl;refine⟨⟨fun m hm=>?_,?_,?_,?_,S.y.hl⟩,?_,S.hr⟩
 ·rw[cg (by have:=tR hm;omega)];exact S.y.f m hm
 ·rw[cg (by omega)];exact S.y.w
 ·rw[fk (a6 S.y.h)]
 ·rw[cg (by omega)];exact S.y.l
 ·rw[cg (by omega)];exact S.r
theorem Sx.Vf (S:Sx ks bh H A w hs lv ls fr fs)(R5:List Mk):Sx ks bh H (A.set fr (.lst (R5.map tM))) w hs lv ls fr R5:=by
 have:=S.hr;have:=S.y.hl;refine⟨⟨fun m hm=>?_,?_,?_,?_,S.y.hl⟩,?_,S.hr⟩
 ·rw[cg (by have:=tR hm;omega)];exact S.y.f m hm
 ·rw[cg (by omega)];exact S.y.w
 ·rw[cg (by omega)];exact S.y.h
 ·rw[cg (by omega)];exact S.y.l
 ·rw[fk (a6 S.r)]
def rW(T K:Tr)(ks:List Mk)(lv:Nat)(h:Int)(fr c d:Cell):av:=[.sh T,.sh K,.sh (.aI (fD ks (tI ks))),.sh (.at ks.length),.sh (.at (ks.length+1)),.sh (.at lv),.sh (.int h),fr,c,d]
theorem tU{n:Nat}{us:List Mk}{g:Mk->Int}(e:A[n]?=some (.aI (fD us fun m=>.int (g m))))(k:Nat):bf (k+1) A (.at n)=.aI (fD us fun m=>.int (g m)):=by
 rw[bf];simp only[e];unfold fD;rw[bG];congr 1;refine fO fun m _=>?_
 cases k<;>rfl
theorem Fh{n:Nat}{us:List Mk}(e:A[n]?=some (.lst (us.map tM)))(k:Nat):bf (k+1) A (.at n)=.lst (us.map tM):=by
 rw[bf];simp only[e];rw[bG];congr 1;refine fO fun m _=>?_
 cases k<;>rfl
theorem WC(a b:Int):BR (.int a) (.int b)=.ok (.bl (a==b)):=ab ⟨rfl,rfl,by show 0<=40;decide⟩
theorem Qs(S:Sx ks bh H A w hs lv ls fr fs)(kl:ks.length<=1000){T K:Tr}{h:Int}{c:Cell}{f:Mk}(hf:f∈ks)(hl:fs.length<=1000):
  ∃A',bE (rW T K ks lv h (.sh (.at fr)) c (.sh (tM f))) A=.ok (.nx (rW T K ks lv h (.sh (.at fr)) c (.sh (tM f)))) A'/\Sx ks bh H A' (CG (w,fs) f).1 hs lv ls fr (CG (w,fs) f).2:=by
 have S1:=S.Vd fun x=>if x=f then w f - 1 else w x
 have e1:Ei (fun A=>aj (ar (rW T K ks lv h (.sh (.at fr)) c (.sh (tM f))) 3) A) (fun A=>aj (ar (rW T K ks lv h (.sh (.at fr)) c (.sh (tM f))) 9) A) (fun A=>aj (Rs.ok (Tr.int 1)) A) (rW T K ks lv h (.sh (.at fr)) c (.sh (tM f))) A=.ok (.nx (rW T K ks lv h (.sh (.at fr)) c (.sh (tM f)))) (A.set ks.length (.aI (fD ks fun m=>.int (if m=f then w f - 1 else w m)))):=by
  have g1:Eh A (.at ks.length) (tM f)=some (w f):=by
   show(match A[ks.length]? with
    |some (.aI aA)=>(match iQ aA (kM f)with
     |some (.int n)=>some n
     |_=>none)
    |_=>none)=_
   rw[S.y.w];show(match iQ (fD ks fun m=>.int (w m)) (kM f)with
     |some (.int n)=>some n
     |_=>none)=_
   rw[om,ab hf]
  have g2:jx A (.at ks.length) (tM f) (.int (w f - 1))=some (A.set ks.length (.aI (fD ks fun m=>.int (if m=f then w f - 1 else w m)))):=by
   show(match A[ks.length]? with
    |some (.aI aA)=>if aA.length<ik then some (A.set ks.length (.aI (jw aA (kM f) (.int (w f - 1)))))else none
    |_=>none)=_
   rw[S.y.w];show(if(fD ks fun m=>.int (w m)).length<ik then some (A.set ks.length (.aI (jw (fD ks fun m=>.int (w m)) (kM f) (.int (w f - 1)))))else none)=_;rw[ab (by unfold fD ik;rw[ak];omega),yx hf];have:(fun x=>if x=f then Tr.int (w f - 1)else Tr.int (w x))=fun m=>Tr.int (if m=f then w f - 1 else w m):=funext fun x=>by by_cases e:x=f<;>simp[e]
   rw[this]
  show(match Eh A (.at ks.length) (tM f)with
   |some n=>_
   |none=>Rz.bad)=_
  rw[g1];show(match jx A (.at ks.length) (tM f) (.int (w f - 1))with
   |some A'=>Rz.ok (Out.nx _) A'
   |none=>Rz.bad)=_
  rw[g2]
 have key:bE (rW T K ks lv h (.sh (.at fr)) c (.sh (tM f))) A=uT (aj (iL (cM BR (cM oD (.ok (bf 5 (A.set ks.length (.aI (fD ks fun m=>.int (if m=f then w f - 1 else w m)))) (.at ks.length))) (.ok (tM f))) (Rs.ok (Tr.int 0)))) (A.set ks.length (.aI (fD ks fun m=>.int (if m=f then w f - 1 else w m))))) (fun A=>l4 (Kv pW (aj (Rs.ok (.at fr)) A) fun A=>bH (aj (.ok (tM f)) A) fun A=>Rz.ok [] A) (rW T K ks lv h (.sh (.at fr)) c (.sh (tM f)))) fun A=>Rz.ok (Out.nx (rW T K ks lv h (.sh (.at fr)) c (.sh (tM f)))) A:=by
  unfold bE;rw[e1]
  rfl
 rw[key,tU S1.y.w];show∃A',uT (aj (iL (cM BR (oD (.aI (fD ks fun m=>.int (if m=f then w f - 1 else w m))) (tM f)) (Rs.ok (Tr.int 0)))) _) _ _=_/\_;rw[jS hf,ab rfl];show∃A',uT (aj (iL (BR (.int (w f - 1)) (Tr.int 0))) _) _ _=_/\_;rw[WC];by_cases z:w f - 1=0
 ·have e0:(CG (w,fs) f)=(fun x=>if x=f then w f - 1 else w x,fs++[f]):=by unfold CG;simp only[z,f_]
  rw[e0];refine⟨_,?_,S1.Vf (fs++[f])⟩;have b0:((w f - 1:Int)==0)=true:=by rw[z];rfl
  rw[b0];show l4 (if Ha _ fr=true then pW fr [tM f] _ else .bad) _=_;have r1:=S1.r;have i1:Ha (A.set ks.length (.aI (fD ks fun m=>.int (if m=f then w f - 1 else w m)))) fr=true:=by unfold Ha;rw[r1]
  have a1:pW fr [tM f] (A.set ks.length (.aI (fD ks fun m=>.int (if m=f then w f - 1 else w m))))=.ok .dv ((A.set ks.length (.aI (fD ks fun m=>.int (if m=f then w f - 1 else w m)))).set fr (.lst ((fs++[f]).map tM))):=by
   unfold pW;simp only[r1];rw[ab (by rw[ak];unfold ik;omega),dZ]
   rfl
  rw[ab i1,a1]
  rfl
 ·have e0:(CG (w,fs) f)=(fun x=>if x=f then w f - 1 else w x,fs):=by unfold CG;simp only[z,bB]
  rw[e0];refine⟨_,?_,S1⟩;have b0:((w f - 1:Int)==0)=false:=by simp[z]
  rw[b0]
  rfl
theorem Bf(kl:ks.length<=1000){T K:Tr}{h:Int}{c:Cell}{b:Mk}(hb:b∈ks):∀(rem pre:List Mk) (n:Nat) (d:Cell) (A:Ab) (w:Mk->Int) (fs:List Mk),oq bh ks b=pre++rem->rem.length<n->fs.length+rem.length<=1000->Sx ks bh H A w hs lv ls fr fs->
  ∃A' d',gg (gN 9) bE (ks.idxOf b) n pre.length (rW T K ks lv h (.sh (.at fr)) c d) A=.ok (.nx (rW T K ks lv h (.sh (.at fr)) c d')) A'/\Sx ks bh H A' (qH rem (w,fs)).1 hs lv ls fr (qH rem (w,fs)).2
 |[],pre,n+1,d,A,w,fs,e,hn,hl,S=>⟨A,d,WB (S.y.f b hb) (by rw[e];simp),S⟩
 |f::rem,pre,n+1,d,A,w,fs,e,hn,hl,S=>by
  have hf:f∈ks:=(cC.mp (show f∈oq bh ks b by rw[e];simp)).1;rw[bb]at hl hn;obtain⟨A1,e1,S1⟩:=Qs S kl (T:=T) (K:=K) (h:=h) (c:=c) hf (by omega);obtain⟨A2,d2,e2,S2⟩:=Bf kl (T:=T) (K:=K) (h:=h) (c:=c) hb rem (pre++[f]) n (.sh (tM f)) A1 _ _ (by rw[e];simp) (by omega) (by have:=Bc (w,fs) f;simp only at this;omega) S1;refine⟨A2,d2,?_,by rw[ou];exact S2⟩;rw[WA (S.y.f b hb) (t:=tM f) (by rw[e];simp) (ρ2:=rW T K ks lv h (.sh (.at fr)) c (.sh (tM f))) e1];rw[aY,bb,dX]at e2;exact e2
 |[],_,0,_,_,_,_,_,hn,_,_=>by omega
 |_::_,_,0,_,_,_,_,_,hn,_,_=>by omega
end
end ir
namespace ir
open PySem L2
section
variable {ks:List Mk}{bh:Mk->List Mk}{H:Mk->Nat}{A:Ab}{w:Mk->Int}{hs ls fs:List Mk}{lv fr:Nat}
theorem Bg(b:Mk):(oq bh ks b).length<=ks.length:=lC _ _
theorem Qt(kl:ks.length<=20)(S:Sx ks bh H A w hs lv ls fr fs){T K:Tr}{h:Int}{d:Cell}{m:Mk}(hm:m∈ks)(hh:(H m:Int)=h)(hn:m∉hs)(VF:hs.length<=1000)(hl:fs.length+(oq bh ks m).length<=1000):
  ∃A' d',bL (rW T K ks lv h (.sh (.at fr)) (.sh (tM m)) d) A=.ok (.nx (rW T K ks lv h (.sh (.at fr)) (.sh (tM m)) d')) A'/\Sx ks bh H A' (qH (oq bh ks m) (w,fs)).1 (hs++[m]) lv ls fr (qH (oq bh ks m) (w,fs)).2:=by
 have S1:=S.Ve (hs++[m]);have g2:jx A (.at (ks.length+1)) (tM m) (.int h)=some (A.set (ks.length+1) (.aI (fD (hs++[m]) (tH H)))):=by
  show(match A[ks.length+1]? with
   |some (.aI aA)=>if aA.length<ik then some (A.set (ks.length+1) (.aI (jw aA (kM m) (.int h))))else none
   |_=>none)=_
  rw[S.y.h];show(if(fD hs (tH H)).length<ik then some (A.set (ks.length+1) (.aI (jw (fD hs (tH H)) (kM m) (.int h))))else none)=_;rw[ab (by unfold fD ik;rw[ak];omega),tK hn (by unfold tH;rw[hh])]
 obtain⟨A2,d2,e2,S2⟩:=Bf (by omega) (T:=T) (K:=K) (h:=h) (c:=.sh (tM m)) hm (oq bh ks m) [] 100 d _ _ _ rfl (by have:=Bg (ks:=ks) (bh:=bh) m;omega) hl S1;refine⟨A2,d2,?_,S2⟩;show bu (match jx A (.at (ks.length+1)) (tM m) (.int h)with
  |some A'=>Rz.ok (Out.nx (rW T K ks lv h (.sh (.at fr)) (.sh (tM m)) d)) A'
  |none=>Rz.bad) (fun ρ A=>loopAt (gN 9) bE 100 (aj (cM oD (ar ρ 2) (ar ρ 8)) A) ρ)=_
 rw[g2];show loopAt (gN 9) bE 100 (aj (oD (.aI (fD ks (tI ks))) (tM m)) _) _=_;rw[jS hm];show(match(A.set (ks.length+1) (.aI (fD (hs++[m]) (tH H))))[ks.idxOf m]? with
   |some (.lst ts)=>gg (gN 9) bE (ks.idxOf m) 100 0 (rW T K ks lv h (.sh (.at fr)) (.sh (tM m)) d) (A.set (ks.length+1) (.aI (fD (hs++[m]) (tH H))))
   |_=>Rz.bad)=_
 rw[S1.y.f m hm];exact e2
theorem Bh(kl:ks.length<=20){T K:Tr}{h:Int}:∀(rem pre:List Mk) (n:Nat) (c d:Cell) (A:Ab) (w:Mk->Int) (hs fs:List Mk),ls=pre++rem->rem.length<n->(∀m∈rem,m∈ks/\(H m:Int)=h/\m∉hs)->rem.Nodup->hs.length+rem.length<=500->fs.length+rem.length*20<=1000->Sx ks bh H A w hs lv ls fr fs->
  ∃A' c' d',gg (gN 8) bL lv n pre.length (rW T K ks lv h (.sh (.at fr)) c d) A=.ok (.nx (rW T K ks lv h (.sh (.at fr)) c' d')) A'/\Sx ks bh H A' (qH (rem.flatMap (oq bh ks)) (w,fs)).1 (hs++rem) lv ls fr (qH (rem.flatMap (oq bh ks)) (w,fs)).2
 |[],pre,n+1,c,d,A,w,hs,fs,e,hn,hm,nd,h1,h2,S=>⟨A,c,d,WB S.y.l (by rw[e];simp),by rw[dq];exact S⟩
 |m::rem,pre,n+1,c,d,A,w,hs,fs,e,hn,hm,nd,h1,h2,S=>by
  rw[bb]at h1 h2 hn;rw[dW]at nd;obtain⟨m1,m2,m3⟩:=hm m (aP ..);have fl:=Bg (ks:=ks) (bh:=bh) m;obtain⟨A1,d1,e1,S1⟩:=Qt kl S (T:=T) (K:=K) (h:=h) (d:=d) m1 m2 m3 (by omega) (by omega);obtain⟨A2,c2,d2,e2,S2⟩:=Bh kl (T:=T) (K:=K) (h:=h) rem (pre++[m]) n (.sh (tM m)) d1 A1 _ _ _ (by rw[e];simp) (by omega) (fun x hx=>by
   obtain⟨a,b,c⟩:=hm x (aO _ hx);refine⟨a,b,fun q=>?_⟩;rcases bF.mp q with q|q
   ·exact c q
   ·rw[cn]at q;exact nd.1 (q▸hx)) nd.2 (by rw[aY,bb,dX];omega) (by have:=Bd (oq bh ks m) (w,fs);simp only at this;omega) S1
  refine⟨A2,c2,d2,?_,?_⟩
  ·rw[WA S.y.l (t:=tM m) (by rw[e];simp) (ρ2:=rW T K ks lv h (.sh (.at fr)) (.sh (tM m)) d1) e1];rw[aY,bb,dX]at e2;exact e2
  ·rw[List.flatMap_cons,HJ];rw[gE]at S2;exact S2
 |[],_,0,_,_,_,_,_,_,_,hn,_,_,_,_,_=>by omega
 |_::_,_,0,_,_,_,_,_,_,_,hn,_,_,_,_,_=>by omega
theorem Sy.new (S:Sy ks bh H A w hs lv ls):Sx ks bh H (A++[Ao.lst []]) w hs lv ls A.length []:=by
 have l1:=a6 S.w;have l2:=a6 S.h;have l3:=a6 S.l;refine⟨⟨fun m hm=>?_,?_,?_,?_,S.hl⟩,?_,l3⟩
 ·rw[b8 (by have:=tR hm;omega)];exact S.f m hm
 ·rw[b8 l1];exact S.w
 ·rw[b8 l2];exact S.h
 ·rw[b8 l3];exact S.l
 ·rw[dH (aq _),eU];rfl
theorem Qu(S:Sy ks bh H A w hs lv ls){T K:Tr}{h:Int}{b c d:Cell}:cW (rW T K ks lv h b c d) A=.ok (decide (0<ls.length)) A:=by
 show aj (iL (cM ME (ba pL (aF (.ok (bf 5 A (.at lv))) (Rs.ok []))) (Rs.ok (Tr.int 0)))) A=_;rw[Fh S.l];show Rz.ok (decide ((0:Int)<((ls.map tM).length:Int))) A=_;rw[ak];congr 1;exact decide_eq_decide.mpr (by omega)
theorem Qv(K0:wo ks bh H){h:Nat}(L:Lv ks bh H h hs ls w)(S:Sy ks bh H A w hs lv ls){T K:Tr}{b c d:Cell}:
  ∃A' MR b' c' d',bW (rW T K ks lv h b c d) A=.ok (.nx (rW T K ks MR ((h+1:Nat):Int) b' c' d')) A'/\Sy ks bh H A' (qH (ls.flatMap (oq bh ks)) (w,[])).1 (hs++ls) MR (qH (ls.flatMap (oq bh ks)) (w,[])).2:=by
 have Sn:=S.new;have hl:ls.length<=20:=aZ (qN L.MQ fun m hm=>((L.wt m).mp hm).1) K0.len;have ZJ:hs.length<=20:=aZ (qN L.nd fun m hm=>((L.mem m).mp hm).1) K0.len;obtain⟨A1,c1,d1,e1,S1⟩:=Bh K0.len (T:=T) (K:=K) (h:=(h:Int)) ls [] 100 c d _ w hs [] rfl (by omega) (fun m hm=>by
  have:=(L.wt m).mp hm;exact⟨this.1,by omega,fun q=>by have:=((L.mem m).mp q).2;omega⟩) L.MQ (by omega) (by rw[dX];omega) Sn
 refine⟨A1,A.length,.sh (.at A.length),c1,d1,?_,?_⟩
 ·show bu (loopAt (gN 8) bL 100 (.ok (.at lv) (A++[Ao.lst []])) (rW T K ks lv h (.sh (.at A.length)) c d)) _=_;have:loopAt (gN 8) bL 100 (.ok (.at lv) (A++[Ao.lst []])) (rW T K ks lv h (.sh (.at A.length)) c d)=gg (gN 8) bL lv 100 0 (rW T K ks lv h (.sh (.at A.length)) c d) (A++[Ao.lst []]):=by
   show(match(A++[Ao.lst []])[lv]? with
    |some (.lst ts)=>gg (gN 8) bL lv 100 0 (rW T K ks lv h (.sh (.at A.length)) c d) (A++[Ao.lst []])
    |_=>Rz.bad)=_
   rw[Sn.y.l]
  rw[this,show(0:Nat)=([]:List Mk).length from rfl,e1]
  rfl
 ·exact⟨S1.y.f,S1.y.w,S1.y.h,S1.r,by have:=Sn.hr;have:=S.hl;omega⟩
theorem Jb(K0:wo ks bh H){T K:Tr}:∀(k n h lv:Nat) (A:Ab) (w:Mk->Int) (hs ls:List Mk) (b c d:Cell),k<n->(∀m∈ks,H m<h+k)->Lv ks bh H h hs ls w->Sy ks bh H A w hs lv ls->
  ∃A' MR h' HK b' c' d',iN cW bW n (rW T K ks lv (h:Int) b c d) A=.ok (.nx (rW T K ks MR h' b' c' d')) A'/\A'[ks.length+1]?=some (.aI (fD HK (tH H)))/\HK.Perm ks
 |k,0,h,lv,A,w,hs,ls,b,c,d,hk,_,_,_=>by omega
 |k,n+1,h,lv,A,w,hs,ls,b,c,d,hk,ht,L,S=>by
  rw[iN,Qu S]
  match ls,L,S with
  |[],L,S=>
   refine⟨A,lv,h,hs,b,c,d,rfl,S.h,(mI L.nd K0.nd).mpr fun m=>?_⟩;rw[L.mem m];exact⟨fun q=>q.1,fun q=>⟨q,L.last K0 m q⟩⟩
  |m::ls,L,S=>
   have hm:=(L.wt m).mp (aP ..);have:=ht m hm.1;obtain⟨A1,Y3,b1,c1,d1,e1,S1⟩:=Qv K0 L S (T:=T) (K:=K) (b:=b) (c:=c) (d:=d)
   match k,hk,ht with
   |0,_,ht=>exact absurd (ht m hm.1) (by omega)
   |k+1,hk,ht=>
    obtain⟨A2,r⟩:=Jb K0 (T:=T) (K:=K) k n (h+1) Y3 A1 _ _ _ b1 c1 d1 (by omega) (fun x hx=>by have:=ht x hx;omega) (L.next K0) S1;refine⟨A2,?_⟩;show∃MR h' HK b' c' d',(bW (rW T K ks lv h b c d) A).bind _=_/\_;rw[e1];exact r
theorem RR{P:Mk->Bool}{f:Mk->Tr}{Q:av->Rs Bool}{F:av->Rs Tr}{xs:List Cell}:∀(ms:List Mk) (c:Cell),(∀m∈ms,Q (.sh (tM m)::xs)=.ok (P m))->(∀m∈ms,P m=true->F (.sh (tM m)::xs)=.ok (f m))->lH (gN 0) Q F (ms.map tM) (c::xs)=.ok ((ms.filter P).map f)
 |[],c,_,_=>rfl
 |m::ms,c,hQ,hF=>by
  have ih:=RR (P:=P) (f:=f) (Q:=Q) (F:=F) (xs:=xs) ms (.sh (tM m)) (fun x hx=>hQ x (aO _ hx)) (fun x hx=>hF x (aO _ hx));rw[aC,lH];show(DK (Q (.sh (tM m)::xs))).bind _=_;rw[hQ m (aP ..)];cases p:P m with
  |true=>
   show(DK (F (.sh (tM m)::xs))).bind _=_;rw[hF m (aP ..) p];show(lH (gN 0) Q F (ms.map tM) (.sh (tM m)::xs)).bind _=_;rw[ih,dJ,p]
   rfl
  |false=>
   show lH (gN 0) Q F (ms.map tM) (.sh (tM m)::xs)=_;rw[ih,dJ,p]
   rfl
def w0(ks:List Mk)(bh:Mk->List Mk)(m:Mk):Int:=((bh m).filter fun b=>decide (b∈ks)).length
theorem mB{ix:List (Option Nat)}{Q:av->Rs Bool}{F:av->Rs Tr}{ms:List Mk}{ρ:av}(h:ms.length<=1000):ij ix (gN 0) Q F (.ok (ms.map tM)) ρ=(lH (gN 0) Q F (ms.map tM) (h_ ix ρ)).bind fun ys=>.ok (.lst ys):=by
 show(if(ms.map tM).length<=ik then(lH (gN 0) Q F (ms.map tM) (h_ ix ρ)).bind fun ys=>Rs.ok (Tr.lst ys)else .bad)=_;rw[ab (by rw[ak];unfold ik;omega)]
theorem LL(K0:wo ks bh H){T:Tr}{FO c3 c4 c5 c6 c7 c8 c9:Cell}:RP A [.sh T,.sh (.aI (fD ks (tB bh))),FO,c3,c4,c5,c6,c7,c8,c9]=.ok (.lst (ks.map fun m=>.tup [tM m,.int (w0 ks bh m)])):=by
 have kl:=K0.len;unfold RP;show ij [none,some 1] (gN 0) _ _ (p7 (.ok (.aI (fD ks (tB bh))))) _=_;rw[qK,mB (by omega)];show(lH (gN 0) _ _ (ks.map tM) [.no,.sh (.aI (fD ks (tB bh)))]).bind _=_;rw[RR (P:=fun _=>true) (f:=fun m=>.tup [tM m,.int (w0 ks bh m)]) ks .no (fun _ _=>rfl) fun m hm _=>?_]
 ·rw[List.filter_eq_self.mpr (fun _ _=>rfl)];rfl
 ·show jk (aF (.ok (tM m)) (aF (ba pL (aF (ij [none,some 1] (gN 0) _ _ (il (oD (.aI (fD ks (tB bh))) (tM m))) _) (Rs.ok []))) (Rs.ok [])))=_;rw[jS hm];have bl:=K0.wq m hm;have e:ij [none,some 1] (gN 0) (fun ρ=>iL (cM CT (ar ρ 0) (ar ρ 1))) (fun ρ=>ar ρ 0) (il (.ok (tB bh m))) [.sh (tM m),.sh (.aI (fD ks (tB bh)))]=.ok (.lst (((bh m).filter fun b=>decide (b∈ks)).map tM)):=by
   show ij [none,some 1] (gN 0) (fun ρ=>iL (cM CT (ar ρ 0) (ar ρ 1))) (fun ρ=>ar ρ 0) (.ok ((bh m).map tM)) _=_;rw[mB (by omega)];show(lH (gN 0) _ _ ((bh m).map tM) [.no,.sh (.aI (fD ks (tB bh)))]).bind _=_;rw[RR (P:=fun b=>decide (b∈ks)) (f:=tM) (bh m) .no (fun b _=>by
    show iL (CT (tM b) (.aI (fD ks (tB bh))))=_;rw[wm];rfl) (fun _ _ _=>rfl)]
   rfl
  rw[e];show Rs.ok (Tr.tup [tM m,.int ((((bh m).filter fun b=>decide (b∈ks)).map tM).length:Int)])=_;rw[ak]
  rfl
theorem yB:∀(us:List Mk) (g:Mk->Int),gJ ((fD us fun m=>.int (g m)).map (·.2))=true
 |[],_=>rfl
 |u::us,g=>by
  show(true&&gJ ((fD us fun m=>.int (g m)).map (·.2)))=true;rw[yB us g];rfl
theorem LM(K0:wo ks bh H){T:Tr}{FO c4 c5 c6 c7 c8 c9:Cell}{i:Nat}(e:A[i]?=some (.aI (fD ks fun m=>.int (w m)))):RQ A [.sh T,.sh (.aI (fD ks (tB bh))),FO,.sh (.at i),c4,c5,c6,c7,c8,c9]=.ok (.lst ((ks.filter fun m=>w m==0).map tM)):=by
 have kl:=K0.len;unfold RQ;show ij [none,some 3] (gN 0) _ _ (p7 (.ok (.aI (fD ks (tB bh))))) _=_;rw[qK,mB (by omega)];show(lH (gN 0) _ _ (ks.map tM) [.no,.sh (bf 5 A (.at i))]).bind _=_;rw[tU e];rw[RR (P:=fun m=>w m==0) (f:=tM) ks .no (fun m hm=>by
  show iL (cM BR (oD (.aI (fD ks fun m=>.int (w m))) (tM m)) (Rs.ok (Tr.int 0)))=_;rw[jS hm];show iL (BR (.int (w m)) (Tr.int 0))=_;rw[WC];rfl) (fun _ _ _=>rfl)]
 rfl
theorem dB{i:Nat}{t:Tr}{A:Ab}{ρ:av}{G:av->Ab->Rz Out}:bu (cK i (.ok t A) ρ) G=G (ρ.set i (.sh t)) A:=rfl
def aM(ks:List Mk)(bh:Mk->List Mk):Tr:=.tup (ks.map fun m=>.tup [tM m,tB bh m])
theorem oy:∀ms:List Mk,dh (ms.map tM)=true
 |[]=>rfl
 |m::ms=>by rw[aC,dh,oy ms];rfl
theorem qL(bh:Mk->List Mk):∀ms:List Mk,dh (ms.map fun m=>.tup [tM m,tB bh m])=true
 |[]=>rfl
 |m::ms=>by
  rw[aC,dh,qL bh ms];show((true&&(dh ((bh m).map tM)&&true))&&true)=true;rw[oy];rfl
theorem vg:∀(us:List Mk) (g:Mk->Int),uP (fD us fun m=>.int (g m))=true
 |[],_=>rfl
 |u::us,g=>by
  show(true&&uP (fD us fun m=>.int (g m)))=true;rw[vg us g];rfl
theorem CJ(K0:wo ks bh H):∃hs:List Mk,gQ [aM ks bh]=.ok (.aI (fD hs (tH H)))/\hs.Perm ks:=by
 have kl:=K0.len;obtain⟨A0,e0,h0⟩:=yz K0.nd (by omega) K0.LK
 let A1:Ab:=A0++[.aI (fD ks fun m=>.int (w0 ks bh m))]
 let A2:Ab:=A1++[.aI []]
 let A3:Ab:=A2++[.lst ((ks.filter fun m=>w0 ks bh m==0).map tM)]
 have n0:A0.length=ks.length:=h0.1;have n1:A1.length=ks.length+1:=by show(A0++[_]).length=_;rw[aY,n0];rfl
 have n2:A2.length=ks.length+2:=by show(A1++[_]).length=_;rw[aY,n1];rfl
 have q1:A1[ks.length]?=some (.aI (fD ks fun m=>.int (w0 ks bh m))):=by
  show(A0++[_])[ks.length]?=_
  rw[dH (by omega),n0,eU];rfl
 have q2:A2[ks.length]?=some (.aI (fD ks fun m=>.int (w0 ks bh m))):=by
  show(A1++[_])[ks.length]?=_
  rw[b8 (by omega)];exact q1
 have Y4:Sy ks bh H A3 (w0 ks bh) [] (ks.length+2) (ks.filter fun m=>w0 ks bh m==0):=by
  refine⟨fun m hm=>?_,?_,?_,?_,by omega⟩
  ·have:=tR hm;show((A1++[_])++[_])[ks.idxOf m]?=_
   rw[b8 (by rw[aY,n1];omega),b8 (by omega)];show(A0++[_])[ks.idxOf m]?=_
   rw[b8 (by omega)];exact h0.2 m hm
  ·show(A2++[_])[ks.length]?=_
   rw[b8 (by omega)];exact q2
  ·show(A2++[_])[ks.length+1]?=_
   rw[b8 (by omega)];show(A1++[_])[ks.length+1]?=_
   rw[dH (by omega),n1,eU];rfl
  ·show(A2++[_])[ks.length+2]?=_
   rw[dH (by omega),n2,eU];rfl
 obtain⟨A',MR,h',HK,b',c',d',ew,q,hp⟩:=Jb K0 (T:=aM ks bh) (K:=.aI (fD ks (tB bh))) 50 100 1 _ A3 _ _ _ .no .no .no (by omega) (fun m hm=>by have:=K0.top m hm;omega) (Lv.start K0 (w0 ks bh) fun _ _=>rfl) Y4;refine⟨HK,?_,hp⟩;have key:gQ [aM ks bh]=fc (gH [.sh (aM ks bh),.no,.no,.no,.no,.no,.no,.no,.no,.no] []):=by
  show(if _/\_ then fc (gP.1 _ _)else Rs.bad)=_;rw[ab ⟨rfl,by show(dh _&&true)=true;rw[qL];rfl⟩,Qr]
  rfl
 rw[key];unfold gH;have d1:ba cP (aF (ar [.sh (aM ks bh),.no,.no,.no,.no,.no,.no,.no,.no,.no] 0) (Rs.ok []))=.ok (.aI (fD ks (tB bh))):=oo (tB bh) K0.nd (by omega);rw[d1];show fc (bu (cK 2 (fG [.aI (fD ks (tB bh))] []) [.sh (aM ks bh),.sh (.aI (fD ks (tB bh))),.no,.no,.no,.no,.no,.no,.no,.no]) _)=_;rw[e0];show fc (bu (cK 3 (gr (ba cP (aF (RP A0 [.sh (aM ks bh),.sh (.aI (fD ks (tB bh))),.sh (.aI (fD ks (tI ks))),.no,.no,.no,.no,.no,.no,.no]) (Rs.ok []))) A0) [.sh (aM ks bh),.sh (.aI (fD ks (tB bh))),.sh (.aI (fD ks (tI ks))),.no,.no,.no,.no,.no,.no,.no]) _)=_;rw[LL K0];have d2:ba cP (aF (.ok (.lst (ks.map fun m=>.tup [tM m,.int (w0 ks bh m)]))) (Rs.ok []))=.ok (.aI (fD ks fun m=>.int (w0 ks bh m))):=tN (fun m=>.int (w0 ks bh m)) K0.nd (by omega);rw[d2];have d3:gr (.ok (.aI (fD ks fun m=>.int (w0 ks bh m)))) A0=.ok (.at ks.length) A1:=by
  show(if gJ ((fD ks fun m=>.int (w0 ks bh m)).map (·.2))=true then Rz.ok (Tr.at A0.length) A1 else .bad)=_;rw[ab (yB _ _),n0]
 rw[d3];rw[dB];have d5:gr (Rs.ok (Tr.aI [])) A1=.ok (.at (ks.length+1)) A2:=by
  show Rz.ok (Tr.at A1.length) A2=_;rw[n1]
 rw[d5,dB];show fc (bu (cK 5 (gr (RQ A2 [.sh (aM ks bh),.sh (.aI (fD ks (tB bh))),.sh (.aI (fD ks (tI ks))),.sh (.at ks.length),.sh (.at (ks.length+1)),.no,.no,.no,.no,.no]) A2) [.sh (aM ks bh),.sh (.aI (fD ks (tB bh))),.sh (.aI (fD ks (tI ks))),.sh (.at ks.length),.sh (.at (ks.length+1)),.no,.no,.no,.no,.no]) _)=_;rw[LM K0 q2];have d4:gr (.ok (.lst ((ks.filter fun m=>w0 ks bh m==0).map tM))) A2=.ok (.at (ks.length+2)) A3:=by
  show(if gJ ((ks.filter fun m=>w0 ks bh m==0).map tM)=true then Rz.ok (Tr.at A2.length) A3 else .bad)=_;rw[ab (fT _),n2]
 rw[d4];show fc (bu (iN cW bW 100 (rW (aM ks bh) (.aI (fD ks (tB bh))) ks (ks.length+2) 1 .no .no .no) A3) _)=_;rw[show(1:Int)=((1:Nat):Int)from rfl,ew];show(if iM (bf 3 A' (.at (ks.length+1)))=true then Rs.ok (bf 3 A' (.at (ks.length+1)))else Rs.bad)=_;rw[tU (g:=fun m=>(H m:Int)) q];have nz:iM (Tr.aI (fD HK fun m=>Tr.int (H m:Int)))=true:=by rw[iM];exact vg _ _
 rw[ab nz]
 rfl
end
end ir
namespace ir
open PySem L2
section
variable {ks:List Mk}{bh:Mk->List Mk}{H:Mk->Nat}
def tP(H:Mk->Nat)(m:Mk):Tr:=.tup [.int (H m),tM m]
theorem lr(m:Mk):dQ (tP H m)=[(H m:Int),m.1,m.2]:=rfl
theorem zQ{a b:Mk}(e:dQ (tP H a)=dQ (tP H b)):a=b:=by
 rw[lr,lr]at e;injection e with _ e
 injection e with e1 e
 injection e with e2 _
 exact kD e1 e2
def wu(H:Mk->Nat)(a b:Mk):Bool:=lN (dQ (tP H a)) (dQ (tP H b))
def ag(H:Mk->Nat)(ks:List Mk):List Mk:=ks.mergeSort (wu H)
theorem o_{l l':List Mk}(h:l.Perm l'):ag H l=ag H l':=by
 unfold ag;refine jC (le:=fun a b=>wu H a b=true) (fun a b _ _ h1 h2=>zQ (gi h1 h2)) ?_ ?_ (((cA l _).trans h).trans (cA l' _).symm)
 ·exact iu (le:=wu H) (fun a b c h1 h2=>fh h1 h2) (fun a b=>fi _ _) _
 ·exact iu (le:=wu H) (fun a b c h1 h2=>fh h1 h2) (fun a b=>fi _ _) _
theorem HL(ms:List Mk):dR (ms.map (tP H))=(ag H ms).map (tP H):=by
 unfold dR ag;exact(rj (r:=wu H) (s:=fun a b=>lN (dQ a) (dQ b)) (f:=tP H) fun a _ b _=>rfl).symm
theorem LN{ms:List Mk}(nd:ms.Nodup)(hl:ms.length<=20):t_ (ms.map (tP H))=true/\((ms.map (tP H)).all fun t=>(dQ t).length==3)=true:=by
 have a3:((ms.map (tP H)).all fun t=>(dQ t).length==3)=true:=by
  rw[bA];intro t ht;obtain⟨m,_,rfl⟩:=bp.mp ht
  rfl
 refine⟨?_,a3⟩;unfold t_;have a1:((ms.map (tP H)).all fun t=>(FR t).isSome)=true:=by
  rw[bA];intro t ht;obtain⟨m,_,rfl⟩:=bp.mp ht
  rfl
 have a2:((ms.map (tP H)).map dQ).Nodup:=by
  rw[bG];unfold List.Nodup at nd⊢;rw[j8];exact nd.imp fun{a b} h e=>h (zQ e)
 rw[a1,a3,bj a2,bj (by rw[ak];omega),Bool.or_true]
 rfl
def TB:Ab:=[Ao.tb "order" "order.<locals>.<lambda>"]
theorem tV(ms:List Mk):(ag H ms).length=ms.length:=(cA ms _).length_eq
theorem wx(K0:wo ks bh H){A:Ab}(hA:A[0]?=some (Ao.tb "order" "order.<locals>.<lambda>")):iH [aM ks bh] A=.ok (.tup ((ag H ks).map tM)) A:=by
 obtain⟨hs,e,p⟩:=CJ K0;have e1:lp "order" "order.<locals>.<lambda>" (.ok (.aI (fD hs (tH H)))) A=.ok (.lst ((ag H ks).map tM)) A:=by
  have hi:ig (fD hs (tH H))=hs.map (tP H):=by
   unfold ig fD;rw[bG]
   rfl
  obtain⟨o1,o2⟩:=LN (H:=H) (p.nodup_iff.mpr K0.nd) (by rw[p.length_eq];exact K0.len);unfold lp;rw[hA];show aj (if t_ (ig (fD hs (tH H)))=true/\((ig (fD hs (tH H))).all fun t=>(dQ t).length==3)=true then Rs.ok (Tr.lst ((dR (ig (fD hs (tH H)))).map ES))else .bad) A=_;rw[hi,ab ⟨o1,o2⟩,HL,o_ p,bG]
  rfl
 show dD (we.1 [.sh (aM ks bh),.no] A)=_;show dD (bu (cK 1 (aj (gQ [aM ks bh]) A) [.sh (aM ks bh),.no]) fun ρ A=>gs (pK cX (bH (lp "order" "order.<locals>.<lambda>" (ar ρ 1) A) fun A=>Rz.ok [] A)))=_;rw[e];show dD (gs (pK cX (bH (lp "order" "order.<locals>.<lambda>" (.ok (.aI (fD hs (tH H)))) A) fun A=>Rz.ok [] A)))=_;rw[e1];show dD (gs (if pG (.tup ((ag H ks).map tM))=true then Rz.ok (.tup ((ag H ks).map tM)) A else .bad))=_;have:pG (.tup ((ag H ks).map tM))=true:=by rw[pG];exact fT _
 rw[ab this]
 rfl
end
end ir
namespace ir
open PySem L2
def mix(c p m:Int):Int:=(c*48271 % p)*(c*48271 % p+7) % p % m
theorem zR{c p m:Int}(hm:0<m):0<=mix c p m/\mix c p m<m:=⟨rN _ (by omega),rh _ hm⟩
theorem LO{i j:Int}(h:pC i j):ui (.int i) (.int j)=.ok (.int (i*j)):=ab h
theorem Fj(c p m:Int)(hp:0<p)(Dt:p<=1048576)(hm:0<m):iI [.int c,.int p,.int m]=.ok (.int (mix c p m)):=by
 have b0:0<=c*48271 % p:=rN _ (by omega);have b1:c*48271 % p<p:=rh _ hp;show sE (GC (Ka 3 (cM nG (ui (.int c) (.int 48271)) (.ok (.int p))) [.sh (.int c),.sh (.int p),.sh (.int m),.no]) fun ρ=>BO (cM nG (cM nG (cM ui (ar ρ 3) (cM xy (ar ρ 3) (Rs.ok (.int 7)))) (ar ρ 1)) (ar ρ 2)))=_;have q1:ui (.int c) (.int 48271)=.ok (.int (c*48271)):=ab (.inr ⟨by decide,by decide⟩);rw[q1];have q2:cM nG (.ok (.int (c*48271))) (.ok (.int p))=.ok (.int (c*48271 % p)):=ab hp;rw[q2];show sE (BO (cM nG (cM nG (ui (.int (c*48271 % p)) (.int (c*48271 % p+7))) (.ok (.int p))) (.ok (.int m))))=_;have q3:ui (.int (c*48271 % p)) (.int (c*48271 % p+7))=.ok (.int ((c*48271 % p)*(c*48271 % p+7))):=ab (.inl ⟨by omega,by omega⟩);rw[q3];have q4:cM nG (.ok (.int ((c*48271 % p)*(c*48271 % p+7)))) (.ok (.int p))=.ok (.int ((c*48271 % p)*(c*48271 % p+7) % p)):=ab hp;rw[q4];have q5:cM nG (.ok (.int ((c*48271 % p)*(c*48271 % p+7) % p))) (.ok (.int m))=.ok (.int (mix c p m)):=ab hm;rw[q5]
 rfl
theorem LP(ns:List Int)(k:Int)(h:0<=k):∃c,og [.jz ns,.int k]=.ok (.int c):=by
 show∃c,sE (GC (Tc (.ok (decide (k<(ns.length:Int)))) (BO ((BU (L2.t7 ns k)).bind fun n=>.ok (.int n))) (.ok (.nx [.sh (.jz ns),.sh (.int k)]))) fun ρ=>BO (Rs.ok (.int 0)))=_;by_cases hk:k<(ns.length:Int)
 ·have hl:k.toNat<ns.length:=by omega
  have e:L2.t7 ns k=some (ns[k.toNat]):=by
   have q:=Gg (xs:=ns) (j:=k.toNat) (ay hl);rw[Int.toNat_of_nonneg h]at q;exact q
  rw[bj hk,e];exact⟨_,rfl⟩
 ·rw[aX hk];exact⟨0,rfl⟩
def tW(a b:Mk):Bool:=lN (dQ (tM a)) (dQ (tM b))
theorem wy{a b:Mk}(e:dQ (tM a)=dQ (tM b)):a=b:=by
 have e:[a.1,a.2]=[b.1,b.2]:=e;injection e with e1 e
 injection e with e2 _
 exact kD e1 e2
theorem Bi(ms:List Mk):dR (ms.map tM)=(ms.mergeSort tW).map tM:=by
 unfold dR;exact(rj (r:=tW) (s:=fun a b=>lN (dQ a) (dQ b)) (f:=tM) fun a _ b _=>rfl).symm
def CV(l:List Nat):Nat:=l.foldr max 0
theorem Fl:∀{l:List Nat} {n:Nat},n∈l->n<=CV l
 |a::l,n,h=>by
  show n<=max a (CV l);rcases a8.mp h with rfl|h
  ·omega
  ·have:=Fl h;omega
theorem Fm:∀(l:List Nat),l=[]\/CV l∈l
 |[]=>.inl rfl
 |a::l=>by
  refine .inr ?_
  show max a (CV l)∈a::l;rcases Fm l with rfl|h
  ·have:max a (CV [])=a:=rO (bK _);rw[this];exact aP ..
  ·by_cases q:CV l<=a
   ·rw[rO q];exact aP ..
   ·rw[Nat.max_eq_right (by omega)];exact aO _ h
theorem LQ(n:Nat):xt 0 n=(List.range' 0 n).map fun(i:Nat)=>Tr.int (i:Int):=by
 unfold xt;rw[List.range_eq_range'];refine fO fun k _=>?_
 rw[Int.zero_add]
theorem oz(ts:List Tr):iM (.tup ts)=dh ts:=by rw[iM]
theorem Bj{n m:Nat}{G:av->Ab->Rz Out}{ts:List Tr}(h1:ts.length=n)(h2:dh ts=true):sH n m G ts=fc (G (startT m ts) []):=ab ⟨h1,h2⟩
end ir
namespace ir
open PySem L2
theorem pf:∀l:List Mk,pU (l.map tM) (l.map tM)=true
 |[]=>rfl
 |m::l=>by
  rw[aC,pU,pf l];show(((m.1==m.1)&&((m.2==m.2)&&true))&&true)=true;simp
theorem oA:∀l:List Mk,ip (l.map tM)=true
 |[]=>rfl
 |m::l=>by rw[aC,ip,oA l];rfl
theorem tX:∀l:List Mk,t9 (l.map tM)<=1
 |[]=>by show 0<=1;decide
 |m::l=>by
  rw[aC,t9];have:=tX l;have e:dT (tM m)=1:=rfl;omega
theorem Fo(l:List Mk):j5 (.tup (l.map tM)) (.tup (l.map tM))=.ok (.bl false):=by
 have p:kR (.tup (l.map tM))=true:=by rw[kR];exact oA l
 have d:dT (.tup (l.map tM))<=40:=by rw[dT];have:=tX l;omega
 have e:eqT (.tup (l.map tM)) (.tup (l.map tM))=true:=by rw[eqT];exact pf l
 unfold j5;rw[ab ⟨p,p,d⟩,e]
 rfl
theorem LR(l:List Mk):j5 (.lst (l.map tM)) (.lst (l.map tM))=.ok (.bl false):=by
 have p:kR (.lst (l.map tM))=true:=by rw[kR];exact oA l
 have d:dT (.lst (l.map tM))<=40:=by rw[dT];have:=tX l;omega
 have e:eqT (.lst (l.map tM)) (.lst (l.map tM))=true:=by rw[eqT];exact pf l
 unfold j5;rw[ab ⟨p,p,d⟩,e]
 rfl
theorem Fp{ms:List Mk}(nd:ms.Nodup)(hl:ms.length<=20):t_ (ms.map tM)=true:=by
 have a3:((ms.map tM).all fun t=>(dQ t).length==2)=true:=by
  rw[bA];intro t ht;obtain⟨m,_,rfl⟩:=bp.mp ht
  rfl
 have a1:((ms.map tM).all fun t=>(FR t).isSome)=true:=by
  rw[bA];intro t ht;obtain⟨m,_,rfl⟩:=bp.mp ht
  rfl
 have a2:((ms.map tM).map dQ).Nodup:=by
  rw[bG];unfold List.Nodup at nd⊢;rw[j8];exact nd.imp fun{a b} h e=>h (wy e)
 unfold t_;rw[a1,a3,bj a2,bj (by rw[ak];omega),ng]
 rfl
theorem HM{ms:List Mk}(nd:ms.Nodup)(hl:ms.length<=20):fA [.tup (ms.map tM)]=.ok (.lst ((ms.mergeSort tW).map tM)):=by
 show(if t_ (ms.map tM)=true then Rs.ok (Tr.lst (dR (ms.map tM)))else .bad)=_;rw[ab (Fp nd hl),Bi]
theorem Bk{ms:List Mk}(nd:ms.Nodup)(hl:ms.length<=20):fA [.lst (ms.map tM)]=.ok (.lst ((ms.mergeSort tW).map tM)):=HM nd hl
theorem Fq{l l':List Mk}(h:l.Perm l'):l.mergeSort tW=l'.mergeSort tW:=by
 refine jC (le:=fun a b=>tW a b=true) (fun a b _ _ h1 h2=>wy (gi h1 h2)) ?_ ?_ (((cA l _).trans h).trans (cA l' _).symm)
 ·exact iu (le:=tW) (fun a b c h1 h2=>fh h1 h2) (fun a b=>fi _ _) _
 ·exact iu (le:=tW) (fun a b c h1 h2=>fh h1 h2) (fun a b=>fi _ _) _
theorem Jc(a b:Mk):pE (tM a) (tM b)=decide (b=a):=by
 show decide ([b.1,b.2]=[a.1,a.2])=_;by_cases q:b=a
 ·subst q;simp
 ·rw[aX q];exact aX fun e=>q (wy (show dQ (tM b)=dQ (tM a)from e))
theorem LU(l:List Mk):A6 (l.map tM)=true:=by
 unfold A6;rw[bA];intro t ht;obtain⟨m,_,rfl⟩:=bp.mp ht
 rfl
theorem vh{b:Mk}{l:List Mk}(h:b∈l):∃j:Nat,yq (l.map tM) (tM b)=.ok (.int j)/\l[j]?=some b:=by
 unfold yq;rw[ab ⟨rfl,LU l⟩];cases e:(l.map tM).findIdx? (pE (tM b))with
 |none=>
  rw[List.findIdx?_eq_none_iff]at e;have:=e (tM b) (bp.mpr ⟨b,h,rfl⟩);rw[Jc]at this;simp at this
 |some j=>
  obtain⟨hj,h1,_⟩:=wO.mp e;refine⟨j,rfl,?_⟩;rw[ak]at hj;rw[gG,Jc]at h1;rw[ay hj,cq h1]
theorem lu{H:Mk->Nat}(ks:List Mk):(ag H ks).Pairwise fun a b=>wu H a b=true:=iu (le:=wu H) (fun a b c h1 h2=>fh h1 h2) (fun a b=>fi _ _) _
theorem Fs{H:Mk->Nat}{ks:List Mk}{b m:Mk}{i j:Nat}(hi:(ag H ks)[i]?=some b)(hj:(ag H ks)[j]?=some m)(h:H b<H m):¬j<i:=fun q=>by
 have li:=a6 hi;have lj:=a6 hj;have e:=qP.mp (lu (H:=H) ks) j i lj li q;rw[ay li]at hi;rw[ay lj]at hj;rw[Option.some.inj hi,Option.some.inj hj]at e;have e:=jO.mp e;rw[lr,lr]at e;exact e (List.Lex.rel (by omega))
end ir
namespace ir
open PySem L2
def gx(l:List Mk)(b:Mk):List Mk:=if b∈l then l else l++[b]
theorem Bl{l:List Mk}(h:l.Nodup)(b:Mk):(gx l b).Nodup:=by
 unfold gx;split
 ·exact h
 ·rename_i q;rw[gV];refine⟨h,by simp,fun a ha c hc e=>?_⟩;rw[cn]at hc;exact q (by rw[<-hc,<-e];exact ha)
theorem yC{l:List Mk}{b x:Mk}:x∈gx l b↔x∈l\/x=b:=by
 unfold gx;split
 ·rename_i q;constructor
  ·exact .inl
  ·rintro (h|rfl)
   ·exact h
   ·exact q
 ·rw[bF,cn]
theorem LV{l:List Mk}{g:Mk->Tr}{b:Mk}{t:Tr}(e:g b=t):jw (fD l g) (kM b) t=fD (gx l b) g:=by
 unfold gx;by_cases q:b∈l
 ·rw[ab q,yx q];have:(fun x=>if x=b then t else g x)=g:=funext fun x=>by
   by_cases z:x=b
   ·rw[ab z,z,e]
   ·rw[ae z]
  rw[this]
 ·rw[ae q,tK q e]
theorem wz{A:Ab}{i:Nat}{l:List Mk}{g:Mk->Tr}{b:Mk}{t:Tr}(h:A[i]?=some (.aI (fD l g)))(hl:l.length<=1000)(e:g b=t):jx A (.at i) (tM b) t=some (A.set i (.aI (fD (gx l b) g))):=by
 show(match A[i]? with
  |some (.aI aA)=>if aA.length<ik then some (A.set i (.aI (jw aA (kM b) t)))else none
  |_=>none)=_
 rw[h];show(if(fD l g).length<ik then some (A.set i (.aI (jw (fD l g) (kM b) t)))else none)=_;rw[ab (by unfold fD ik;rw[ak];omega),LV e]
theorem HN(ks:List Mk)(g:Mk->Tr)(m:Mk):Ef (tM m) (.aI (fD ks g))=.ok (.bl (decide (m∉ks))):=by
 show Rs.ok (Tr.bl (!(iQ (fD ks g) (kM m)).isSome))=_;rw[om];by_cases e:m∈ks
 ·rw[ab e,aX (by simpa using e)];rfl
 ·rw[ae e,bj e];rfl
theorem Ft{us:List Mk}{g:Mk->Tr}(nd:us.Nodup)(hl:us.length<=20):o7 [.aI (fD us g)]=.ok (.lst ((us.mergeSort tW).map tM)):=by
 have hk:zL (fD us g)=us.map tM:=by unfold zL fD;rw[bG];rfl
 have h1:(fD us g).all (fun p=>p.1.all keyOk)=true:=by
  rw[bA];intro p hp;obtain⟨m,_,rfl⟩:=bp.mp hp
  rfl
 show(if(fD us g).all (fun p=>p.1.all keyOk)=true/\t_ (zL (fD us g))=true then Rs.ok (Tr.lst (dR (zL (fD us g))))else .bad)=_;rw[hk,ab ⟨h1,Fp nd hl⟩,Bi]
theorem HP{us:List Mk}{g:Mk->Tr}:vd [.aI (fD us g)]=.ok (.tup (us.map tM)):=by
 have hk:zL (fD us g)=us.map tM:=by unfold zL fD;rw[bG];rfl
 have h1:(fD us g).all (fun p=>p.1.all keyOk)=true:=by
  rw[bA];intro p hp;obtain⟨m,_,rfl⟩:=bp.mp hp
  rfl
 show(if(fD us g).all (fun p=>p.1.all keyOk)=true then Rs.ok (Tr.tup (zL (fD us g)))else .bad)=_;rw[ab h1,hk]
theorem wA{A:Ab}{n:Nat}{us:List Mk}{g:Mk->Bool}(e:A[n]?=some (.aI (fD us fun m=>.bl (g m))))(k:Nat):bf (k+1) A (.at n)=.aI (fD us fun m=>.bl (g m)):=by
 rw[bf];simp only[e];unfold fD;rw[bG];congr 1;refine fO fun m _=>?_
 cases k<;>rfl
end ir
namespace ir
open PySem L2
def Vg:av->Ab->Rz Out:=fun ρ A=>uT (aj (iL (cM Ef (ar ρ 4) (ar ρ 1))) A) (fun A=>uX (aj (Rs.ok (Tr.bl true)) A) (fun A=>aj (ar ρ 2) A) (fun A=>aj (ar ρ 4) A) ρ) fun A=>Rz.ok (Out.nx ρ) A
def RS:av->Ab->Rz Out:=fun ρ A=>gz (gN 4) Vg (aj (il (cM ze (ar ρ 3) (Rs.ok (Tr.int 1)))) A) ρ
def gK:av->Ab->Rz Out:=fun ρ A=>bu (cK 1 (aj (ba cP (aF (ar ρ 0) (Rs.ok []))) A) ρ) fun ρ A=>bu (cK 2 (gr (Rs.ok (Tr.aI [])) A) ρ) fun ρ A=>bu (gz (gN 3) RS (aj (il (ar ρ 0)) A) ρ) fun ρ A=>gs (gq (ba cX (aF (ba o7 (aF (ar (bq A ρ) 2) (Rs.ok []))) (Rs.ok []))) A)
theorem Qw:o9.1=gK:=rfl
def tT(_:Mk):Tr:=.bl true
def FW(ks us bs:List Mk):List Mk:=bs.foldl (fun us b=>if b∈ks then us else gx us b) us
def yK(ks:List Mk)(bh:Mk->List Mk)(us ms:List Mk):List Mk:=ms.foldl (fun us m=>FW ks us (bh m)) us
theorem yD(l:List Mk)(b:Mk):(gx l b).length<=l.length+1:=by
 unfold gx;split
 ·omega
 ·rw[aY];exact aq _
theorem Bn(ks:List Mk):∀(bs us:List Mk),(FW ks us bs).length<=us.length+bs.length
 |[],us=>by show us.length<=us.length+0;omega
 |b::bs,us=>by
  show(FW ks (if b∈ks then us else gx us b) bs).length<=_;have:=Bn ks bs (if b∈ks then us else gx us b);rw[bb];by_cases q:b∈ks
  ·rw[ab q]at this⊢;omega
  ·rw[ae q]at this⊢;have:=yD us b;omega
theorem Fu(ks:List Mk):∀(bs us:List Mk),us.Nodup->(FW ks us bs).Nodup
 |[],us,h=>h
 |b::bs,us,h=>by
  show(FW ks (if b∈ks then us else gx us b) bs).Nodup;refine Fu ks bs _ ?_
  by_cases q:b∈ks
  ·rw[ab q];exact h
  ·rw[ae q];exact Bl h b
theorem Bo(ks:List Mk){x:Mk}:∀(bs us:List Mk),x∈FW ks us bs↔x∈us\/(x∈bs/\x∉ks)
 |[],us=>by show x∈us↔_;simp
 |b::bs,us=>by
  show x∈FW ks (if b∈ks then us else gx us b) bs↔_;rw[Bo ks bs,a8];by_cases q:b∈ks
  ·rw[ab q];constructor
   ·rintro (h|⟨h,h2⟩)
    ·exact .inl h
    ·exact .inr ⟨.inr h,h2⟩
   ·rintro (h|⟨rfl|h,h2⟩)
    ·exact .inl h
    ·exact absurd q h2
    ·exact .inr ⟨h,h2⟩
  ·rw[ae q,yC];constructor
   ·rintro ((h|rfl)|⟨h,h2⟩)
    ·exact .inl h
    ·exact .inr ⟨.inl rfl,q⟩
    ·exact .inr ⟨.inr h,h2⟩
   ·rintro (h|⟨rfl|h,h2⟩)
    ·exact .inl (.inl h)
    ·exact .inl (.inr rfl)
    ·exact .inr ⟨h,h2⟩
theorem Fv(ks:List Mk)(bh:Mk->List Mk):∀(ms us:List Mk),us.Nodup->(yK ks bh us ms).Nodup
 |[],us,h=>h
 |m::ms,us,h=>Fv ks bh ms _ (Fu ks (bh m) us h)
theorem Bp(ks:List Mk)(bh:Mk->List Mk){x:Mk}:∀(ms us:List Mk),x∈yK ks bh us ms↔x∈us\/∃m∈ms,x∈bh m/\x∉ks
 |[],us=>by show x∈us↔_;simp
 |m::ms,us=>by
  show x∈yK ks bh (FW ks us (bh m)) ms↔_;rw[Bp ks bh ms,Bo];constructor
  ·rintro ((h|h)|⟨y,hy,h⟩)
   ·exact .inl h
   ·exact .inr ⟨m,aP ..,h⟩
   ·exact .inr ⟨y,aO _ hy,h⟩
  ·rintro (h|⟨y,hy,h⟩)
   ·exact .inl (.inl h)
   ·rcases a8.mp hy with rfl|hy
    ·exact .inl (.inr h)
    ·exact .inr ⟨y,hy,h⟩
section
variable {ks:List Mk}{bh:Mk->List Mk}{H:Mk->Nat}
theorem Bq{a d:Cell}:∀(bs us:List Mk) (e:Cell),us.length+bs.length<=1000->
  ∃e',fz (gN 4) Vg (bs.map tM) [a,.sh (.aI (fD ks (tB bh))),.sh (.at 0),d,e] [.aI (fD us tT)]=.ok (.nx [a,.sh (.aI (fD ks (tB bh))),.sh (.at 0),d,e']) [.aI (fD (FW ks us bs) tT)]
 |[],us,e,_=>⟨e,rfl⟩
 |b::bs,us,e,hl=>by
  rw[bb]at hl;have e1:Vg [a,.sh (.aI (fD ks (tB bh))),.sh (.at 0),d,.sh (tM b)] [.aI (fD us tT)]=.ok (.nx [a,.sh (.aI (fD ks (tB bh))),.sh (.at 0),d,.sh (tM b)]) [.aI (fD (if b∈ks then us else gx us b) tT)]:=by
   show uT (aj (iL (Ef (tM b) (.aI (fD ks (tB bh))))) _) (fun A=>_) (fun A=>_)=_;rw[HN];by_cases q:b∈ks
   ·rw[aX (by simpa using q),ab q]
    rfl
   ·rw[bj q,ae q];show(match jx [.aI (fD us tT)] (.at 0) (tM b) (.bl true)with
     |some A'=>Rz.ok (Out.nx _) A'
     |none=>Rz.bad)=_
    rw[wz (A:=[.aI (fD us tT)]) (i:=0) (l:=us) (g:=tT) (b:=b) (t:=.bl true) rfl (by omega) rfl]
    rfl
  obtain⟨e',e2⟩:=Bq (a:=a) (d:=d) bs (if b∈ks then us else gx us b) (.sh (tM b)) (by
   by_cases q:b∈ks
   ·rw[ab q];omega
   ·rw[ae q];have:=yD us b;omega)
  refine⟨e',?_⟩;rw[aC,qa (ρ1:=[a,.sh (.aI (fD ks (tB bh))),.sh (.at 0),d,.sh (tM b)]) rfl e1];exact e2
theorem Br{a:Cell}:∀(ms us:List Mk) (d e:Cell),(∀m∈ms,(bh m).length<=20)->us.length+ms.length*20<=1000->
  ∃d' e',fz (gN 3) RS (ms.map fun m=>.tup [tM m,tB bh m]) [a,.sh (.aI (fD ks (tB bh))),.sh (.at 0),d,e] [.aI (fD us tT)]=.ok (.nx [a,.sh (.aI (fD ks (tB bh))),.sh (.at 0),d',e']) [.aI (fD (yK ks bh us ms) tT)]
 |[],us,d,e,_,_=>⟨d,e,rfl⟩
 |m::ms,us,d,e,hb,hl=>by
  rw[bb]at hl;have bl:=hb m (aP ..);obtain⟨e',e1⟩:=Bq (ks:=ks) (bh:=bh) (a:=a) (d:=.sh (.tup [tM m,tB bh m])) (bh m) us e (by omega);obtain⟨d2,AQ,e2⟩:=Br (a:=a) ms (FW ks us (bh m)) (.sh (.tup [tM m,tB bh m])) e' (fun x hx=>hb x (aO _ hx)) (by have:=Bn ks (bh m) us;omega);refine⟨d2,AQ,?_⟩;rw[aC,qa (ρ1:=[a,.sh (.aI (fD ks (tB bh))),.sh (.at 0),.sh (.tup [tM m,tB bh m]),e]) rfl (show RS _ _=_ from e1)];exact e2
theorem CK(K:wo ks bh H)(hl:(yK ks bh [] ks).length<=20):fL [aM ks bh]=.ok (.tup (((yK ks bh [] ks).mergeSort tW).map tM)):=by
 have kl:=K.len;obtain⟨d,e,el⟩:=Br (ks:=ks) (bh:=bh) (a:=.sh (aM ks bh)) ks [] .no .no K.wq (by rw[dX];omega);have key:fL [aM ks bh]=fc (gK [.sh (aM ks bh),.no,.no,.no,.no] []):=by
  rw[<-Qw];exact Bj rfl (by
   show(iM (.tup (ks.map fun m=>.tup [tM m,tB bh m]))&&true)=true;rw[oz,qL];rfl)
 rw[key];unfold gK;have d1:ba cP (aF (ar [.sh (aM ks bh),.no,.no,.no,.no] 0) (Rs.ok []))=.ok (.aI (fD ks (tB bh))):=oo (tB bh) K.nd (by omega);rw[d1];show fc (bu (fz (gN 3) RS (ks.map fun m=>.tup [tM m,tB bh m]) [.sh (aM ks bh),.sh (.aI (fD ks (tB bh))),.sh (.at 0),.no,.no] [.aI (fD [] tT)]) _)=_;rw[el];have th:bf 5 [Ao.aI (fD (yK ks bh [] ks) tT)] (.at 0)=.aI (fD (yK ks bh [] ks) tT):=wA (g:=fun _=>true) rfl 4;show fc (gs (gq (ba cX (aF (ba o7 (aF (.ok (bf 5 [Ao.aI (fD (yK ks bh [] ks) tT)] (.at 0))) (Rs.ok []))) (Rs.ok []))) _))=_;rw[th];show fc (gs (gq (ba cX (aF (o7 [.aI (fD (yK ks bh [] ks) tT)]) (Rs.ok []))) _))=_;rw[Ft (Fv ks bh ks [] fQ) hl];have tf:pG (.tup (((yK ks bh [] ks).mergeSort tW).map tM))=true:=by rw[pG];exact fT _
 show fc (gs (if pG (.tup (((yK ks bh [] ks).mergeSort tW).map tM))=true then Rz.ok (.tup (((yK ks bh [] ks).mergeSort tW).map tM)) _ else .bad))=_;rw[ab tf];show(if iM (.tup (((yK ks bh [] ks).mergeSort tW).map tM))=true then Rs.ok (Tr.tup (((yK ks bh [] ks).mergeSort tW).map tM))else Rs.bad)=_;rw[ab (by rw[oz];exact oy _)]
end
end ir
namespace ir
open PySem L2
def Fw(ks:List Mk)(bh:Mk->List Mk):Nat->Mk->Bool
 |0,_=>false
 |n+1,m=>decide (m∈ks)&&(bh m).all (Fw ks bh n)
theorem all_congr{l:List Mk}{f g:Mk->Bool}(h:∀x∈l,f x=g x):l.all f=l.all g:=by
 induction l with
 |nil=>rfl
 |cons a l ih=>rw[d_,d_,h a (aP ..),ih fun x hx=>h x (aO _ hx)]
theorem yE{α:Type}{f g:α->Tr}{F:av->Rs Tr}{xs:List Cell}:∀(l:List α) (c:Cell),(∀a∈l,F (.sh (f a)::xs)=.ok (g a))->lH (gN 0) (fun _=>.ok true) F (l.map f) (c::xs)=.ok (l.map g)
 |[],c,_=>rfl
 |a::l,c,h=>by
  rw[aC,lH];show(DK (F (.sh (f a)::xs))).bind (fun y=>(lH (gN 0) (fun _=>.ok true) F (l.map f) (.sh (f a)::xs)).bind fun ys=>.ok (y::ys))=_;rw[h a (aP ..),yE l _ fun b hb=>h b (aO _ hb)]
  rfl
theorem Bs(f:Mk->Bool):∀l:List Mk,BW (l.map fun b=>Tr.bl (f b))=.ok (l.map f)
 |[]=>rfl
 |b::l=>by rw[aC,BW,Bs f l];rfl
theorem all_map(f:Mk->Bool):∀l:List Mk,(l.map f).all id=l.all f
 |[]=>rfl
 |b::l=>by rw[aC,d_,all_map f l];rfl
theorem Fx(f:Mk->Bool)(l:List Mk):xC [.lst (l.map fun b=>Tr.bl (f b))]=.ok (.bl (l.all f)):=by
 show(BW (l.map fun b=>Tr.bl (f b))).bind (fun bs=>Rs.ok (Tr.bl (bs.all id)))=_;rw[Bs];show Rs.ok (Tr.bl ((l.map f).all id))=_;rw[all_map]
def bR:av->Ab->Rz Out:=fun ρ A=>uT (aj ((ba xC (aF (ij [none,some 2] (gN 0) (fun _=>Rs.ok true) (fun ρ=>cM CT (ar ρ 0) (ar ρ 1)) (il (cM oD (ar (bq A ρ) 1) (ar (bq A ρ) 3))) (bq A ρ)) (Rs.ok []))).bind pT) A) (fun A=>uX (aj (Rs.ok (Tr.bl true)) A) (fun A=>aj (ar ρ 2) A) (fun A=>aj (ar ρ 3) A) ρ) fun A=>Rz.ok (Out.nx ρ) A
def gR:av->Ab->Rz Out:=fun ρ A=>bu (cK 1 (aj (ba cP (aF (ar ρ 0) (Rs.ok []))) A) ρ) fun ρ A=>bu (cK 2 (gr (Rs.ok (Tr.aI [])) A) ρ) fun ρ A=>bu (gz (gN 3) bR (yt ((bH (aj (ar ρ 0) A) fun A=>Rz.ok [] A).bind iH)) ρ) fun ρ A=>gs (gq (ba vd (aF (ar (bq A ρ) 2) (Rs.ok []))) A)
theorem Qx:qJ.1=gR:=rfl
section
variable {ks:List Mk}{bh:Mk->List Mk}{H:Mk->Nat}
theorem Fy(K:wo ks bh H)(j:Nat):∀(n:Nat) (m:Mk),(m∈ks->H m<=n)->Fw ks bh (n+1+j) m=Fw ks bh (n+1) m:=by
 intro n
 induction n with
 |zero=>
  intro m h;have q:m∉ks:=fun q=>by have:=h q;have:=K.pos m q;omega
  rw[show 0+1+j=j+1 by omega,Fw,Fw,aX q]
  rfl
 |succ n ih=>
  intro m h;rw[show n+1+1+j=(n+1+j)+1 by omega,Fw,Fw];by_cases q:m∈ks
  ·congr 1;refine all_congr fun b hb=>ih b fun hk=>?_
   have:=K.lt m q b hb hk;have:=h q;omega
  ·rw[aX q];rfl
def qM(ks:List Mk)(bh:Mk->List Mk)(m:Mk):Bool:=Fw ks bh 60 m
theorem LW(K:wo ks bh H)(m:Mk):qM ks bh m=(decide (m∈ks)&&(bh m).all (qM ks bh)):=by
 show(decide (m∈ks)&&(bh m).all (Fw ks bh 59))=_;congr 1;refine all_congr fun b hb=>?_
 have h1:=Fy K 8 50 b fun hk=>K.top b hk;have h2:=Fy K 9 50 b fun hk=>K.top b hk;show Fw ks bh 59 b=Fw ks bh 60 b;exact h1.trans h2.symm
theorem Qy(K:wo ks bh H){a:Cell}{A:Ab}{j:Nat}{wl:List Mk}{m:Mk}(hm:m∈ks)(hj:A[j]?=some (.aI (fD wl tT)))(hl:wl.length<=1000):
  bR [a,.sh (.aI (fD ks (tB bh))),.sh (.at j),.sh (tM m)] A=.ok (.nx [a,.sh (.aI (fD ks (tB bh))),.sh (.at j),.sh (tM m)]) (if(bh m).all (fun b=>decide (b∈wl))=true then A.set j (.aI (fD (gx wl m) tT))else A):=by
 have bl:=K.wq m hm;have th:bf 5 A (.at j)=.aI (fD wl tT):=wA (g:=fun _=>true) hj 4;unfold bR;show uT (aj ((ba xC (aF (ij [none,some 2] (gN 0) _ _ (il (oD (.aI (fD ks (tB bh))) (tM m))) _) (Rs.ok []))).bind pT) A) _ _=_;rw[jS hm];show uT (aj ((ba xC (aF (ij [none,some 2] (gN 0) _ _ (.ok ((bh m).map tM)) _) (Rs.ok []))).bind pT) A) _ _=_;rw[mB (by omega)];show uT (aj ((ba xC (aF ((lH (gN 0) _ _ ((bh m).map tM) [.no,.sh (bf 5 A (.at j))]).bind _) (Rs.ok []))).bind pT) A) _ _=_;rw[th,yE (f:=tM) (g:=fun b=>.bl (decide (b∈wl))) (bh m) .no fun b hb=>?_]
 ·show uT (aj ((xC [.lst ((bh m).map fun b=>.bl (decide (b∈wl)))]).bind pT) A) _ _=_;rw[Fx];cases q:(bh m).all fun b=>decide (b∈wl)with
  |true=>
   show(match jx A (.at j) (tM m) (.bl true)with
    |some A'=>Rz.ok (Out.nx _) A'
    |none=>Rz.bad)=_
   rw[wz (l:=wl) (g:=tT) (b:=m) (t:=.bl true) hj hl rfl]
   rfl
  |false=>rfl
 ·show CT (tM b) (.aI (fD wl tT))=_;exact wm wl tT b
theorem Fz(K:wo ks bh H){a:Cell}{j:Nat}(Uj:0<j):∀(rest pre:List Mk) (A:Ab) (d:Cell),ag H ks=pre++rest->A[j]?=some (.aI (fD (pre.filter (qM ks bh)) tT))->
  ∃A' d',fz (gN 3) bR (rest.map tM) [a,.sh (.aI (fD ks (tB bh))),.sh (.at j),d] A=.ok (.nx [a,.sh (.aI (fD ks (tB bh))),.sh (.at j),d']) A'/\A'[j]?=some (.aI (fD ((ag H ks).filter (qM ks bh)) tT))/\∀i,i≠j->A'[i]?=A[i]?
 |[],pre,A,d,e,hj=>⟨A,d,rfl,by rw[e,dq];exact hj,fun _ _=>rfl⟩
 |m::rest,pre,A,d,e,hj=>by
  have pt:(ag H ks).Perm ks:=cA _ _;have nd:(pre++m::rest).Nodup:=by rw[<-e];exact pt.nodup_iff.mpr K.nd
  have hm:m∈ks:=pt.mem_iff.mp (by rw[e];simp);have kl:=K.len;have pl:(pre.filter (qM ks bh)).length<=1000:=by
   have h1:(pre.filter (qM ks bh)).length<=pre.length:=lC _ _;have h2:(ag H ks).length=ks.length:=tV ks;rw[e,aY]at h2;omega
  have mp:m∉pre:=fun q=>by
   rw[gV]at nd;exact nd.2.2 m q m (aP ..) rfl
  have pw:=lu (H:=H) ks;rw[e,List.pairwise_append]at pw;have before:∀b∈ks,H b<H m->b∈pre:=fun b hb dO=>by
   have lF:b∈pre++m::rest:=by rw[<-e];exact pt.mem_iff.mpr hb
   rcases bF.mp lF with q|q
   ·exact q
   ·rcases a8.mp q with rfl|q
    ·omega
    ·have z:=jO.mp (List.rel_of_pairwise_cons pw.2.1 q);rw[lr,lr]at z;exact absurd (List.Lex.rel (by omega)) z
  have key:(bh m).all (fun b=>decide (b∈pre.filter (qM ks bh)))=qM ks bh m:=by
   rw[LW K m,bj hm,kh];refine all_congr fun b hb=>?_
   cases q:qM ks bh b with
   |true=>
    have hk:b∈ks:=by
     rw[LW K b,aE]at q;exact cq q.1
    exact bj (cC.mpr ⟨before b hk (K.lt m hm b hb hk),q⟩)
   |false=>exact aX fun z=>by rw[(cC.mp z).2]at q;cases q
  have e1:=Qy K (a:=a) hm hj pl;rw[key]at e1;have step:∀A1:Ab,(if qM ks bh m=true then A.set j (.aI (fD (gx (pre.filter (qM ks bh)) m) tT))else A)=A1->A1[j]?=some (.aI (fD ((pre++[m]).filter (qM ks bh)) tT))/\∀i,i≠j->A1[i]?=A[i]? :=fun A1 eA=>by
   subst eA;rw[List.filter_append,dJ,rR];cases q:qM ks bh m with
   |true=>
    rw[ab rfl,ab rfl];have:gx (pre.filter (qM ks bh)) m=pre.filter (qM ks bh)++[m]:=ae fun z=>mp (cC.mp z).1;rw[this];exact⟨fk (a6 hj),fun i hi=>cg (by omega)⟩
   |false=>
    rw[ae (by decide),ae (by decide),dq];exact⟨hj,fun _ _=>rfl⟩
  obtain⟨s1,s2⟩:=step _ rfl;obtain⟨A',d',e2,h1,h2⟩:=Fz K (a:=a) Uj rest (pre++[m]) _ (.sh (tM m)) (by rw[e];simp) s1;refine⟨A',d',?_,h1,fun i hi=>(h2 i hi).trans (s2 i hi)⟩;rw[aC,qa (ρ1:=[a,.sh (.aI (fD ks (tB bh))),.sh (.at j),.sh (tM m)]) rfl e1];exact e2
theorem eX{α:Type}{x:α}{A:Ab}:aj (.ok x) A=.ok x A:=rfl
theorem lP{α β:Type}{x:α}{A:Ab}{f:α->Ab->Rz β}:(Rz.ok x A).bind f=f x A:=rfl
theorem Bt{ts:List Tr}{A:Ab}:yt (.ok (.tup ts) A)=.ok ts A:=rfl
theorem FA{T:iU}{G:av->Ab->Rz Out}{ts:List Tr}{A:Ab}{ρ:av}:gz T G (.ok ts A) ρ=fz T G ts ρ A:=rfl
theorem HQ(K:wo ks bh H){A:Ab}(hA:A[0]?=some (Ao.tb "order" "order.<locals>.<lambda>")):∃A',eD [aM ks bh] A=.ok (.tup (((ag H ks).filter (qM ks bh)).map tM)) A'/\∀i,i<A.length->A'[i]?=A[i]? :=by
 have kl:=K.len;have l0:=a6 hA;have Y5:(A++[.aI []])[0]?=some (Ao.tb "order" "order.<locals>.<lambda>"):=by rw[b8 l0];exact hA
 have hj:(A++[.aI []])[A.length]?=some (.aI (fD (([]:List Mk).filter (qM ks bh)) tT)):=by rw[rR,dH (aq _),eU];rfl
 obtain⟨A',d',e2,h1,h2⟩:=Fz K (a:=.sh (aM ks bh)) l0 (ag H ks) [] (A++[.aI []]) .no rfl hj;refine⟨A',?_,fun i hi=>(h2 i (by omega)).trans (b8 hi)⟩;show dD (qJ.1 [.sh (aM ks bh),.no,.no,.no] A)=_;rw[Qx];unfold gR;have d1:ba cP (aF (ar [.sh (aM ks bh),.no,.no,.no] 0) (Rs.ok []))=.ok (.aI (fD ks (tB bh))):=oo (tB bh) K.nd (by omega);rw[d1,eX,dB];have dn:gr (Rs.ok (Tr.aI [])) A=.ok (.at A.length) (A++[.aI []]):=rfl;rw[dn,dB];have dc:(bH (aj (ar (List.set (List.set [.sh (aM ks bh),.no,.no,.no] 1 (.sh (.aI (fD ks (tB bh))))) 2 (.sh (.at A.length))) 0) (A++[.aI []])) fun A=>Rz.ok [] A)=Rz.ok [aM ks bh] (A++[.aI []]):=rfl;rw[dc,lP,wx K Y5,Bt,FA];have dr:List.set (List.set [.sh (aM ks bh),.no,.no,.no] 1 (.sh (.aI (fD ks (tB bh))))) 2 (.sh (.at A.length))=[Cell.sh (aM ks bh),.sh (.aI (fD ks (tB bh))),.sh (.at A.length),.no]:=rfl;rw[dr];rw[e2];have th:bf 5 A' (.at A.length)=.aI (fD ((ag H ks).filter (qM ks bh)) tT):=wA (g:=fun _=>true) h1 4;show dD (gs (gq (ba vd (aF (.ok (bf 5 A' (.at A.length))) (Rs.ok []))) A'))=_;rw[th];show dD (gs (gq (vd [.aI (fD ((ag H ks).filter (qM ks bh)) tT)]) A'))=_;rw[HP];have tf:pG (.tup (((ag H ks).filter (qM ks bh)).map tM))=true:=by rw[pG];exact fT _
 show dD (gs (if pG (.tup (((ag H ks).filter (qM ks bh)).map tM))=true then Rz.ok (.tup (((ag H ks).filter (qM ks bh)).map tM)) A' else .bad))=_;rw[ab tf]
 rfl
end
end ir
namespace ir
open PySem L2
abbrev CW:Ao:=Ao.tb "order" "order.<locals>.<lambda>"
def tL(bh:Mk->List Mk)(m:Mk):Tr:=.tup [tM m,tB bh m]
theorem Vh(a b:Mk):eqT (tM a) (tM b)=decide (a=b):=by
 show((a.1==b.1)&&((a.2==b.2)&&true))=_;by_cases q:a=b
 ·subst q;simp
 ·rw[aX q];by_cases q1:a.1=b.1
  ·have:¬a.2=b.2:=fun q2=>q (kD q1 q2);simp[this]
  ·simp[q1]
section
variable {bh:Mk->List Mk}
theorem Jd(m:Mk):kR (tL bh m)=true:=by
 show(true&&(ip ((bh m).map tM)&&true))=true;rw[oA];rfl
theorem Vi(m:Mk):dT (tL bh m)<=3:=by
 have e:dT (tL bh m)=t9 [tM m,tB bh m]+1:=by unfold tL;rw[dT]
 have h:=tX (bh m);have e2:dT (tB bh m)=t9 ((bh m).map tM)+1:=by unfold tB;rw[dT]
 have e3:dT (tM m)=1:=rfl;rw[e,t9,t9,t9,e2,e3];omega
theorem FC:∀l:List Mk,ip (l.map (tL bh))=true
 |[]=>rfl
 |m::l=>by rw[aC,ip,Jd,FC l];rfl
theorem Je:∀l:List Mk,t9 (l.map (tL bh))<=3
 |[]=>by rw[nh,t9];omega
 |m::l=>by
  have h1:=Vi (bh:=bh) m;have h2:=Je l;rw[aC,t9];omega
theorem WD(a b:Mk):eqT (tL bh a) (tL bh b)=decide (a=b):=by
 by_cases q:a=b
 ·subst q;rw[kU (Jd a),bj rfl]
 ·have e:eqT (tL bh a) (tL bh b)=(eqT (tM a) (tM b)&&(eqT (tB bh a) (tB bh b)&&true)):=by unfold tL;rw[eqT,pU,pU,pU]
  rw[e,Vh,aX q];rfl
theorem ne_self{l:List Mk}:j5 (aM l bh) (aM l bh)=.ok (.bl false):=by
 have p:kR (aM l bh)=true:=by unfold aM;rw[kR];exact FC l
 have d:dT (aM l bh)<=40:=by unfold aM;rw[dT];have:=Je (bh:=bh) l;show t9 (l.map (tL bh))+1<=40;omega
 unfold j5;rw[ab ⟨p,p,d⟩,kU p]
 rfl
def HR(l:List Mk):List Mk:=l.foldl gx []
theorem wB{l:List Mk}{m:Mk}:m∈HR l↔m∈l:=by
 have gen:∀(l acc:List Mk),m∈l.foldl gx acc↔m∈acc\/m∈l:=by
  intro l
  induction l with
  |nil=>intro acc;simp
  |cons x l ih=>intro acc;rw[fU,ih,yC,a8,or_assoc]
 unfold HR;rw[gen l []];simp
theorem wC(l:List Mk):(HR l).Nodup:=by
 have gen:∀(l acc:List Mk),acc.Nodup->(l.foldl gx acc).Nodup:=by
  intro l
  induction l with
  |nil=>intro acc h;exact h
  |cons x l ih=>intro acc h;exact ih _ (Bl h x)
 exact gen l [] fQ
theorem zS(l:List Mk):FT (l.map (tL bh))=(HR l).map (tL bh):=by
 have gen:∀(l acc:List Mk),(l.map (tL bh)).foldl EF (acc.map (tL bh))=(l.foldl gx acc).map (tL bh):=by
  intro l
  induction l with
  |nil=>intro acc;rfl
  |cons x l ih=>
   intro acc;rw[aC,fU,fU,<-ih];congr 1;unfold EF gx;have e:((acc.map (tL bh)).any fun y=>eqT y (tL bh x))=decide (x∈acc):=by
    rw[kz];show(acc.any fun y=>eqT (tL bh y) (tL bh x))=_;rw[m6,j_,cp];constructor
    ·rintro ⟨y,hy,e⟩
     rw[WD,cp]at e;exact e▸hy
    ·intro h;exact⟨x,h,by rw[WD];exact bj rfl⟩
   rw[e];by_cases q:x∈acc
   ·rw[ab (bj q),ab q]
   ·rw[ae (by rw[aX q];exact cR),ae q,dZ];rfl
 exact gen l []
theorem Qz(m:Mk):(kt 3 (tL bh m)&&(jA (tL bh m)).length==2)=true:=by
 have h:((bh m).map tM).all (kt 1)=true:=by
  rw[bA];intro t ht;obtain⟨x,_,rfl⟩:=bp.mp ht
  rfl
 show((true&&(((bh m).map tM).all (kt 1)&&true))&&true)=true;rw[h];rfl
theorem FD(ms:List Mk):jY (ms.map (tL bh))=(ms.mergeSort tW).map (tL bh):=by
 unfold jY;exact(rj (r:=tW) (s:=fun a b=>lN (jA a) (jA b)) (f:=tL bh) fun a _ b _=>rfl).symm
theorem QC{l:List Mk}(hl:(HR l).length<=18):gj (.tup (l.map (tL bh)))=.ok (.lst (((HR l).mergeSort tW).map (tL bh))):=by
 have a1:((l.map (tL bh)).all fun t=>kt 3 t&&(jA t).length==2)=true:=by
  rw[bA];intro t ht;obtain⟨m,_,rfl⟩:=bp.mp ht;exact Qz m
 have a2:((FT (l.map (tL bh))).map jA).Nodup:=by
  rw[zS,bG];have nd:=wC l;unfold List.Nodup at nd⊢;rw[j8];exact nd.imp fun{a b} h e=>h (wy e)
 have ok:ML (l.map (tL bh))=true:=by
  unfold ML;rw[a1,bj a2,bj (by rw[zS,ak];exact hl)]
  rfl
 show(if ML (l.map (tL bh))=true then Rs.ok (Tr.lst (jY (FT (l.map (tL bh)))))else .bad)=_;rw[ab ok,zS,FD]
theorem wD:∀ms:List Mk,gJ (ms.map (tL bh))=true
 |[]=>rfl
 |m::ms=>by
  rw[aC,gJ,wD ms];show((true&&(gJ ((bh m).map tM)&&true))&&true)=true;rw[fT];rfl
theorem tY{a b us:List Mk}{H:Mk->Nat}(Lz:us=(HR (a++b)).mergeSort tW)(K:wo us bh H)(hu:us.length<=18)(hl:a.length+b.length<=100){A:Ab}(hA:A[0]?=some CW):bt [aM a bh,aM b bh] A=.ok (aM (ag H us) bh) A:=by
 have pu:us.Perm (HR (a++b)):=by rw[Lz];exact cA _ _
 have t1:ba cX (aF ((cM xy (ar [.sh (aM a bh),.sh (aM b bh),.no,.no] 0) (ar [.sh (aM a bh),.sh (aM b bh),.no,.no] 1)).bind gj) (Rs.ok []))=.ok (aM us bh):=by
  show ba cX (aF ((if(a.map (tL bh)).length+(b.map (tL bh)).length<=ik then Rs.ok (Tr.tup (a.map (tL bh)++b.map (tL bh)))else .bad).bind gj) (Rs.ok []))=_;rw[ak,ak,ab (aZ hl (by decide)),<-dZ];show ba cX (aF (gj (.tup ((a++b).map (tL bh)))) (Rs.ok []))=_;rw[QC (by rw[<-pu.length_eq];exact hu),<-Lz]
  rfl
 have d1:ba cP (aF (Rs.ok (aM us bh)) (Rs.ok []))=.ok (.aI (fD us (tB bh))):=oo (tB bh) K.nd (by omega);show dD (mz.1 [.sh (aM a bh),.sh (aM b bh),.no,.no] A)=_;show dD (bu (cK 2 (aj (ba cX (aF ((cM xy (ar [.sh (aM a bh),.sh (aM b bh),.no,.no] 0) (ar [.sh (aM a bh),.sh (aM b bh),.no,.no] 1)).bind gj) (Rs.ok []))) A) [.sh (aM a bh),.sh (aM b bh),.no,.no]) fun ρ A=>
  bu (cK 3 (aj (ba cP (aF (ar ρ 2) (Rs.ok []))) A) ρ) fun ρ A=>
   gs (pK cX (bH (CC [none,some 3] (gN 0) (fun x=>Rs.ok true) (fun ρ=>jk (aF (ar ρ 0) (aF (cM oD (ar ρ 1) (ar ρ 0)) (Rs.ok [])))) (yt ((bH (aj (ar ρ 2) A) fun A=>Rz.ok [] A).bind iH)) ρ) fun A=>Rz.ok [] A)))=_
 rw[t1,eX,dB];show dD (bu (cK 3 (aj (ba cP (aF (Rs.ok (aM us bh)) (Rs.ok []))) A) [.sh (aM a bh),.sh (aM b bh),.sh (aM us bh),.no]) fun ρ A=>
   gs (pK cX (bH (CC [none,some 3] (gN 0) (fun x=>Rs.ok true) (fun ρ=>jk (aF (ar ρ 0) (aF (cM oD (ar ρ 1) (ar ρ 0)) (Rs.ok [])))) (yt ((bH (aj (ar ρ 2) A) fun A=>Rz.ok [] A).bind iH)) ρ) fun A=>Rz.ok [] A)))=_
 rw[d1,eX,dB];show dD (gs (pK cX (bH (CC [none,some 3] (gN 0) (fun x=>Rs.ok true) (fun ρ=>jk (aF (ar ρ 0) (aF (cM oD (ar ρ 1) (ar ρ 0)) (Rs.ok [])))) (yt (iH [aM us bh] A)) [.sh (aM a bh),.sh (aM b bh),.sh (aM us bh),.sh (.aI (fD us (tB bh)))]) fun A=>Rz.ok [] A)))=_;rw[wx K hA,Bt];have ol:(ag H us).length<=1000:=by rw[tV];omega
 have po:(ag H us).Perm us:=cA _ _;have e:ij [none,some 3] (gN 0) (fun x=>Rs.ok true) (fun ρ=>jk (aF (ar ρ 0) (aF (cM oD (ar ρ 1) (ar ρ 0)) (Rs.ok [])))) (.ok ((ag H us).map tM)) [.sh (aM a bh),.sh (aM b bh),.sh (aM us bh),.sh (.aI (fD us (tB bh)))]=.ok (.lst ((ag H us).map (tL bh))):=by
  rw[mB ol];show(lH (gN 0) _ _ ((ag H us).map tM) [.no,.sh (.aI (fD us (tB bh)))]).bind _=_;rw[yE (f:=tM) (g:=tL bh) _ .no fun m hm=>?_]
  ·rfl
  ·show jk (aF (.ok (tM m)) (aF (oD (.aI (fD us (tB bh))) (tM m)) (Rs.ok [])))=_;rw[jS (po.mem_iff.mp hm)]
   rfl
 unfold CC;rw[lP,e,eX];show dD (gs (if pG (.tup ((ag H us).map (tL bh)))=true then Rz.ok (.tup ((ag H us).map (tL bh))) A else .bad))=_;have tf:pG (.tup ((ag H us).map (tL bh)))=true:=by rw[pG];exact wD _
 rw[ab tf]
 rfl
end
end ir
namespace ir
open PySem L2
def RT:av->Ab->Rz Out:=fun ρ A=>l4 (Kv LH (aj (ar ρ 1) A) fun A=>bH (aj (ar ρ 3) A) fun A=>Rz.ok [] A) ρ
def Y6:av->Ab->Rz Out:=fun ρ A=>bu (cK 1 (gr (DH (Rs.ok [])) A) ρ) fun ρ A=>bu (gz (gT [2,3]) RT (aj (il (ar ρ 0)) A) ρ) fun ρ A=>gs (gq (ba cX (aF (ba fA (aF (ij [none,none,some 1] (gT [0,1]) (fun ρ=>iL (cM my (ar ρ 0) (ar ρ 2))) (fun ρ=>ar ρ 0) (il (ar (bq A ρ) 0)) (bq A ρ)) (Rs.ok []))) (Rs.ok []))) A)
theorem LX:oh.1=Y6:=rfl
def ends(os:List Mk)(bh:Mk->List Mk):List Mk:=(os.filter fun m=>!decide (m∈os.flatMap bh)).mergeSort tW
section
variable {bh:Mk->List Mk}{L:Tr}
theorem FE:∀(ms acc:List Mk) (c d:Cell),(∀m∈ms,(bh m).length<=20)->acc.length+ms.length*20<=1000->
  ∃c' d',fz (gT [2,3]) RT (ms.map (tL bh)) [.sh L,.sh (.at 0),c,d] [.lst (acc.map tM)]=.ok (.nx [.sh L,.sh (.at 0),c',d']) [.lst ((acc++ms.flatMap bh).map tM)]
 |[],acc,c,d,_,_=>⟨c,d,by rw[List.flatMap_nil,dq];rfl⟩
 |m::ms,acc,c,d,hb,hl=>by
  rw[bb]at hl;have bl:=hb m (aP ..);have e1:RT [.sh L,.sh (.at 0),.sh (tM m),.sh (tB bh m)] [.lst (acc.map tM)]=.ok (.nx [.sh L,.sh (.at 0),.sh (tM m),.sh (tB bh m)]) [.lst ((acc++bh m).map tM)]:=by
   show l4 (if(acc.map tM).length+((bh m).map tM).length<=ik then Rz.ok Tr.dv [.lst (acc.map tM++(bh m).map tM)]else .bad) _=_;rw[ak,ak,ab (by unfold ik;omega),<-dZ]
   rfl
  obtain⟨c',d',e2⟩:=FE ms (acc++bh m) (.sh (tM m)) (.sh (tB bh m)) (fun x hx=>hb x (aO _ hx)) (by rw[aY];omega);refine⟨c',d',?_⟩;rw[aC,qa (ρ1:=[.sh L,.sh (.at 0),.sh (tM m),.sh (tB bh m)]) rfl e1,e2,List.flatMap_cons,gE]
theorem QH{P:Mk->Bool}{Q:av->Rs Bool}{F:av->Rs Tr}{x:Cell}:∀(ms:List Mk) (c d:Cell),(∀m∈ms,Q [.sh (tM m),.sh (tB bh m),x]=.ok (P m))->(∀m∈ms,F [.sh (tM m),.sh (tB bh m),x]=.ok (tM m))->lH (gT [0,1]) Q F (ms.map (tL bh)) [c,d,x]=.ok ((ms.filter P).map tM)
 |[],c,d,_,_=>rfl
 |m::ms,c,d,hQ,hF=>by
  have ih:=QH (P:=P) (Q:=Q) (F:=F) (x:=x) ms (.sh (tM m)) (.sh (tB bh m)) (fun x hx=>hQ x (aO _ hx)) (fun x hx=>hF x (aO _ hx));rw[aC,lH];show(DK (Q [.sh (tM m),.sh (tB bh m),x])).bind _=_;rw[hQ m (aP ..)];cases p:P m with
  |true=>
   show(DK (F [.sh (tM m),.sh (tB bh m),x])).bind _=_;rw[hF m (aP ..)];show(lH (gT [0,1]) Q F (ms.map (tL bh)) [.sh (tM m),.sh (tB bh m),x]).bind _=_;rw[ih,dJ,p]
   rfl
  |false=>
   show lH (gT [0,1]) Q F (ms.map (tL bh)) [.sh (tM m),.sh (tB bh m),x]=_;rw[ih,dJ,p]
   rfl
theorem LY(m:Mk)(l:List Mk):((l.map tM).any fun y=>eqT y (tM m))=decide (m∈l):=by
 rw[kz];show(l.any fun y=>eqT (tM y) (tM m))=_;rw[m6,j_,cp];constructor
 ·rintro ⟨y,hy,e⟩
  rw[Vh,cp]at e;exact e▸hy
 ·intro h;exact⟨m,h,by rw[Vh];exact bj rfl⟩
theorem Bu(m:Mk)(l:List Mk):my (tM m) (.lst (l.map tM))=.ok (.bl (!decide (m∈l))):=by
 show(if kR (tM m)=true/\ip (l.map tM)=true/\t9 (l.map tM)<=40 then Rs.ok (Tr.bl (!(l.map tM).any fun y=>eqT y (tM m)))else .bad)=_;rw[ab ⟨rfl,oA l,by have:=tX l;omega⟩,LY]
theorem HS(m:Mk)(l:List Mk):my (tM m) (.tup (l.map tM))=.ok (.bl (!decide (m∈l))):=Bu m l
theorem L3{os:List Mk}(nd:os.Nodup)(hl:os.length<=20)(hb:∀m∈os,(bh m).length<=20):oj [aM os bh]=.ok (.tup ((ends os bh).map tM)):=by
 obtain⟨c',d',e1⟩:=FE (bh:=bh) (L:=aM os bh) os [] .no .no hb (by rw[dX];omega);have na:dh [aM os bh]=true:=by
  show(iM (.tup (os.map fun m=>.tup [tM m,tB bh m]))&&true)=true;rw[oz,qL bh os];rfl
 have th:bf 5 [.lst ((os.flatMap bh).map tM)] (.at 0)=.lst ((os.flatMap bh).map tM):=by
  show Tr.lst (((os.flatMap bh).map tM).map _)=_;rw[bG]
  rfl
 have e2:ij [none,none,some 1] (gT [0,1]) (fun ρ=>iL (cM my (ar ρ 0) (ar ρ 2))) (fun ρ=>ar ρ 0) (.ok (os.map (tL bh))) [.sh (aM os bh),.sh (.lst ((os.flatMap bh).map tM)),c',d']=.ok (.lst ((os.filter fun m=>!decide (m∈os.flatMap bh)).map tM)):=by
  show(if(os.map (tL bh)).length<=ik then(lH (gT [0,1]) _ _ (os.map (tL bh)) [.no,.no,.sh (.lst ((os.flatMap bh).map tM))]).bind fun ys=>Rs.ok (Tr.lst ys)else .bad)=_;rw[ab (by rw[ak];unfold ik;omega),QH (P:=fun m=>!decide (m∈os.flatMap bh)) os .no .no (fun m _=>?_) (fun _ _=>rfl)]
  ·rfl
  ·show iL (my (tM m) (.lst ((os.flatMap bh).map tM)))=_;rw[Bu]
   rfl
 show sH 1 4 oh.1 [aM os bh]=_;rw[Bj (n:=1) rfl na,LX];show fc (bu (fz (gT [2,3]) RT (os.map (tL bh)) [.sh (aM os bh),.sh (.at 0),.no,.no] [.lst (([]:List Mk).map tM)]) _)=_;rw[e1,kc];show fc (gs (gq (ba cX (aF (ba fA (aF (ij [none,none,some 1] (gT [0,1]) (fun ρ=>iL (cM my (ar ρ 0) (ar ρ 2))) (fun ρ=>ar ρ 0) (.ok (os.map (tL bh))) [.sh (aM os bh),.sh (bf 5 [.lst ((os.flatMap bh).map tM)] (.at 0)),xF [.lst ((os.flatMap bh).map tM)] c',xF [.lst ((os.flatMap bh).map tM)] d']) (Rs.ok []))) (Rs.ok []))) [.lst ((os.flatMap bh).map tM)]))=_;rw[th];have e3:ij [none,none,some 1] (gT [0,1]) (fun ρ=>iL (cM my (ar ρ 0) (ar ρ 2))) (fun ρ=>ar ρ 0) (.ok (os.map (tL bh))) [.sh (aM os bh),.sh (.lst ((os.flatMap bh).map tM)),xF [.lst ((os.flatMap bh).map tM)] c',xF [.lst ((os.flatMap bh).map tM)] d']=ij [none,none,some 1] (gT [0,1]) (fun ρ=>iL (cM my (ar ρ 0) (ar ρ 2))) (fun ρ=>ar ρ 0) (.ok (os.map (tL bh))) [.sh (aM os bh),.sh (.lst ((os.flatMap bh).map tM)),c',d']:=rfl;rw[e3,e2];show fc (gs (gq (ba cX (aF (fA [.lst ((os.filter fun m=>!decide (m∈os.flatMap bh)).map tM)]) (Rs.ok []))) _))=_;rw[Bk (dA nd) (aZ (lC _ _) hl)];show fc (gs (if pG (.tup ((ends os bh).map tM))=true then Rz.ok (.tup ((ends os bh).map tM)) _ else .bad))=_;rw[ab (by rw[pG];exact fT _)];show(if iM (.tup ((ends os bh).map tM))=true then Rs.ok (Tr.tup ((ends os bh).map tM))else .bad)=_;rw[ab (by rw[oz];exact oy _)]
end
end ir
namespace ir
open PySem L2
def mE(l:List Mk):List Mk:=(HR l).mergeSort tW
theorem eG{l:List Mk}{m:Mk}:m∈mE l↔m∈l:=((cA _ _).mem_iff).trans wB
theorem zT(l:List Mk):(mE l).Nodup:=(cA _ _).nodup_iff.mpr (wC l)
theorem FF{l l':List Mk}(h:∀m,m∈l↔m∈l'):mE l=mE l':=Fq ((mI (wC l) (wC l')).mpr fun m=>by rw[wB,wB];exact h m)
structure Wd(t:Nat)(W:List Mk)(bh:Mk->List Mk)(H:Mk->Nat):Prop where
 nd:W.Nodup
 len:W.length<=t
 RU:∀m∈W,0<=m.2/\m.2<(t:Int)
 LK:∀m∈W,(bh m).Nodup
 wq:∀m∈W,(bh m).length<=t
 pos:∀m∈W,1<=H m
 sub:∀m∈W,∀b∈bh m,b∈W/\H b<H m
 ex:∀m∈W,H m=1\/∃b∈bh m,H m=H b+1
 top:∀m∈W,H m<=t
structure Cl(W:List Mk)(bh:Mk->List Mk)(S:List Mk):Prop where
 nd:S.Nodup
 sub:∀m∈S,m∈W
 cl:∀m∈S,∀b∈bh m,b∈S
section
variable {t:Nat}{W:List Mk}{bh:Mk->List Mk}{H:Mk->Nat}{S S1 S2:List Mk}{A:Ab}
theorem Cl.len (c:Cl W bh S)(w:Wd t W bh H):S.length<=t:=aZ (qN c.nd c.sub) w.len
theorem Cl.bV (c:Cl W bh S)(w:Wd t W bh H)(ht:t<=12):wo S bh H where
 nd:=c.nd
 len:=by have:=c.len w;omega
 LK:=fun m hm=>w.LK m (c.sub m hm)
 wq:=fun m hm=>by have:=w.wq m (c.sub m hm);omega
 pos:=fun m hm=>w.pos m (c.sub m hm)
 lt:=fun m hm b hb _=>(w.sub m (c.sub m hm) b hb).2
 ex:=fun m hm=>(w.ex m (c.sub m hm)).imp id fun⟨b,hb,e⟩=>⟨b,hb,c.cl m hm b hb,e⟩
 top:=fun m hm=>by have:=w.top m (c.sub m hm);omega
theorem bw(S:List Mk):(ag H S).Perm S:=cA _ _
theorem cS{m:Mk}:m∈ag H S↔m∈S:=(bw S).mem_iff
theorem Bv(S:List Mk):ag H (ag H S)=ag H S:=o_ (bw S)
theorem Cl.perm (c:Cl W bh S)(p:S1.Perm S):Cl W bh S1:=⟨p.nodup_iff.mpr c.nd,fun m hm=>c.sub m (p.mem_iff.mp hm),fun m hm b hb=>p.mem_iff.mpr (c.cl m (p.mem_iff.mp hm) b hb)⟩
theorem Cl.mE (c1:Cl W bh S1)(c2:Cl W bh S2):Cl W bh (mE (S1++S2)):=⟨zT _,fun m hm=>(bF.mp (eG.mp hm)).elim (c1.sub m) (c2.sub m),fun m hm b hb=>eG.mpr (bF.mpr ((bF.mp (eG.mp hm)).imp (fun h=>c1.cl m h b hb) fun h=>c2.cl m h b hb))⟩
theorem Cl.take (c:Cl W bh S)(w:Wd t W bh H)(n:Nat):Cl W bh ((ag H S).take n):=by
 have p:=bw (H:=H) S;have on:(ag H S).Nodup:=p.nodup_iff.mpr c.nd;refine⟨on.sublist (rm _ _),fun m hm=>c.sub m (p.mem_iff.mp (List.mem_of_mem_take hm)),fun m hm b hb=>?_⟩;have WE:=p.mem_iff.mp (List.mem_of_mem_take hm);have Ui:=c.cl m WE b hb;have dO:=(w.sub m (c.sub m WE) b hb).2;obtain⟨j,hj⟩:=dI hm;rw[mU]at hj;split at hj
 ·rename_i jn;obtain⟨i,hi⟩:=dI (p.mem_iff.mpr Ui);have:=Fs hi hj dO;refine bg (i:=i) ?_
  rw[mU,ab (by omega)];exact hi
 ·cases hj
theorem L4(c:Cl W bh S)(w:Wd t W bh H)(ht:t<=12):∀(n:Nat) (m:Mk),m∈S->H m<=n->qM S bh m=true:=fun n=>by
 have K:=c.bV w ht
 induction n with
 |zero=>intro m hm h;have:=K.pos m hm;omega
 |succ n ih=>
  intro m hm h;rw[LW K m,bj hm,kh,bA];intro b hb;have hk:=c.cl m hm b hb;have:=K.lt m hm b hb hk;exact ih b hk (by omega)
theorem FG(c:Cl W bh S)(w:Wd t W bh H)(ht:t<=12)(hA:A[0]?=some CW):∃A',eD [aM (ag H S) bh] A=.ok (.tup ((ag H S).map tM)) A'/\∀i,i<A.length->A'[i]?=A[i]? :=by
 have c':=c.perm (bw (H:=H) S);obtain⟨A',e,h⟩:=HQ (c'.bV w ht) hA;refine⟨A',?_,h⟩;rw[Bv]at e;rw[e];have:(ag H S).filter (qM (ag H S) bh)=ag H S:=List.filter_eq_self.mpr fun m hm=>L4 c' w ht (H m) m hm (aq _);rw[this]
theorem yF(c1:Cl W bh S1)(c2:Cl W bh S2)(w:Wd t W bh H)(ht:t<=12)(hA:A[0]?=some CW){a b:List Mk}(pa:a.Perm S1)(pb:b.Perm S2):bt [aM a bh,aM b bh] A=.ok (aM (ag H (mE (S1++S2))) bh) A:=by
 have cc:=c1.mE c2;have l1:=c1.len w;have l2:=c2.len w;have l3:=cc.len w;refine tY (FF fun m=>?_) (cc.bV w ht) (by omega) (by rw[pa.length_eq,pb.length_eq];omega) hA;rw[bF,bF,pa.mem_iff,pb.mem_iff]
theorem HU{H':Mk->Nat}(h:∀m∈S,H' m=H m):ag H' S=ag H S:=by
 refine jC (le:=fun a b=>wu H a b=true) (fun a b ha hb h1 h2=>zQ (gi h1 h2)) ?_ (lu S) ((bw S).trans (bw S).symm)
 refine(lu (H:=H') S).imp_of_mem fun{a b} ha hb e=>?_
 have ea:=h a ((bw S).mem_iff.mp ha);have eb:=h b ((bw S).mem_iff.mp hb);unfold wu tP at e⊢;rw[<-ea,<-eb];exact e
theorem Bw{pN:Mk->List Mk}{l:List Mk}(h:∀m∈l,pN m=bh m):aM l pN=aM l bh:=by
 unfold aM;congr 1;refine fO fun m hm=>?_
 unfold tB;rw[h m hm]
end
end ir
namespace ir
open PySem L2
def Jf(bh:Mk->List Mk)(m:Mk)(es:List Mk):Mk->List Mk:=fun x=>if x=m then es else bh x
def hN(H:Mk->Nat)(m:Mk)(h:Nat):Mk->Nat:=fun x=>if x=m then h else H x
theorem lz{bh:Mk->List Mk}{m x:Mk}{es:List Mk}(h:x≠m):Jf bh m es x=bh x:=ae h
theorem ph{bh:Mk->List Mk}{m:Mk}{es:List Mk}:Jf bh m es m=es:=ab rfl
theorem ma{H:Mk->Nat}{m x:Mk}{h:Nat}(e:x≠m):hN H m h x=H x:=ae e
theorem yG{H:Mk->Nat}{m:Mk}{h:Nat}:hN H m h m=h:=ab rfl
section
variable {t:Nat}{W:List Mk}{bh:Mk->List Mk}{H:Mk->Nat}{S:List Mk}{m:Mk}
theorem t4{x:Mk}:x∈ends (ag H S) bh↔x∈S/\x∉S.flatMap bh:=by
 unfold ends;rw[(cA _ _).mem_iff,cC,cS,Bool.not_eq_true',decide_eq_false_iff_not,i8,i8];refine and_congr_right fun _=>not_congr ⟨fun⟨y,h1,h2⟩=>⟨y,cS.mp h1,h2⟩,fun⟨y,h1,h2⟩=>⟨y,cS.mpr h1,h2⟩⟩
variable (w:Wd t W bh H)(c:Cl W bh S)(hm:m.2=(t:Int))
include w hm
theorem oB:m∉W:=fun h=>by have:=(w.RU m h).2;omega
theorem L5{S' es:List Mk}(c':Cl W bh S'):Cl (W++[m]) (Jf bh m es) S':=by
 have n8:=oB w hm;refine⟨c'.nd,fun x hx=>dU _ (c'.sub x hx),fun x hx b hb=>?_⟩;rw[lz (fun e:x=m=>n8 (e▸c'.sub x hx))]at hb;exact c'.cl x hx b hb
theorem L6{S' es:List Mk}{h:Nat}(c':Cl W bh S'):aM (ag (hN H m h) S') (Jf bh m es)=aM (ag H S') bh:=by
 have n8:=oB w hm;rw[HU fun x hx=>ma fun e:x=m=>n8 (e▸c'.sub x hx)];exact Bw fun x hx=>lz fun e:x=m=>n8 (e▸c'.sub x (cS.mp hx))
include c
theorem L7:Wd (t+1) (W++[m]) (Jf bh m (ends (ag H S) bh)) (hN H m (1+CV (S.map H))):=by
 have n8:=oB w hm;have ne:∀{x:Mk},x∈W->x≠m:=fun h e=>n8 (e▸h);have mem:∀{x:Mk},x∈W++[m]->x∈W\/x=m:=fun h=>(bF.mp h).imp id cn.mp;have up:∀{x:Mk},x∈W->x∈W++[m]:=fun h=>dU _ h;have mx:∀x∈S,H x<=CV (S.map H):=fun x hx=>Fl (bp.mpr ⟨x,hx,rfl⟩);have el:(ends (ag H S) bh).length<=S.length:=by
  unfold ends;rw[(cA _ _).length_eq];exact aZ (lC _ _) (Nat.le_of_eq (bw S).length_eq)
 have sl:=c.len w;have wl:=w.len;refine⟨?_,?_,fun x hx=>?_,fun x hx=>?_,fun x hx=>?_,fun x hx=>?_,fun x hx b hb=>?_,fun x hx=>?_,fun x hx=>?_⟩
 ·rw[gV];exact⟨w.nd,by simp,fun a ha b hb=>by rw[cn.mp hb];exact ne ha⟩
 ·rw[aY,eY];omega
 ·rcases mem hx with h|rfl
  ·have:=w.RU x h;omega
  ·omega
 ·rcases mem hx with h|rfl
  ·rw[lz (ne h)];exact w.LK x h
  ·rw[ph];unfold ends;exact(cA _ _).nodup_iff.mpr (dA ((bw S).nodup_iff.mpr c.nd))
 ·rcases mem hx with h|rfl
  ·rw[lz (ne h)];have:=w.wq x h;omega
  ·rw[ph];omega
 ·rcases mem hx with h|rfl
  ·rw[ma (ne h)];exact w.pos x h
  ·rw[yG];omega
 ·rcases mem hx with h|rfl
  ·rw[lz (ne h)]at hb;obtain⟨h1,h2⟩:=w.sub x h b hb;rw[ma (ne h),ma (ne h1)];exact⟨up h1,h2⟩
  ·rw[ph]at hb;have WG:=(t4.mp hb).1;have WH:=c.sub b WG;rw[yG,ma (ne WH)];have:=mx b WG;exact⟨up WH,by omega⟩
 ·rcases mem hx with h|rfl
  ·rw[lz (ne h),ma (ne h)];refine(w.ex x h).imp id fun⟨b,hb,e⟩=>⟨b,hb,?_⟩;rw[ma (ne (w.sub x h b hb).1)];exact e
  ·rw[ph,yG];rcases Fm (S.map H)with e|e
   ·rw[e];exact .inl rfl
   ·obtain⟨y,hy,ey⟩:=bp.mp e;refine .inr ⟨y,t4.mpr ⟨hy,fun z=>?_⟩,?_⟩
    ·obtain⟨u,hu,Y7⟩:=i8.mp z;have h1:=(w.sub u (c.sub u hu) y Y7).2;have h2:=mx u hu;omega
    ·rw[ma (ne (c.sub y hy)),ey];omega
 ·rcases mem hx with h|rfl
  ·rw[ma (ne h)];have:=w.top x h;omega
  ·rw[yG];rcases Fm (S.map H)with e|e
   ·rw[e];show 1+0<=_;omega
   ·obtain⟨y,hy,ey⟩:=bp.mp e;have:=w.top y (c.sub y hy);omega
theorem L8:Cl (W++[m]) (Jf bh m (ends (ag H S) bh)) (mE (S++[m])):=by
 have n8:=oB w hm;refine⟨zT _,fun x hx=>?_,fun x hx b hb=>?_⟩
 ·rcases bF.mp (eG.mp hx)with h|h
  ·exact dU _ (c.sub x h)
  ·exact dS _ h
 ·rcases bF.mp (eG.mp hx)with h|h
  ·rw[lz (fun e:x=m=>n8 (e▸c.sub x h))]at hb;exact eG.mpr (dU _ (c.cl x h b hb))
  ·rw[cn.mp h,ph]at hb;exact eG.mpr (dU _ (t4.mp hb).1)
end
end ir
namespace ir
open PySem L2
def fin(ρ:av)(r:Rz Bool):Rz Out:=uT r (fun A=>gs (aj (Rs.ok (Tr.bl false)) A)) fun A=>Rz.ok (Out.nx ρ) A
theorem L9{ρ:av}{A:Ab}:fin ρ (.ok false A)=.ok (.nx ρ) A:=rfl
theorem t6{ρ:av}{A:Ab}{G:av->Ab->Rz Out}:bu (.ok (.nx ρ) A) G=G ρ A:=rfl
def WI(ρ:av):Rs Tr:=cM xy (ba og (aF (ar ρ 0) (aF (cM nG (ar ρ 3) (Rs.ok (Tr.int 10))) (Rs.ok [])))) (cM ui (Rs.ok (Tr.int 43)) (ar ρ 3))
def MS(p:Int)(ρ:av):Rs Tr:=ba iI (aF (ar ρ 4) (aF (Rs.ok (Tr.int p)) (aF (Rs.ok (Tr.int 3)) (Rs.ok []))))
def yL(i:Nat)(ρ:av)(A:Ab):Rs Tr:=cM ze (ar (bq A ρ) 1) (ar (bq A ρ) i)
def RV(ρ:av)(A:Ab):Rs Tr:=ij [none] (gN 0) (fun x=>Rs.ok true) (fun ρ=>cM ze (ar ρ 0) (Rs.ok (Tr.int 0))) (il (yL 5 ρ A)) (bq A ρ)
def MT(ρ:av)(A:Ab):Rs Tr:=jk (aF (jk (aF (ar (bq A ρ) 7) (aF (ba oj (aF (yL 5 ρ A) (Rs.ok []))) (Rs.ok [])))) (Rs.ok []))
def RW:av->Ab->Rz Out:=fun ρ A=>bu (cK 7 (aj (jk (aF (ar ρ 5) (aF (ar ρ 3) (Rs.ok [])))) A) ρ) fun ρ A=>bu (uX (gr (RV ρ A) A) (fun A=>aj (ar ρ 2) A) (fun A=>aj (ar ρ 7) A) ρ) fun ρ A=>yu ((bH (gq (yL 5 ρ A) A) fun A=>bH (gq (MT ρ A) A) fun A=>Rz.ok [] A).bind bt) (fun A=>aj (ar ρ 1) A) (fun A=>aj (ar ρ 5) A) ρ
def RX(ρ:av)(A:Ab):Rs Tr:=KI (yL 5 ρ A) (Rs.ok none) (Og (ba iI (aF (ar (bq A ρ) 4) (aF (Rs.ok (Tr.int 9473)) (aF (cM xy (ba pL (aF (yL 5 ρ A) (Rs.ok []))) (Rs.ok (Tr.int 1))) (Rs.ok []))))))
def RY:av->Ab->Rz Out:=fun ρ A=>uT (aj (iL (cM BR (cM nG (ar ρ 4) (Rs.ok (Tr.int 3))) (Rs.ok (Tr.int 0)))) A) (fun A=>cK 9 (aj (cM GU (ar ρ 9) (Rs.bind (Rs.ok (Tr.int 1)) Kl)) A) ρ) fun A=>Rz.ok (Out.nx ρ) A
def L_:av->Ab->Rz Bool:=fun ρ A=>iP (j4 my (aj (ar ρ 0) A) fun A=>l_ ((bH (gq (cM ze (ar (bq A ρ) 1) (ar (bq A ρ) 2)) A) fun A=>Rz.ok [] A).bind eD))
def RZ:av->Ab->Rz Out:=fun ρ A=>bu (cK 8 ((bH (gq (yL 6 ρ A) A) fun A=>Rz.ok [] A).bind eD) ρ) fun ρ A=>bu (cK 9 (gq (RX ρ A) A) ρ) fun ρ A=>bu (RY ρ A) fun ρ A=>bu (yu ((bH (gq (yL 6 ρ A) A) fun A=>bH (aj (ar ρ 9) A) fun A=>Rz.ok [] A).bind bt) (fun A=>aj (ar ρ 1) A) (fun A=>aj (ar ρ 6) A) ρ) fun ρ A=>fin ρ (Ca (LD [none,some 1,some 6] (gN 0) L_ (il (ar ρ 8)) ρ A))
def Ma:av->Ab->Rz Out:=fun ρ A=>bu (cK 4 (aj (WI ρ) A) ρ) fun ρ A=>bu (cK 5 (aj (MS 9491 ρ) A) ρ) fun ρ A=>bu (cK 6 (aj (MS 9479 ρ) A) ρ) fun ρ A=>uT (aj (iL (cM BR (cM nG (ar ρ 4) (Rs.ok (Tr.int 2))) (Rs.ok (Tr.int 0)))) A) (fun A=>RW ρ A) fun A=>RZ ρ A
structure LS(t:Nat)(A:Ab)(W:List Mk)(bh:Mk->List Mk)(H:Mk->Nat)(S:Nat->List Mk)(hi:Mk->Nat):Prop where
 w:Wd t W bh H
 c:∀i,i<3->Cl W bh (S i)
 own:∀m∈W,∃i,i<3/\m.1=((i:Nat):Int)/\m∈S i
 inc:∀m∈W,∀m'∈W,m.1=m'.1->m.2<m'.2->H m<H m'
 a0:A[0]?=some CW
 a1:A[1]?=some (.lst [aM (ag H (S 0)) bh,aM (ag H (S 1)) bh,aM (ag H (S 2)) bh])
 a2:A[2]?=some (.aI (fD W fun m=>.at (hi m)))
 ah:∀m∈W,2<hi m/\∃l:List Mk,A[hi m]?=some (.lst (l.map tM))/\l.length<=12/\∀b∈l,b∈W/\H b<H m
theorem pj{l:List Mk}{bh:Mk->List Mk}{A:Ab}:gq (.ok (aM l bh)) A=.ok (aM l bh) A:=by
 show(if pG (.tup (l.map (tL bh)))=true then Rz.ok (aM l bh) A else .bad)=_;rw[ab (by rw[pG];exact wD l)]
theorem Vj(T:Nat->Tr){j:Nat}(hj:j<3):ze (.lst [T 0,T 1,T 2]) (.int (j:Int))=.ok (T j):=by
 match j,hj with
 |0,_=>rfl
 |1,_=>rfl
 |2,_=>rfl
theorem QK(T:Nat->Tr){j:Nat}(hj:j<3)(x:Tr):∃n,yI 3 (j:Int)=some n/\[T 0,T 1,T 2].set n x=[if 0=j then x else T 0,if 1=j then x else T 1,if 2=j then x else T 2]:=by
 match j,hj with
 |0,_=>exact⟨0,rfl,rfl⟩
 |1,_=>exact⟨1,rfl,rfl⟩
 |2,_=>exact⟨2,rfl,rfl⟩
section
variable {t:Nat}{A:Ab}{W:List Mk}{bh:Mk->List Mk}{H:Mk->Nat}{S:Nat->List Mk}{hi:Mk->Nat}
theorem Vk{a b c:List Mk}(h:A[1]?=some (.lst [aM a bh,aM b bh,aM c bh])):bf 5 A (.at 1)=.lst [aM a bh,aM b bh,aM c bh]:=by
 rw[bf];simp only[h]
 rfl
theorem yH(h:A[1]?=some (.lst [aM (ag H (S 0)) bh,aM (ag H (S 1)) bh,aM (ag H (S 2)) bh])){ρ:av}{i j:Nat}(hj:j<3)(e1:ar (bq A ρ) 1=.ok (bf 5 A (.at 1)))(e2:ar (bq A ρ) i=.ok (.int (j:Int))):yL i ρ A=.ok (aM (ag H (S j)) bh):=by
 unfold yL;rw[e1,e2,Vk h];exact Vj (fun i=>aM (ag H (S i)) bh) hj
theorem zU{x:Int}{n:Nat}(h:0<=x/\x<(n:Int)):∃j:Nat,j<n/\x=(j:Int):=⟨x.toNat,by omega,by omega⟩
theorem Vl{os:List Mk}(hl:os.length<=100){ρ:av}(h:yL 5 ρ A=.ok (aM os bh)):RV ρ A=.ok (.lst (os.map tM)):=by
 unfold RV;rw[h];show(if(os.map (tL bh)).length<=ik then(lH (gN 0) (fun x=>Rs.ok true) _ (os.map (tL bh)) [.no]).bind fun ys=>Rs.ok (Tr.lst ys)else .bad)=_;rw[ab (by rw[ak];unfold ik;omega),yE (f:=tL bh) (g:=tM) (xs:=[]) os .no fun m _=>rfl]
 rfl
theorem Mb(L:LS t A W bh H S hi)(ht:t<12){j:Nat}(hj:j<3){a0 c4 c6 c7 c8 c9:Cell}{tl:List Cell}:
  ∃A' W' pN H' S' jq d7,RW (a0:: .sh (.at 1):: .sh (.at 2):: .sh (.int (t:Int))::c4:: .sh (.int (j:Int))::c6::c7::c8::c9::tl) A=.ok (.nx (a0:: .sh (.at 1):: .sh (.at 2):: .sh (.int (t:Int))::c4:: .sh (.int (j:Int))::c6::d7::c8::c9::tl)) A'/\LS (t+1) A' W' pN H' S' jq:=by
 obtain⟨m,em⟩:∃m:Mk,m=((j:Int),(t:Int)):=⟨_,rfl⟩;have hm:m.2=(t:Int):=by rw[em]
 have cj:=L.c j hj;have n8:=oB L.w hm;have ne:∀{x:Mk},x∈W->x≠m:=fun h e=>n8 (e▸h);have wl:=L.w.len;have sl:=cj.len L.w;have l1:=a6 L.a1;have l2:=a6 L.a2;have ol:(ag H (S j)).length=(S j).length:=(bw _).length_eq;obtain⟨A1,R0⟩:∃A1,A1=A++[Ao.lst ((ag H (S j)).map tM)]:=⟨_,rfl⟩;have g1:∀i,i<A.length->A1[i]?=A[i]? :=fun i h=>by rw[R0];exact b8 h
 have gn:A1[A.length]?=some (.lst ((ag H (S j)).map tM)):=by rw[R0,dH (aq _),eU];rfl
 obtain⟨jq,WJ⟩:∃jq:Mk->Nat,jq=fun x=>if x=m then A.length else hi x:=⟨_,rfl⟩
 have WK:jq m=A.length:=by rw[WJ];exact ab rfl
 have iT:∀{x:Mk},x∈W->jq x=hi x:=fun h=>by rw[WJ];exact ae (ne h)
 have fd:fD W (fun m=>.at (hi m))=fD W fun m=>.at (jq m):=fO fun x hx=>by show(kM x,Tr.at (hi x))=(kM x,Tr.at (jq x));rw[iT hx]
 have add:gx W m=W++[m]:=ae n8;have d2:jx A1 (.at 2) (tM m) (.at A.length)=some (A1.set 2 (.aI (fD (W++[m]) fun m=>.at (jq m)))):=by
  have h:=wz (A:=A1) (i:=2) (l:=W) (g:=fun m=>.at (jq m)) (b:=m) (t:=.at A.length) (by rw[g1 2 l2,L.a2,fd]) (by omega) (by show Tr.at (jq m)=_;rw[WK]);rw[add]at h;exact h
 obtain⟨A2,Mc⟩:∃A2,A2=A1.set 2 (.aI (fD (W++[m]) fun m=>.at (jq m))):=⟨_,rfl⟩;rw[<-Mc]at d2;have g2:∀i,i≠2->A2[i]?=A1[i]? :=fun i h=>by rw[Mc];exact cg (cv h)
 have Y8:A2[2]?=some (.aI (fD (W++[m]) fun m=>.at (jq m))):=by rw[Mc];exact fk (by rw[R0,aY];omega)
 have b0:A2[0]?=some CW:=by rw[g2 0 (by decide),g1 0 (by omega)];exact L.a0
 have b1:A2[1]?=some (.lst [aM (ag H (S 0)) bh,aM (ag H (S 1)) bh,aM (ag H (S 2)) bh]):=by rw[g2 1 (by decide),g1 1 l1];exact L.a1
 have w':=L7 L.w cj hm;have c':=L8 L.w cj hm;have ZK:=c'.len w';have tg:bt [aM (ag H (S j)) bh,.tup [.tup [tM m,.tup ((ends (ag H (S j)) bh).map tM)]]] A2=.ok (aM (ag (hN H m (1+CV ((S j).map H))) (mE (S j++[m]))) (Jf bh m (ends (ag H (S j)) bh))) A2:=by
  have e:=tY (a:=ag H (S j)) (b:=[m]) (us:=mE (S j++[m])) (A:=A2) (FF (l':=ag H (S j)++[m]) fun x=>by rw[bF,bF,cS]) (c'.bV w' (by omega)) (by omega) (by rw[ol,eY];omega) b0;rw[Bw (l:=ag H (S j)) (bh:=bh) fun x hx=>lz fun e:x=m=>n8 (e▸cj.sub x (cS.mp hx))]at e;rw[<-e];congr 3;show Tr.tup _=Tr.tup [.tup [tM m,tB _ m]];unfold tB;rw[ph]
 generalize WL:Jf bh m (ends (ag H (S j)) bh)=pN at tg w' c';generalize eH:hN H m (1+CV ((S j).map H))=H' at tg w' c';have old:∀i,i<3->aM (ag H' (S i)) pN=aM (ag H (S i)) bh:=fun i h=>by rw[<-WL,<-eH];exact L6 L.w hm (L.c i h)
 obtain⟨n,en,es⟩:=QK (fun i=>aM (ag H (S i)) bh) hj (aM (ag H' (mE (S j++[m]))) pN);obtain⟨S',eS⟩:∃S':Nat->List Mk,S'=fun i=>if i=j then mE (S j++[m])else S i:=⟨_,rfl⟩
 have NP:[aM (ag H (S 0)) bh,aM (ag H (S 1)) bh,aM (ag H (S 2)) bh].set n (aM (ag H' (mE (S j++[m]))) pN)=[aM (ag H' (S' 0)) pN,aM (ag H' (S' 1)) pN,aM (ag H' (S' 2)) pN]:=by
  rw[es,eS,<-old 0 (by decide),<-old 1 (by decide),<-old 2 (by decide)]
  match j,hj with
  |0,_=>rfl
  |1,_=>rfl
  |2,_=>rfl
 have QL:∀{x:Mk},x∈W->H' x=H x:=fun h=>by rw[<-eH];exact ma (ne h)
 have gM:H' m=1+CV ((S j).map H):=by rw[<-eH];exact yG
 have lower:∀x∈S j,H' x<H' m:=fun x hx=>by
  rw[QL (cj.sub x hx),gM];have:H x<=CV ((S j).map H):=Fl (bp.mpr ⟨x,hx,rfl⟩);omega
 have up:∀{x:Mk},x∈W->x∈W++[m]:=fun h=>dU _ h;have mem:∀{x:Mk},x∈W++[m]->x∈W\/x=m:=fun h=>(bF.mp h).imp id cn.mp;have sub:∀i {x:Mk},x∈S i->x∈S' i:=fun i x h=>by
  rw[eS];show x∈if i=j then _ else _
  split
  ·rename_i e;subst e;exact eG.mpr (dU _ h)
  ·exact h
 refine⟨A2.set 1 (.lst [aM (ag H' (S' 0)) pN,aM (ag H' (S' 1)) pN,aM (ag H' (S' 2)) pN]),W++[m],pN,H',S',jq,.sh (tM m),?_,⟨w',fun i h=>?_,fun x hx=>?_,fun x hx y hy e1 e2=>?_,?_,?_,?_,fun x hx=>?_⟩⟩
 ·unfold RW;have e0:jk (aF (ar (a0:: .sh (.at 1):: .sh (.at 2):: .sh (.int (t:Int))::c4:: .sh (.int (j:Int))::c6::c7::c8::c9::tl) 5) (aF (ar (a0:: .sh (.at 1):: .sh (.at 2):: .sh (.int (t:Int))::c4:: .sh (.int (j:Int))::c6::c7::c8::c9::tl) 3) (Rs.ok [])))=.ok (tM m):=by rw[em];rfl
  rw[e0,eX,dB];show bu (uX (gr (RV (a0:: .sh (.at 1):: .sh (.at 2):: .sh (.int (t:Int))::c4:: .sh (.int (j:Int))::c6:: .sh (tM m)::c8::c9::tl) A) A) (fun A=>Rz.ok (Tr.at 2) A) (fun A=>Rz.ok (tM m) A) (a0:: .sh (.at 1):: .sh (.at 2):: .sh (.int (t:Int))::c4:: .sh (.int (j:Int))::c6:: .sh (tM m)::c8::c9::tl)) _=_;rw[Vl (os:=ag H (S j)) (bh:=bh) (by omega) (yH L.a1 hj rfl rfl)];have Y9:gr (Rs.ok (Tr.lst ((ag H (S j)).map tM))) A=.ok (.at A.length) A1:=by
   show(if gJ ((ag H (S j)).map tM)=true then Rz.ok (Tr.at A.length) (A++[Ao.lst ((ag H (S j)).map tM)])else .bad)=_;rw[ab (fT _),R0]
  rw[Y9];show bu (match jx A1 (.at 2) (tM m) (.at A.length)with
   |some A'=>Rz.ok (Out.nx _) A'
   |none=>Rz.bad) _=_
  rw[d2];show yu ((bH (gq (yL 5 (a0:: .sh (.at 1):: .sh (.at 2):: .sh (.int (t:Int))::c4:: .sh (.int (j:Int))::c6:: .sh (tM m)::c8::c9::tl) A2) A2) fun A=>bH (gq (MT (a0:: .sh (.at 1):: .sh (.at 2):: .sh (.int (t:Int))::c4:: .sh (.int (j:Int))::c6:: .sh (tM m)::c8::c9::tl) A) A) fun A=>Rz.ok [] A).bind bt) _ _ _=_;have h5:yL 5 (a0:: .sh (.at 1):: .sh (.at 2):: .sh (.int (t:Int))::c4:: .sh (.int (j:Int))::c6:: .sh (tM m)::c8::c9::tl) A2=.ok (aM (ag H (S j)) bh):=yH b1 hj rfl rfl;have nw:gq (MT (a0:: .sh (.at 1):: .sh (.at 2):: .sh (.int (t:Int))::c4:: .sh (.int (j:Int))::c6:: .sh (tM m)::c8::c9::tl) A2) A2=.ok (.tup [.tup [tM m,.tup ((ends (ag H (S j)) bh).map tM)]]) A2:=by
   unfold MT;rw[h5];show gq (jk (aF (jk (aF (.ok (tM m)) (aF (oj [aM (ag H (S j)) bh]) (Rs.ok [])))) (Rs.ok []))) A2=_;rw[L3 ((bw _).nodup_iff.mpr cj.nd) (by omega) fun x hx=>by have:=L.w.wq x (cj.sub x (cS.mp hx));omega];show(if pG (.tup [.tup [tM m,.tup ((ends (ag H (S j)) bh).map tM)]])=true then Rz.ok _ A2 else .bad)=_;rw[ab];show((true&&(gJ ((ends (ag H (S j)) bh).map tM)&&true))&&true)=true;rw[fT];rfl
  have q:((bH (gq (yL 5 (a0:: .sh (.at 1):: .sh (.at 2):: .sh (.int (t:Int))::c4:: .sh (.int (j:Int))::c6:: .sh (tM m)::c8::c9::tl) A2) A2) fun A=>bH (gq (MT (a0:: .sh (.at 1):: .sh (.at 2):: .sh (.int (t:Int))::c4:: .sh (.int (j:Int))::c6:: .sh (tM m)::c8::c9::tl) A) A) fun A=>Rz.ok [] A).bind bt)=.ok (aM (ag H' (mE (S j++[m]))) pN) A2:=by
   rw[h5,pj];show((bH (gq (MT (a0:: .sh (.at 1):: .sh (.at 2):: .sh (.int (t:Int))::c4:: .sh (.int (j:Int))::c6:: .sh (tM m)::c8::c9::tl) A2) A2) fun A=>Rz.ok [] A).bind fun ts A=>Rz.ok (aM (ag H (S j)) bh::ts) A).bind bt=_;rw[nw];exact tg
  rw[q];show(match A2[1]? with
   |some (.lst us)=>match yI us.length (j:Int)with
    |some n=>Rz.ok (Out.nx _) (A2.set 1 (.lst (us.set n _)))
    |none=>.bad
   |_=>.bad)=_
  rw[b1];show(match yI 3 (j:Int)with
    |some n=>Rz.ok (Out.nx _) (A2.set 1 (.lst ([aM (ag H (S 0)) bh,aM (ag H (S 1)) bh,aM (ag H (S 2)) bh].set n _)))
    |none=>Rz.bad)=_
  rw[en];show Rz.ok (Out.nx _) (A2.set 1 (.lst ([aM (ag H (S 0)) bh,aM (ag H (S 1)) bh,aM (ag H (S 2)) bh].set n _)))=_;rw[NP]
 ·rw[eS];show Cl _ _ (if i=j then _ else _);split
  ·exact c'
  ·rw[<-WL];exact L5 L.w hm (L.c i h)
 ·rcases mem hx with h|rfl
  ·obtain⟨i,h1,h2,h3⟩:=L.own x h;exact⟨i,h1,h2,sub i h3⟩
  ·exact⟨j,hj,by rw[em],by rw[eS];show x∈if j=j then _ else _;rw[ab rfl];exact eG.mpr (dS _ (cn.mpr rfl))⟩
 ·rcases mem hx with h|rfl
  ·rcases mem hy with h'|rfl
   ·rw[QL h,QL h'];exact L.inc x h y h' e1 e2
   ·obtain⟨i,h1,h2,h3⟩:=L.own x h;have:i=j:=by rw[em]at e1;have e1:x.1=(j:Int):=e1;omega
    subst this;exact lower x h3
  ·rcases mem hy with h'|rfl
   ·have:=(L.w.RU y h').2;omega
   ·omega
 ·rw[cg (by decide)];exact b0
 ·exact fk (a6 b1)
 ·rw[cg (by decide)];exact Y8
 ·have lift:∀{i:Nat} {o:Ao},2<i->A1[i]?=some o->(A2.set 1 (.lst [aM (ag H' (S' 0)) pN,aM (ag H' (S' 1)) pN,aM (ag H' (S' 2)) pN]))[i]?=some o:=fun{i o} h e=>by
   rw[cg (by omega),g2 i (by omega)];exact e
  rcases mem hx with h|rfl
  ·obtain⟨h1,l,h2,hl,h3⟩:=L.ah x h;rw[iT h];refine⟨h1,l,lift h1 (by rw[g1 _ (a6 h2)];exact h2),hl,fun b hb=>?_⟩;obtain⟨p1,p2⟩:=h3 b hb;exact⟨up p1,by rw[QL p1,QL h];exact p2⟩
  ·rw[WK];exact⟨by omega,_,lift (by omega) gn,by omega,fun b hb=>⟨up (cj.sub b (cS.mp hb)),lower b (cS.mp hb)⟩⟩
end
end ir
namespace ir
open PySem L2
theorem QM{t:Nat}{W:List Mk}{bh:Mk->List Mk}{H:Mk->Nat}(w:Wd t W bh H):Wd (t+1) W bh H:=
 ⟨w.nd,by have:=w.len;omega,fun m hm=>by have:=w.RU m hm;omega,w.LK,fun m hm=>by have:=w.wq m hm;omega,w.pos,w.sub,w.ex,fun m hm=>by have:=w.top m hm;omega⟩
theorem FH{ts:List Tr}{n:Nat}(h:n<=ts.length):zp (.tup ts) none (some (n:Int))=.ok (.tup (ts.take n)):=by
 show Rs.ok (Tr.tup ((ts.drop 0).take (HT.fb ts.length ts.length (some (n:Int)) - 0)))=_;rw[HT.Ga,Nat.min_eq_left h]
 rfl
section
variable {t:Nat}{A:Ab}{W:List Mk}{bh:Mk->List Mk}{H:Mk->Nat}{S:Nat->List Mk}{hi:Mk->Nat}
theorem Bx(w:Wd t W bh H)(ht:t<=12)(c:∀i,i<3->Cl W bh (S i)){k:Nat}(hk:k<3):∀(ms:List Mk) (d:Cell) (A:Ab),(∀m∈ms,m∈S k)->A[0]?=some CW->A[1]?=some (.lst [aM (ag H (S 0)) bh,aM (ag H (S 1)) bh,aM (ag H (S 2)) bh])->
  ∃A',FV (gN 0) L_ (ms.map tM) [d,.sh (.at 1),.sh (.int (k:Int))] A=.ok (.lst []) A'/\∀i,i<A.length->A'[i]?=A[i]?
 |[],d,A,_,_,_=>⟨A,rfl,fun _ _=>rfl⟩
 |m::ms,d,A,hm,h0,h1=>by
  obtain⟨A1,e1,p1⟩:=FG (c k hk) w ht h0;have RH:=a6 h1;have ec:L_ [.sh (tM m),.sh (.at 1),.sh (.int (k:Int))] A=.ok false A1:=by
   unfold L_;show iP ((l_ ((bH (gq (cM ze (.ok (bf 5 A (.at 1))) (.ok (.int (k:Int)))) A) fun A=>Rz.ok [] A).bind eD)).bind fun y A=>gq (my (tM m) (bf 1 A y)) A)=_;rw[Vk h1];show iP ((l_ ((bH (gq (ze (.lst [aM (ag H (S 0)) bh,aM (ag H (S 1)) bh,aM (ag H (S 2)) bh]) (.int (k:Int))) A) fun A=>Rz.ok [] A).bind eD)).bind fun y A=>gq (my (tM m) (bf 1 A y)) A)=_;rw[Vj (fun i=>aM (ag H (S i)) bh) hk,pj];show iP ((l_ (eD [aM (ag H (S k)) bh] A)).bind fun y A=>gq (my (tM m) (bf 1 A y)) A)=_;rw[e1];show iP (gq (my (tM m) (.tup ((ag H (S k)).map tM))) A1)=_;rw[HS,bj (cS.mpr (hm m (aP ..)))]
   rfl
  obtain⟨A',e2,p2⟩:=Bx w ht c hk ms (.sh (tM m)) A1 (fun x hx=>hm x (aO _ hx)) (by rw[p1 0 (by omega)];exact h0) (by rw[p1 1 RH];exact h1);refine⟨A',?_,fun i hi=>?_⟩
  ·rw[aC,FV];show(match L_ [.sh (tM m),.sh (.at 1),.sh (.int (k:Int))] A with
    |.ok false A=>FV (gN 0) L_ (ms.map tM) [.sh (tM m),.sh (.at 1),.sh (.int (k:Int))] A
    |_=>Rz.bad)=_
   rw[ec];exact e2
  ·have:i<A1.length:=by
    have h:A1[i]?=some A[i]:=by rw[p1 i hi,ay hi]
    exact a6 h
   rw[p2 i this,p1 i hi]
theorem Md(L:LS t A W bh H S hi)(ht:t<12){j k:Nat}(hj:j<3)(hk:k<3){x:Int}{a0 c7 c8 c9:Cell}{tl:List Cell}:
  ∃A' S' d8 d9,RZ (a0:: .sh (.at 1):: .sh (.at 2):: .sh (.int (t:Int)):: .sh (.int x):: .sh (.int (j:Int)):: .sh (.int (k:Int))::c7::c8::c9::tl) A=.ok (.nx (a0:: .sh (.at 1):: .sh (.at 2):: .sh (.int (t:Int)):: .sh (.int x):: .sh (.int (j:Int)):: .sh (.int (k:Int))::c7::d8::d9::tl)) A'/\LS (t+1) A' W bh H S' hi:=by
 have cj:=L.c j hj;have ck:=L.c k hk;have l1:=a6 L.a1;have l2:=a6 L.a2;obtain⟨A1,e1,p1⟩:=FG ck L.w (by omega) L.a0;have b0:A1[0]?=some CW:=by rw[p1 0 (by omega)];exact L.a0
 have b1:A1[1]?=some (.lst [aM (ag H (S 0)) bh,aM (ag H (S 1)) bh,aM (ag H (S 2)) bh]):=by rw[p1 1 l1];exact L.a1
 have mi:=zR (c:=x) (p:=9473) (m:=(((ag H (S j)).length:Nat):Int)+1) (by omega);obtain⟨n,hn,en⟩:=zU (n:=(ag H (S j)).length+1) ⟨mi.1,by omega⟩;have hn:n<=(ag H (S j)).length:=by omega
 have gp:RX (a0:: .sh (.at 1):: .sh (.at 2):: .sh (.int (t:Int)):: .sh (.int x):: .sh (.int (j:Int)):: .sh (.int (k:Int))::c7:: .sh (.tup ((ag H (S k)).map tM))::c9::tl) A1=.ok (aM ((ag H (S j)).take n) bh):=by
  unfold RX;rw[yH b1 hj rfl rfl];show(Og (ba iI (aF (.ok (.int x)) (aF (Rs.ok (Tr.int 9473)) (aF (Rs.ok (Tr.int ((((ag H (S j)).map (tL bh)).length:Nat)+1))) (Rs.ok [])))))).bind (fun h=>zp (aM (ag H (S j)) bh) none h)=_;rw[ak];show(Og (iI [.int x,.int 9473,.int (((ag H (S j)).length:Nat)+1)])).bind (fun h=>zp (aM (ag H (S j)) bh) none h)=_;rw[Fj _ _ _ (by decide) (by decide) (by omega),en];show zp (.tup ((ag H (S j)).map (tL bh))) none (some (n:Int))=_;rw[FH (by rw[ak];exact hn),<-List.map_take]
  rfl
 have ct:=cj.take L.w n;obtain⟨P,pP,rv⟩:∃P:List Mk,P.Perm ((ag H (S j)).take n)/\RY (a0:: .sh (.at 1):: .sh (.at 2):: .sh (.int (t:Int)):: .sh (.int x):: .sh (.int (j:Int)):: .sh (.int (k:Int))::c7:: .sh (.tup ((ag H (S k)).map tM)):: .sh (aM ((ag H (S j)).take n) bh)::tl) A1=.ok (.nx (a0:: .sh (.at 1):: .sh (.at 2):: .sh (.int (t:Int)):: .sh (.int x):: .sh (.int (j:Int)):: .sh (.int (k:Int))::c7:: .sh (.tup ((ag H (S k)).map tM)):: .sh (aM P bh)::tl)) A1:=by
  unfold RY;have e3:iL (cM BR (cM nG (ar (a0:: .sh (.at 1):: .sh (.at 2):: .sh (.int (t:Int)):: .sh (.int x):: .sh (.int (j:Int)):: .sh (.int (k:Int))::c7:: .sh (.tup ((ag H (S k)).map tM)):: .sh (aM ((ag H (S j)).take n) bh)::tl) 4) (Rs.ok (Tr.int 3))) (Rs.ok (Tr.int 0)))=.ok (x % 3==0):=rfl;rw[e3];cases z:x % 3==0 with
  |false=>exact⟨_,.refl _,rfl⟩
  |true=>
   refine⟨((ag H (S j)).take n).reverse,List.reverse_perm _,?_⟩;show cK 9 (aj (.ok (.tup ((((ag H (S j)).take n).map (tL bh)).reverse))) A1) _=_;rw[<-List.map_reverse]
   rfl
 have tg:=yF ck ct L.w (by omega) b0 (a:=ag H (S k)) (b:=P) (bw _) pP;have cc:=ck.mE ct;generalize hU:mE (S k++(ag H (S j)).take n)=U at tg cc;have WM:∀{m:Mk},m∈S k->m∈U:=fun h=>by rw[<-hU];exact eG.mpr (dU _ h)
 obtain⟨q,eq,es⟩:=QK (fun i=>aM (ag H (S i)) bh) hk (aM (ag H U) bh);obtain⟨S',eS⟩:∃S':Nat->List Mk,S'=fun i=>if i=k then U else S i:=⟨_,rfl⟩
 have Y_:S' k=U:=by rw[eS];exact ab rfl
 have NP:[aM (ag H (S 0)) bh,aM (ag H (S 1)) bh,aM (ag H (S 2)) bh].set q (aM (ag H U) bh)=[aM (ag H (S' 0)) bh,aM (ag H (S' 1)) bh,aM (ag H (S' 2)) bh]:=by
  rw[es,eS]
  match k,hk with
  |0,_=>rfl
  |1,_=>rfl
  |2,_=>rfl
 have c':∀i,i<3->Cl W bh (S' i):=fun i h=>by
  rw[eS];show Cl _ _ (if i=k then _ else _);split
  ·exact cc
  ·exact L.c i h
 obtain⟨A2,Mc⟩:∃A2,A2=A1.set 1 (.lst [aM (ag H (S' 0)) bh,aM (ag H (S' 1)) bh,aM (ag H (S' 2)) bh]):=⟨_,rfl⟩;have g2:∀i,i≠1->A2[i]?=A1[i]? :=fun i h=>by rw[Mc];exact cg (cv h)
 have d0:A2[0]?=some CW:=by rw[g2 0 (by decide)];exact b0
 have d1:A2[1]?=some (.lst [aM (ag H (S' 0)) bh,aM (ag H (S' 1)) bh,aM (ag H (S' 2)) bh]):=by rw[Mc];exact fk (a6 b1)
 obtain⟨A3,e5,p3⟩:=Bx L.w (by omega) c' hk (ag H (S k)) .no A2 (fun m hm=>by rw[Y_];exact WM (cS.mp hm)) d0 d1;have keep:∀{i:Nat} {o:Ao},i≠1->A[i]?=some o->A3[i]?=some o:=fun{i o} h e=>by
  have e1:A1[i]?=some o:=by rw[p1 i (a6 e)];exact e
  have e2:A2[i]?=some o:=by rw[g2 i h];exact e1
  rw[p3 i (a6 e2)];exact e2
 refine⟨A3,S',.sh (.tup ((ag H (S k)).map tM)),.sh (aM P bh),?_,⟨QM L.w,c',fun m hm=>?_,L.inc,keep (by decide) L.a0,?_,keep (by decide) L.a2,fun m hm=>?_⟩⟩
 ·unfold RZ;have h6:yL 6 (a0:: .sh (.at 1):: .sh (.at 2):: .sh (.int (t:Int)):: .sh (.int x):: .sh (.int (j:Int)):: .sh (.int (k:Int))::c7::c8::c9::tl) A=.ok (aM (ag H (S k)) bh):=yH L.a1 hk rfl rfl;have q1:((bH (gq (yL 6 (a0:: .sh (.at 1):: .sh (.at 2):: .sh (.int (t:Int)):: .sh (.int x):: .sh (.int (j:Int)):: .sh (.int (k:Int))::c7::c8::c9::tl) A) A) fun A=>Rz.ok [] A).bind eD)=.ok (.tup ((ag H (S k)).map tM)) A1:=by
   rw[h6,pj];exact e1
  rw[q1,dB];show bu (cK 9 (gq (RX (a0:: .sh (.at 1):: .sh (.at 2):: .sh (.int (t:Int)):: .sh (.int x):: .sh (.int (j:Int)):: .sh (.int (k:Int))::c7:: .sh (.tup ((ag H (S k)).map tM))::c9::tl) A1) A1) (a0:: .sh (.at 1):: .sh (.at 2):: .sh (.int (t:Int)):: .sh (.int x):: .sh (.int (j:Int)):: .sh (.int (k:Int))::c7:: .sh (.tup ((ag H (S k)).map tM))::c9::tl)) _=_;rw[gp,pj,dB];show bu (RY (a0:: .sh (.at 1):: .sh (.at 2):: .sh (.int (t:Int)):: .sh (.int x):: .sh (.int (j:Int)):: .sh (.int (k:Int))::c7:: .sh (.tup ((ag H (S k)).map tM)):: .sh (aM ((ag H (S j)).take n) bh)::tl) A1) _=_;rw[rv,t6];have h7:yL 6 (a0:: .sh (.at 1):: .sh (.at 2):: .sh (.int (t:Int)):: .sh (.int x):: .sh (.int (j:Int)):: .sh (.int (k:Int))::c7:: .sh (.tup ((ag H (S k)).map tM)):: .sh (aM P bh)::tl) A1=.ok (aM (ag H (S k)) bh):=yH b1 hk rfl rfl;rw[h7,pj];show bu (yu (bt [aM (ag H (S k)) bh,aM P bh] A1) _ _ _) _=_;rw[tg];show bu (match A1[1]? with
   |some (Ao.lst us)=>match yI us.length (k:Int)with
    |some n=>Rz.ok (Out.nx _) (A1.set 1 (Ao.lst (us.set n _)))
    |none=>Rz.bad
   |_=>Rz.bad) _=_
  rw[b1];show bu (match yI 3 (k:Int)with
    |some n=>Rz.ok (Out.nx _) (A1.set 1 (Ao.lst ([aM (ag H (S 0)) bh,aM (ag H (S 1)) bh,aM (ag H (S 2)) bh].set n _)))
    |none=>Rz.bad) _=_
  rw[eq];show bu (Rz.ok (Out.nx _) (A1.set 1 (Ao.lst ([aM (ag H (S 0)) bh,aM (ag H (S 1)) bh,aM (ag H (S 2)) bh].set q _)))) _=_;rw[NP,<-Mc,t6];show fin _ (Ca (FV (gN 0) L_ ((ag H (S k)).map tM) [.no,.sh (.at 1),.sh (.int (k:Int))] A2))=_;rw[e5]
  rfl
 ·obtain⟨i,h1,h2,h3⟩:=L.own m hm;refine⟨i,h1,h2,?_⟩;rw[eS];show m∈if i=k then _ else _
  split
  ·rename_i e;subst e;exact WM h3
  ·exact h3
 ·rw[p3 1 (a6 d1)];exact d1
 ·obtain⟨h1,l,h2,h3⟩:=L.ah m hm;exact⟨h1,l,keep (by omega) h2,h3⟩
theorem HV(ns:List Int)(L:LS t A W bh H S hi)(ht:t<12){c4 c5 c6 c7 c8 c9:Cell}{tl:List Cell}:
  ∃A' W' pN H' S' jq d4 d5 d6 d7 d8 d9,Ma (.sh (.jz ns):: .sh (.at 1):: .sh (.at 2):: .sh (.int (t:Int))::c4::c5::c6::c7::c8::c9::tl) A=.ok (.nx (.sh (.jz ns):: .sh (.at 1):: .sh (.at 2):: .sh (.int (t:Int))::d4::d5::d6::d7::d8::d9::tl)) A'/\LS (t+1) A' W' pN H' S' jq:=by
 obtain⟨x0,ex⟩:=LP ns ((t:Int) % 10) (by omega);have e4:WI (.sh (.jz ns):: .sh (.at 1):: .sh (.at 2):: .sh (.int (t:Int))::c4::c5::c6::c7::c8::c9::tl)=.ok (.int (x0+43*(t:Int))):=by
  show cM xy (og [.jz ns,.int ((t:Int) % 10)]) (ui (.int 43) (.int (t:Int)))=_;rw[ex,LO (by unfold pC;simp)]
  rfl
 generalize x0+43*(t:Int)=x at e4;obtain⟨j,hj,ej⟩:=zU (n:=3) (zR (c:=x) (p:=9491) (m:=3) (by decide));obtain⟨k,hk,ek⟩:=zU (n:=3) (zR (c:=x) (p:=9479) (m:=3) (by decide));have e5:MS 9491 (.sh (.jz ns):: .sh (.at 1):: .sh (.at 2):: .sh (.int (t:Int)):: .sh (.int x)::c5::c6::c7::c8::c9::tl)=.ok (.int (j:Int)):=by
  show iI [.int x,.int 9491,.int 3]=_;rw[Fj _ _ _ (by decide) (by decide) (by decide),ej]
 have e6:MS 9479 (.sh (.jz ns):: .sh (.at 1):: .sh (.at 2):: .sh (.int (t:Int)):: .sh (.int x):: .sh (.int (j:Int))::c6::c7::c8::c9::tl)=.ok (.int (k:Int)):=by
  show iI [.int x,.int 9479,.int 3]=_;rw[Fj _ _ _ (by decide) (by decide) (by decide),ek]
 have eT:Ma (.sh (.jz ns):: .sh (.at 1):: .sh (.at 2):: .sh (.int (t:Int))::c4::c5::c6::c7::c8::c9::tl) A=uT (aj (.ok (x % 2==0)) A) (fun A=>RW (.sh (.jz ns):: .sh (.at 1):: .sh (.at 2):: .sh (.int (t:Int)):: .sh (.int x):: .sh (.int (j:Int)):: .sh (.int (k:Int))::c7::c8::c9::tl) A) fun A=>RZ (.sh (.jz ns):: .sh (.at 1):: .sh (.at 2):: .sh (.int (t:Int)):: .sh (.int x):: .sh (.int (j:Int)):: .sh (.int (k:Int))::c7::c8::c9::tl) A:=by
  unfold Ma;rw[e4,eX,dB];show bu (cK 5 (aj (MS 9491 (.sh (.jz ns):: .sh (.at 1):: .sh (.at 2):: .sh (.int (t:Int)):: .sh (.int x)::c5::c6::c7::c8::c9::tl)) A) (.sh (.jz ns):: .sh (.at 1):: .sh (.at 2):: .sh (.int (t:Int)):: .sh (.int x)::c5::c6::c7::c8::c9::tl)) _=_;rw[e5,eX,dB];show bu (cK 6 (aj (MS 9479 (.sh (.jz ns):: .sh (.at 1):: .sh (.at 2):: .sh (.int (t:Int)):: .sh (.int x):: .sh (.int (j:Int))::c6::c7::c8::c9::tl)) A) (.sh (.jz ns):: .sh (.at 1):: .sh (.at 2):: .sh (.int (t:Int)):: .sh (.int x):: .sh (.int (j:Int))::c6::c7::c8::c9::tl)) _=_;rw[e6,eX,dB]
  rfl
 rw[eT];cases z:x % 2==0 with
 |true=>
  obtain⟨A',W',pN,H',S',jq,d7,e,L'⟩:=Mb L ht hj (a0:=.sh (.jz ns)) (c4:=.sh (.int x)) (c6:=.sh (.int (k:Int))) (c7:=c7) (c8:=c8) (c9:=c9) (tl:=tl);exact⟨A',W',pN,H',S',jq,_,_,_,d7,c8,c9,e,L'⟩
 |false=>
  obtain⟨A',S',d8,d9,e,L'⟩:=Md L ht hj hk (x:=x) (a0:=.sh (.jz ns)) (c7:=c7) (c8:=c8) (c9:=c9) (tl:=tl);exact⟨A',W,bh,H,S',hi,_,_,_,c7,d8,d9,e,L'⟩
end
theorem By(ns:List Int){tl:List Cell}:∀(n t:Nat) (A:Ab) (W:List Mk) (bh:Mk->List Mk) (H:Mk->Nat) (S:Nat->List Mk) (hi:Mk->Nat) (c3 c4 c5 c6 c7 c8 c9:Cell),t+n=12->LS t A W bh H S hi->
  ∃A' W' pN H' S' jq d3 d4 d5 d6 d7 d8 d9,fz (gN 3) Ma ((List.range' t n).map fun(i:Nat)=>Tr.int (i:Int)) (.sh (.jz ns):: .sh (.at 1):: .sh (.at 2)::c3::c4::c5::c6::c7::c8::c9::tl) A=.ok (.nx (.sh (.jz ns):: .sh (.at 1):: .sh (.at 2)::d3::d4::d5::d6::d7::d8::d9::tl)) A'/\LS 12 A' W' pN H' S' jq
 |0,t,A,W,bh,H,S,hi,c3,c4,c5,c6,c7,c8,c9,ht,L=>by
  have:t=12:=by omega
  subst this;exact⟨A,W,bh,H,S,hi,c3,c4,c5,c6,c7,c8,c9,rfl,L⟩
 |n+1,t,A,W,bh,H,S,hi,c3,c4,c5,c6,c7,c8,c9,ht,L=>by
  obtain⟨A1,W1,Y',H1,S1,Pz,d4,d5,d6,d7,d8,d9,e1,L1⟩:=HV ns L (by omega) (c4:=c4) (c5:=c5) (c6:=c6) (c7:=c7) (c8:=c8) (c9:=c9) (tl:=tl);obtain⟨A2,W2,Za,H2,S2,La,f3,f4,f5,f6,f7,f8,f9,e2,L2⟩:=By ns n (t+1) A1 W1 Y' H1 S1 Pz (.sh (.int (t:Int))) d4 d5 d6 d7 d8 d9 (by omega) L1;refine⟨A2,W2,Za,H2,S2,La,f3,f4,f5,f6,f7,f8,f9,?_,L2⟩;rw[rH,aC,qa (ρ1:=.sh (.jz ns):: .sh (.at 1):: .sh (.at 2):: .sh (.int (t:Int))::c4::c5::c6::c7::c8::c9::tl) rfl e1];exact e2
end ir
namespace ir
open PySem L2
theorem Me{P:Mk->Bool}{f g:Mk->Tr}{Q:av->Rs Bool}{F:av->Rs Tr}{xs:List Cell}:∀(ms:List Mk) (c:Cell),(∀m∈ms,Q (.sh (f m)::xs)=.ok (P m))->(∀m∈ms,P m=true->F (.sh (f m)::xs)=.ok (g m))->lH (gN 0) Q F (ms.map f) (c::xs)=.ok ((ms.filter P).map g)
 |[],c,_,_=>rfl
 |m::ms,c,hQ,hF=>by
  have ih:=Me (P:=P) (f:=f) (g:=g) (Q:=Q) (F:=F) (xs:=xs) ms (.sh (f m)) (fun x hx=>hQ x (aO _ hx)) (fun x hx=>hF x (aO _ hx));rw[aC,lH];show(DK (Q (.sh (f m)::xs))).bind _=_;rw[hQ m (aP ..)];cases p:P m with
  |true=>
   show(DK (F (.sh (f m)::xs))).bind _=_;rw[hF m (aP ..) p];show(lH (gN 0) Q F (ms.map f) (.sh (f m)::xs)).bind _=_;rw[ih,dJ,p]
   rfl
  |false=>
   show lH (gN 0) Q F (ms.map f) (.sh (f m)::xs)=_;rw[ih,dJ,p]
   rfl
def CY(n:Int)(ρ:av)(A:Ab):Rs Tr:=cM ze (ar (bq A ρ) 1) (Rs.ok (Tr.int n))
def Vm(ρ:av)(A:Ab):Rz Tr:=(bH ((bH (gq (CY 0 ρ A) A) fun A=>bH (gq (CY 1 ρ A) A) fun A=>Rz.ok [] A).bind bt) fun A=>bH (gq (CY 2 ρ A) A) fun A=>Rz.ok [] A).bind bt
def Mf:av->Ab->Rz Bool:=fun ρ A=>FU (iP (j4 j5 (l_ ((bH (aj (ar ρ 1) A) fun A=>bH (aj (ar ρ 0) A) fun A=>Rz.ok [] A).bind bt)) fun A=>aj (ar ρ 1) A)) fun A=>iP (j4 j5 (l_ ((bH (aj (ar ρ 0) A) fun A=>bH (aj (ar ρ 1) A) fun A=>Rz.ok [] A).bind bt)) fun A=>aj (ar ρ 1) A)
def Zb(ρ:av)(A:Ab):Rz Tr:=(bH (aj (ar ρ 10) A) fun A=>Rz.ok [] A).bind iH
def QN(ρ:av):Rs Tr:=ij [none] (gN 0) (fun x=>Rs.ok true) (fun ρ=>cM ze (ar ρ 0) (Rs.ok (Tr.int 0))) (il (ar ρ 10)) ρ
def R1(ρ:av)(A:Ab):Rz Bool:=FU (aj (iL (cM j5 (ba fL (aF (ar ρ 10) (Rs.ok []))) (jk (Rs.ok [])))) A) fun A=>FU (iP (j4 j5 ((bH (aj (ar ρ 10) A) fun A=>Rz.ok [] A).bind eD) fun A=>aj (ar ρ 11) A)) fun A=>aj (iL (cM j5 (ba cX (aF (QN ρ) (Rs.ok []))) (ar ρ 11))) A
def Vn(ρ:av)(A:Ab):Rs Tr:=ij [none,some 11,some 7] (gN 0) (fun ρ=>iL (cM ME (E5 (ar ρ 1) (ar ρ 0)) (E5 (ar ρ 1) (ar ρ 2)))) (fun ρ=>ar ρ 0) (il (cM oD (ar (bq A ρ) 2) (ar (bq A ρ) 7))) (bq A ρ)
def QP:av->Ab->Rz Out:=fun ρ A=>fin ρ (aj ((Vn ρ A).bind pT) A)
def Vo(ρ:av):Rs Tr:=ij [none,some 12] (gN 0) (fun ρ=>iL (cM BR (cM ze (ar ρ 0) (Rs.ok (Tr.int 0))) (ar ρ 1))) (fun ρ=>ar ρ 0) (il (ar ρ 11)) ρ
def R3:av->Ab->Rz Out:=fun ρ A=>bu (cK 13 (aj (Vo ρ) A) ρ) fun ρ A=>fin ρ (aj (iL (cM j5 (ar ρ 13) (ba fA (aF (ar ρ 13) (Rs.ok []))))) A)
def CL:av->Ab->Rz Out:=fun ρ A=>bu (cK 10 (Vm ρ A) ρ) fun ρ A=>bu (fin ρ (Ca (ve [none,some 10] (gN 0) Mf 10 (aj (ar ρ 1) A) ρ))) fun ρ A=>bu (cK 11 (Zb ρ A) ρ) fun ρ A=>bu (fin ρ (R1 ρ A)) fun ρ A=>bu (gz (gN 7) QP (aj (il (ar ρ 11)) A) ρ) fun ρ A=>bu (gz (gN 12) R3 (aj (Aj (aF (Rs.ok (Tr.int 3)) (Rs.ok []))) A) ρ) fun ρ A=>gs (aj (Rs.ok (Tr.bl true)) A)
def Zc:av->Ab->Rz Out:=fun ρ A=>bu (cK 1 (gr (DH (aF (jk (Rs.ok [])) (aF (jk (Rs.ok [])) (aF (jk (Rs.ok [])) (Rs.ok []))))) A) ρ) fun ρ A=>bu (cK 2 (gr (Rs.ok (Tr.aI [])) A) ρ) fun ρ A=>bu (gz (gN 3) Ma (aj (Aj (aF (Rs.ok (Tr.int 12)) (Rs.ok []))) A) ρ) CL
theorem Mg:A_.1=Zc:=rfl
theorem QQ{l:List Mk}{bh:Mk->List Mk}{A:Ab}{f:Ab->Rz Tr}(h:f A=.ok (aM l bh) A):iP (j4 j5 (.ok (aM l bh) A) f)=.ok false A:=by
 unfold j4;rw[lP,h,lP];show iP (gq (j5 (aM l bh) (aM l bh)) A)=_;rw[ne_self]
 rfl
theorem Vp{l:List Mk}{A:Ab}{f:Ab->Rz Tr}(h:f A=.ok (.tup (l.map tM)) A):iP (j4 j5 (.ok (.tup (l.map tM)) A) f)=.ok false A:=by
 unfold j4;rw[lP,h,lP];show iP (gq (j5 (.tup (l.map tM)) (.tup (l.map tM))) A)=_;rw[Fo]
 rfl
section
variable {A:Ab}{W:List Mk}{bh:Mk->List Mk}{H:Mk->Nat}{S:Nat->List Mk}{hi:Mk->Nat}{U:List Mk}
theorem zV(h:A[1]?=some (.lst [aM (ag H (S 0)) bh,aM (ag H (S 1)) bh,aM (ag H (S 2)) bh])){ρ:av}{j:Nat}(hj:j<3)(e1:ar (bq A ρ) 1=.ok (bf 5 A (.at 1))):gq (CY (j:Int) ρ A) A=.ok (aM (ag H (S j)) bh) A:=by
 unfold CY;rw[e1,Vk h];show gq (ze (.lst [aM (ag H (S 0)) bh,aM (ag H (S 1)) bh,aM (ag H (S 2)) bh]) (.int (j:Int))) A=_;rw[Vj (fun i=>aM (ag H (S i)) bh) hj,pj]
theorem Mh(L:LS 12 A W bh H S hi){ρ:av}(e1:ar (bq A ρ) 1=.ok (bf 5 A (.at 1))):Vm ρ A=.ok (aM (ag H (mE (mE (S 0++S 1)++S 2))) bh) A:=by
 have c0:=L.c 0 (by decide);have c1:=L.c 1 (by decide);have c2:=L.c 2 (by decide);have t1:=yF c0 c1 L.w (by decide) L.a0 (a:=ag H (S 0)) (b:=ag H (S 1)) (bw _) (bw _);have t2:=yF (c0.mE c1) c2 L.w (by decide) L.a0 (a:=ag H (mE (S 0++S 1))) (b:=ag H (S 2)) (bw _) (bw _);have h0:gq (CY 0 ρ A) A=.ok (aM (ag H (S 0)) bh) A:=zV L.a1 (j:=0) (by decide) e1;have h1:gq (CY 1 ρ A) A=.ok (aM (ag H (S 1)) bh) A:=zV L.a1 (j:=1) (by decide) e1;have h2:gq (CY 2 ρ A) A=.ok (aM (ag H (S 2)) bh) A:=zV L.a1 (j:=2) (by decide) e1;have q:((bH (gq (CY 0 ρ A) A) fun A=>bH (gq (CY 1 ρ A) A) fun A=>Rz.ok [] A).bind bt)=.ok (aM (ag H (mE (S 0++S 1))) bh) A:=by
  rw[h0];show((bH (gq (CY 1 ρ A) A) fun A=>Rz.ok [] A).bind fun ts A=>Rz.ok (aM (ag H (S 0)) bh::ts) A).bind bt=_;rw[h1];exact t1
 unfold Vm;rw[q];show((bH (gq (CY 2 ρ A) A) fun A=>Rz.ok [] A).bind fun ts A=>Rz.ok (aM (ag H (mE (S 0++S 1))) bh::ts) A).bind bt=_;rw[h2];exact t2
theorem Bz{l:List Mk}(nd:U.Nodup)(h:∀m,m∈l↔m∈U):ag H (mE l)=ag H U:=o_ ((mI (zT l) nd).mpr fun m=>eG.trans (h m))
theorem Mi(L:LS 12 A W bh H S hi)(cU:Cl W bh U)(sub:∀i,i<3->∀m∈S i,m∈U){i:Nat}(jq:i<3):Mf [.sh (aM (ag H (S i)) bh),.sh (aM (ag H U) bh)] A=.ok false A:=by
 have t1:=yF cU (L.c i jq) L.w (by decide) L.a0 (a:=ag H U) (b:=ag H (S i)) (bw _) (bw _);have t2:=yF (L.c i jq) cU L.w (by decide) L.a0 (a:=ag H (S i)) (b:=ag H U) (bw _) (bw _);rw[Bz cU.nd fun m=>by rw[bF];exact⟨fun h=>h.elim id (sub i jq m),.inl⟩]at t1;rw[Bz cU.nd fun m=>by rw[bF];exact⟨fun h=>h.elim (sub i jq m) id,.inr⟩]at t2;unfold Mf;show FU (iP (j4 j5 (l_ (bt [aM (ag H U) bh,aM (ag H (S i)) bh] A)) _)) _=_;rw[t1];have q1:iP (j4 j5 (.ok (aM (ag H U) bh) A) fun A=>aj (ar [.sh (aM (ag H (S i)) bh),.sh (aM (ag H U) bh)] 1) A)=.ok false A:=QQ rfl;show FU (iP (j4 j5 (.ok (aM (ag H U) bh) A) fun A=>aj (ar [.sh (aM (ag H (S i)) bh),.sh (aM (ag H U) bh)] 1) A)) _=_;rw[q1];show iP (j4 j5 (l_ (bt [aM (ag H (S i)) bh,aM (ag H U) bh] A)) _)=_;rw[t2];exact QQ rfl
theorem Vq{P:av->Ab->Rz Bool}{j m i:Nat}{us:List Tr}{t:Tr}{c:Cell}{xs:List Cell}(h:A[j]?=some (.lst us))(ht:us[i]?=some t)(e:P (.sh t::xs) A=.ok false A):n_ (gN 0) P j (m+1) i (c::xs) A=n_ (gN 0) P j m (i+1) (.sh t::xs) A:=by
 rw[n_,h];show(match us[i]? with
  |none=>Rz.ok (Tr.lst []) A
  |some t=>match gN 0 t (c::xs)with
   |.ok ρ1=>match P ρ1 A with
    |.ok false A=>n_ (gN 0) P j m (i+1) ρ1 A
    |_=>.bad
   |_=>.bad)=_
 rw[ht];show(match P (.sh t::xs) A with
      |.ok false A=>n_ (gN 0) P j m (i+1) (.sh t::xs) A
      |_=>Rz.bad)=_
 rw[e]
theorem Mj(L:LS 12 A W bh H S hi)(cU:Cl W bh U)(sub:∀i,i<3->∀m∈S i,m∈U){ρ:av}(e1:ar ρ 1=.ok (.at 1))(e2:h_ [none,some 10] ρ=[.no,.sh (aM (ag H U) bh)]):ve [none,some 10] (gN 0) Mf 10 (aj (ar ρ 1) A) ρ=.ok (.lst []) A:=by
 have k:=fun(i:Nat) (h:i<3)=>Mi L cU sub h;unfold ve;rw[e1,e2];show(match A[1]? with
  |some (.lst _)=>n_ (gN 0) Mf 1 10 0 [.no,.sh (aM (ag H U) bh)] A
  |_=>.bad)=_
 rw[L.a1];show n_ (gN 0) Mf 1 10 0 [.no,.sh (aM (ag H U) bh)] A=_;rw[Vq (m:=9) (i:=0) L.a1 rfl (k 0 (by decide)),Vq (m:=8) (i:=1) L.a1 rfl (k 1 (by decide)),Vq (m:=7) (i:=2) L.a1 rfl (k 2 (by decide)),n_,L.a1]
 rfl
end
end ir
namespace ir
open PySem L2
section
variable {A A1:Ab}{W:List Mk}{bh:Mk->List Mk}{H:Mk->Nat}{S:Nat->List Mk}{hi:Mk->Nat}{U:List Mk}
theorem QR{os:List Mk}(hl:os.length<=100){ρ:av}(h:ar ρ 10=.ok (aM os bh)):QN ρ=.ok (.lst (os.map tM)):=by
 unfold QN;rw[h];show(if(os.map (tL bh)).length<=ik then(lH (gN 0) (fun x=>Rs.ok true) _ (os.map (tL bh)) [.no]).bind fun ys=>Rs.ok (Tr.lst ys)else .bad)=_;rw[ab (by rw[ak];unfold ik;omega),yE (f:=tL bh) (g:=tM) (xs:=[]) os .no fun m _=>rfl]
 rfl
theorem Ml(w:Wd 12 W bh H)(cU:Cl W bh U)(h0:A[0]?=some CW){ρ:av}(Pt:ar ρ 10=.ok (aM (ag H U) bh))(WN:ar ρ 11=.ok (.tup ((ag H U).map tM))):∃A',R1 ρ A=.ok false A'/\∀i,i<A.length->A'[i]?=A[i]? :=by
 have c':=cU.perm (bw (H:=H) U);have K:=c'.bV w (by decide);have ll:=K.len;have QU:yK (ag H U) bh [] (ag H U)=[]:=List.eq_nil_iff_forall_not_mem.mpr fun x hx=>by
  rcases(Bp _ _ _ _).mp hx with h|⟨m,hm,h1,h2⟩
  ·cases h
  ·exact h2 (c'.cl m hm x h1)
 have lk:fL [aM (ag H U) bh]=.ok (.tup []):=by
  have h:=CK K (by rw[QU];decide);rw[QU,List.mergeSort_nil]at h;exact h
 obtain⟨A',e,h⟩:=FG cU w (by decide) h0;refine⟨A',?_,h⟩;unfold R1;have q1:iL (cM j5 (ba fL (aF (ar ρ 10) (Rs.ok []))) (jk (Rs.ok [])))=.ok false:=by
  rw[Pt];show iL (cM j5 (fL [aM (ag H U) bh]) (.ok (.tup [])))=_;rw[lk]
  rfl
 have q2:iP (j4 j5 ((bH (aj (ar ρ 10) A) fun A=>Rz.ok [] A).bind eD) fun A=>aj (ar ρ 11) A)=.ok false A':=by
  rw[Pt];show iP (j4 j5 (eD [aM (ag H U) bh] A) fun A=>aj (ar ρ 11) A)=_;rw[e];exact Vp (by rw[WN];rfl)
 have q3:iL (cM j5 (ba cX (aF (QN ρ) (Rs.ok []))) (ar ρ 11))=.ok false:=by
  rw[QR (by omega) Pt,WN];show iL (j5 (.tup ((ag H U).map tM)) (.tup ((ag H U).map tM)))=_;rw[Fo]
  rfl
 rw[q1,eX];show FU (iP (j4 j5 ((bH (aj (ar ρ 10) A) fun A=>Rz.ok [] A).bind eD) fun A=>aj (ar ρ 11) A)) _=_;rw[q2];show aj (iL (cM j5 (ba cX (aF (QN ρ) (Rs.ok []))) (ar ρ 11))) A'=_;rw[q3]
 rfl
theorem Zd(h:A[2]?=some (.aI (fD W fun m=>.at (hi m)))):bf 5 A (.at 2)=.aI (fD W fun m=>bf 4 A (.at (hi m))):=by
 rw[bf];simp only[h];unfold fD;rw[bG]
 rfl
theorem Ze{i:Nat}{l:List Mk}(h:A[i]?=some (.lst (l.map tM))):bf 4 A (.at i)=.lst (l.map tM):=by
 rw[bf];simp only[h];rw[bG]
 rfl
theorem Mm(h2:A[2]?=some (.aI (fD W fun m=>.at (hi m))))(ah:∀m∈W,2<hi m/\∃l:List Mk,A[hi m]?=some (.lst (l.map tM))/\l.length<=12/\∀b∈l,b∈W/\H b<H m)(sub:∀m∈W,m∈U){m:Mk}(hm:m∈W){a0 a1 c3 c4 c5 c6 c8 c9 c10 c12 c13:Cell}:
  QP [a0,a1,.sh (.at 2),c3,c4,c5,c6,.sh (tM m),c8,c9,c10,.sh (.tup ((ag H U).map tM)),c12,c13] A=.ok (.nx [a0,a1,.sh (.at 2),c3,c4,c5,c6,.sh (tM m),c8,c9,c10,.sh (.tup ((ag H U).map tM)),c12,c13]) A:=by
 obtain⟨_,l,hl,ll,hb⟩:=ah m hm;have e:Vn [a0,a1,.sh (.at 2),c3,c4,c5,c6,.sh (tM m),c8,c9,c10,.sh (.tup ((ag H U).map tM)),c12,c13] A=.ok (.lst []):=by
  unfold Vn;show ij [none,some 11,some 7] (gN 0) _ _ (il (cM oD (.ok (bf 5 A (.at 2))) (.ok (tM m)))) _=_;rw[Zd h2];show ij [none,some 11,some 7] (gN 0) _ _ (il (oD (.aI (fD W fun m=>bf 4 A (.at (hi m)))) (tM m))) _=_;rw[jS hm,Ze hl];show ij [none,some 11,some 7] (gN 0) _ _ (.ok (l.map tM)) _=_;rw[mB (by omega)];show(lH (gN 0) _ _ (l.map tM) [.no,.sh (.tup ((ag H U).map tM)),.sh (tM m)]).bind _=_;rw[Me (P:=fun _=>false) (f:=tM) (g:=tM) l .no (fun b hx=>?_) (fun _ _ z=>by cases z)]
  ·rw[qW.mpr fun _ _=>cR];rfl
  ·obtain⟨p1,p2⟩:=hb b hx;obtain⟨j1,i1,g1⟩:=vh (b:=b) (l:=ag H U) (cS.mpr (sub b p1));obtain⟨j2,i2,g2⟩:=vh (b:=m) (l:=ag H U) (cS.mpr (sub m hm));show iL (cM ME (yq ((ag H U).map tM) (tM b)) (yq ((ag H U).map tM) (tM m)))=_;rw[i1,i2];have h:=Fs g1 g2 p2;show Rs.ok (decide ((j2:Int)<(j1:Int)))=_;rw[aX (by omega)]
 unfold QP;rw[e]
 rfl
theorem BA(h2:A[2]?=some (.aI (fD W fun m=>.at (hi m))))(ah:∀m∈W,2<hi m/\∃l:List Mk,A[hi m]?=some (.lst (l.map tM))/\l.length<=12/\∀b∈l,b∈W/\H b<H m)(sub:∀m∈W,m∈U){a0 a1 c3 c4 c5 c6 c8 c9 c10 c12 c13:Cell}:∀(ms:List Mk) (c7:Cell),(∀m∈ms,m∈W)->
  ∃d7,fz (gN 7) QP (ms.map tM) [a0,a1,.sh (.at 2),c3,c4,c5,c6,c7,c8,c9,c10,.sh (.tup ((ag H U).map tM)),c12,c13] A=.ok (.nx [a0,a1,.sh (.at 2),c3,c4,c5,c6,d7,c8,c9,c10,.sh (.tup ((ag H U).map tM)),c12,c13]) A
 |[],c7,_=>⟨c7,rfl⟩
 |m::ms,c7,hm=>by
  obtain⟨d7,e⟩:=BA h2 ah sub ms (.sh (tM m)) fun x hx=>hm x (aO _ hx);refine⟨d7,?_⟩;rw[aC,qa (ρ1:=[a0,a1,.sh (.at 2),c3,c4,c5,c6,.sh (tM m),c8,c9,c10,.sh (.tup ((ag H U).map tM)),c12,c13]) rfl (Mm h2 ah sub (hm m (aP ..)))];exact e
theorem zW(w:Wd 12 W bh H)(cU:Cl W bh U)(inc:∀m∈W,∀m'∈W,m.1=m'.1->m.2<m'.2->H m<H m')(k:Int){a0 a1 a2 c3 c4 c5 c6 c7 c8 c9 c10 c13:Cell}:
  ∃Zf,R3 [a0,a1,a2,c3,c4,c5,c6,c7,c8,c9,c10,.sh (.tup ((ag H U).map tM)),.sh (.int k),c13] A=.ok (.nx [a0,a1,a2,c3,c4,c5,c6,c7,c8,c9,c10,.sh (.tup ((ag H U).map tM)),.sh (.int k),Zf]) A:=by
 have ul:=cU.len w;have ol:(ag H U).length=U.length:=(bw U).length_eq;have e:Vo [a0,a1,a2,c3,c4,c5,c6,c7,c8,c9,c10,.sh (.tup ((ag H U).map tM)),.sh (.int k),c13]=.ok (.lst (((ag H U).filter fun m=>m.1==k).map tM)):=by
  unfold Vo;show ij [none,some 12] (gN 0) _ _ (.ok ((ag H U).map tM)) _=_;rw[mB (by omega)];show(lH (gN 0) _ _ ((ag H U).map tM) [.no,.sh (.int k)]).bind _=_;rw[Me (P:=fun m=>m.1==k) (f:=tM) (g:=tM) _ .no (fun m _=>rfl) (fun _ _ _=>rfl)]
  rfl
 have Zg:((ag H U).filter fun m=>m.1==k).mergeSort tW=(ag H U).filter fun m=>m.1==k:=by
  refine List.mergeSort_of_pairwise ?_
  refine((lu (H:=H) U).filter _).imp_of_mem fun{a b} ha hb le=>?_
  obtain⟨fI,oQ⟩:=cC.mp ha;obtain⟨uk,Dx⟩:=cC.mp hb;have ea:=eq_of_beq oQ;have eb:=eq_of_beq Dx;have aW:=cU.sub a (cS.mp fI);have bW:=cU.sub b (cS.mp uk);have ZM:a.2<=b.2:=by
   by_cases z:b.2<a.2
   ·have dO:=inc b bW a aW (by rw[ea,eb]) z;have q:=jO.mp (show lN (dQ (tP H a)) (dQ (tP H b))=true from le);rw[lr,lr]at q;exact absurd (List.Lex.rel (by omega)) q
   ·omega
  show lN [a.1,a.2] [b.1,b.2]=true;rw[ea,eb];unfold lN;rw[gO,gO,v8];have h1:¬k<k:=kn k;have h2:¬b.2<a.2:=by omega
  simp[h1,h2]
 refine⟨.sh (.lst (((ag H U).filter fun m=>m.1==k).map tM)),?_⟩;unfold R3;rw[e,eX,dB];show fin _ (aj (iL (cM j5 (.ok (.lst (((ag H U).filter fun m=>m.1==k).map tM))) (fA [.lst (((ag H U).filter fun m=>m.1==k).map tM)]))) A)=_;rw[Bk (dA ((bw U).nodup_iff.mpr cU.nd)) (aZ (lC _ _) (by omega)),Zg];show fin _ (aj (iL (j5 (.lst (((ag H U).filter fun m=>m.1==k).map tM)) (.lst (((ag H U).filter fun m=>m.1==k).map tM)))) A)=_;rw[LR]
 rfl
end
end ir
namespace ir
open PySem L2
theorem HW{A:Ab}{W:List Mk}{bh:Mk->List Mk}{H:Mk->Nat}{S:Nat->List Mk}{hi:Mk->Nat}(L:LS 12 A W bh H S hi){a0 c3 c4 c5 c6 c7 c8 c9 c10 c11 c12 c13:Cell}:
  ∃A',CL [a0,.sh (.at 1),.sh (.at 2),c3,c4,c5,c6,c7,c8,c9,c10,c11,c12,c13] A=.ok (.ret (.bl true)) A':=by
 have c0:=L.c 0 (by decide);have c1:=L.c 1 (by decide);have c2:=L.c 2 (by decide);have cU:=(c0.mE c1).mE c2;have eW:=Mh L (ρ:=[a0,.sh (.at 1),.sh (.at 2),c3,c4,c5,c6,c7,c8,c9,c10,c11,c12,c13]) rfl;have QV:∀m,m∈mE (mE (S 0++S 1)++S 2)↔(m∈S 0\/m∈S 1)\/m∈S 2:=fun m=>by rw[eG,bF,eG,bF]
 generalize mE (mE (S 0++S 1)++S 2)=U at cU eW QV;have sub:∀i,i<3->∀m∈S i,m∈U:=fun i h m hm=>(QV m).mpr (by
  match i,h,hm with
  |0,_,hm=>exact .inl (.inl hm)
  |1,_,hm=>exact .inl (.inr hm)
  |2,_,hm=>exact .inr hm)
 have Vr:∀m∈W,m∈U:=fun m hm=>by
  obtain⟨i,h1,_,h3⟩:=L.own m hm;exact sub i h1 m h3
 have eA:=Mj L cU sub (ρ:=[a0,.sh (.at 1),.sh (.at 2),c3,c4,c5,c6,c7,c8,c9,.sh (aM (ag H U) bh),c11,c12,c13]) rfl rfl;have eO:=wx ((cU.perm (bw (H:=H) U)).bV L.w (by decide)) L.a0;rw[Bv]at eO;obtain⟨A1,eE,p1⟩:=Ml (A:=A) L.w cU L.a0 (ρ:=[a0,.sh (.at 1),.sh (.at 2),c3,c4,c5,c6,c7,c8,c9,.sh (aM (ag H U) bh),.sh (.tup ((ag H U).map tM)),c12,c13]) rfl rfl;have keep:∀{i:Nat} {o:Ao},A[i]?=some o->A1[i]?=some o:=fun{i o} e=>by rw[p1 i (a6 e)];exact e
 obtain⟨d7,eM⟩:=BA (U:=U) (H:=H) (keep L.a2) (fun m hm=>by obtain⟨h1,l,h2,h3⟩:=L.ah m hm;exact⟨h1,l,keep h2,h3⟩) Vr (a0:=a0) (a1:=.sh (.at 1)) (c3:=c3) (c4:=c4) (c5:=c5) (c6:=c6) (c8:=c8) (c9:=c9) (c10:=.sh (aM (ag H U) bh)) (c12:=c12) (c13:=c13) (ag H U) c7 fun m hm=>cU.sub m (cS.mp hm);obtain⟨f0,e0⟩:=zW (A:=A1) L.w cU L.inc 0 (a0:=a0) (a1:=.sh (.at 1)) (a2:=.sh (.at 2)) (c3:=c3) (c4:=c4) (c5:=c5) (c6:=c6) (c7:=d7) (c8:=c8) (c9:=c9) (c10:=.sh (aM (ag H U) bh)) (c13:=c13);obtain⟨f1,e1⟩:=zW (A:=A1) L.w cU L.inc 1 (a0:=a0) (a1:=.sh (.at 1)) (a2:=.sh (.at 2)) (c3:=c3) (c4:=c4) (c5:=c5) (c6:=c6) (c7:=d7) (c8:=c8) (c9:=c9) (c10:=.sh (aM (ag H U) bh)) (c13:=f0);obtain⟨f2,e2⟩:=zW (A:=A1) L.w cU L.inc 2 (a0:=a0) (a1:=.sh (.at 1)) (a2:=.sh (.at 2)) (c3:=c3) (c4:=c4) (c5:=c5) (c6:=c6) (c7:=d7) (c8:=c8) (c9:=c9) (c10:=.sh (aM (ag H U) bh)) (c13:=f1);refine⟨A1,?_⟩;unfold CL;rw[eW,dB];show bu (fin [a0,.sh (.at 1),.sh (.at 2),c3,c4,c5,c6,c7,c8,c9,.sh (aM (ag H U) bh),c11,c12,c13] (Ca (ve [none,some 10] (gN 0) Mf 10 (aj (ar [a0,.sh (.at 1),.sh (.at 2),c3,c4,c5,c6,c7,c8,c9,.sh (aM (ag H U) bh),c11,c12,c13] 1) A) [a0,.sh (.at 1),.sh (.at 2),c3,c4,c5,c6,c7,c8,c9,.sh (aM (ag H U) bh),c11,c12,c13]))) _=_;rw[eA];show bu (cK 11 (iH [aM (ag H U) bh] A) [a0,.sh (.at 1),.sh (.at 2),c3,c4,c5,c6,c7,c8,c9,.sh (aM (ag H U) bh),c11,c12,c13]) _=_;rw[eO,dB];show bu (fin [a0,.sh (.at 1),.sh (.at 2),c3,c4,c5,c6,c7,c8,c9,.sh (aM (ag H U) bh),.sh (.tup ((ag H U).map tM)),c12,c13] (R1 [a0,.sh (.at 1),.sh (.at 2),c3,c4,c5,c6,c7,c8,c9,.sh (aM (ag H U) bh),.sh (.tup ((ag H U).map tM)),c12,c13] A)) _=_;rw[eE,L9,t6];show bu (fz (gN 7) QP ((ag H U).map tM) [a0,.sh (.at 1),.sh (.at 2),c3,c4,c5,c6,c7,c8,c9,.sh (aM (ag H U) bh),.sh (.tup ((ag H U).map tM)),c12,c13] A1) _=_;rw[eM,t6];show bu (fz (gN 12) R3 [.int 0,.int 1,.int 2] [a0,.sh (.at 1),.sh (.at 2),c3,c4,c5,c6,d7,c8,c9,.sh (aM (ag H U) bh),.sh (.tup ((ag H U).map tM)),c12,c13] A1) _=_;rw[qa (ρ1:=[a0,.sh (.at 1),.sh (.at 2),c3,c4,c5,c6,d7,c8,c9,.sh (aM (ag H U) bh),.sh (.tup ((ag H U).map tM)),.sh (.int 0),c13]) rfl e0,qa (ρ1:=[a0,.sh (.at 1),.sh (.at 2),c3,c4,c5,c6,d7,c8,c9,.sh (aM (ag H U) bh),.sh (.tup ((ag H U).map tM)),.sh (.int 1),f0]) rfl e1,qa (ρ1:=[a0,.sh (.at 1),.sh (.at 2),c3,c4,c5,c6,d7,c8,c9,.sh (aM (ag H U) bh),.sh (.tup ((ag H U).map tM)),.sh (.int 2),f1]) rfl e2]
 rfl
theorem QW(ns:List Int):∃A',vf [.jz ns] TB=.ok (.bl true) A':=by
 have nil:aM (ag (fun _=>0) []) (fun _=>[])=.tup []:=by
  have:ag (fun _=>0) []=[]:=mN.mp (tV (H:=fun _=>0) []);rw[this];rfl
 have w0:Wd 0 [] (fun _=>[]) (fun _=>0):=⟨fQ,aq _,fun _ h=>(by cases h),fun _ h=>(by cases h),fun _ h=>(by cases h),fun _ h=>(by cases h),fun _ h=>(by cases h),fun _ h=>(by cases h),fun _ h=>(by cases h)⟩;have L0:LS 0 [CW,.lst [.tup [],.tup [],.tup []],.aI []] [] (fun _=>[]) (fun _=>0) (fun _=>[]) (fun _=>0):=⟨w0,fun i _=>⟨fQ,fun _ h=>(by cases h),fun _ h=>(by cases h)⟩,fun _ h=>(by cases h),fun _ h=>(by cases h),rfl,by rw[nil];rfl,rfl,fun _ h=>(by cases h)⟩;obtain⟨A',W',pN,H',S',jq,d3,d4,d5,d6,d7,d8,d9,e1,L1⟩:=By ns (tl:=[.no,.no,.no,.no]) 12 0 _ _ _ _ _ _ .no .no .no .no .no .no .no rfl L0;obtain⟨A2,e2⟩:=HW L1 (a0:=.sh (.jz ns)) (c3:=d3) (c4:=d4) (c5:=d5) (c6:=d6) (c7:=d7) (c8:=d8) (c9:=d9) (c10:=.no) (c11:=.no) (c12:=.no) (c13:=.no);refine⟨A2,?_⟩;show dD (A_.1 [.sh (.jz ns),.no,.no,.no,.no,.no,.no,.no,.no,.no,.no,.no,.no,.no] TB)=_;rw[Mg];show dD (bu (fz (gN 3) Ma (xt 0 12) [.sh (.jz ns),.sh (.at 1),.sh (.at 2),.no,.no,.no,.no,.no,.no,.no,.no,.no,.no,.no] [CW,.lst [.tup [],.tup [],.tup []],.aI []]) CL)=_;rw[LQ];show dD (bu (fz (gN 3) Ma ((List.range' 0 12).map fun(i:Nat)=>Tr.int (i:Int)) (.sh (.jz ns):: .sh (.at 1):: .sh (.at 2):: .no:: .no:: .no:: .no:: .no:: .no:: .no::[.no,.no,.no,.no]) [CW,.lst [.tup [],.tup [],.tup []],.aI []]) CL)=_;rw[e1,t6];show dD (CL [.sh (.jz ns),.sh (.at 1),.sh (.at 2),d3,d4,d5,d6,d7,d8,d9,.no,.no,.no,.no] A')=_;rw[e2]
 rfl
end ir
namespace ir
open PySem L2
def O:MO:=⟨["all","bool","dict","int","isinstance","len","list","max","range","set","sorted","str","tuple","zip"],[],[],[],[],[],[],[],[]⟩
set_option maxHeartbeats 8000000 in
theorem all_mk{l:PySem.W.OpenLaw}{w:World}{K:PySem.W.Frag}{h:Heap}{mg:Str->Option Value}{fa tc tP:Addr}(X:K.In h)(G:h.Ns mainGlobals mg)(Zh:mg "law"=some (.ref fa))
  (c1:DS.map (Df.fd K)=DS.map (fun d=>d.re (d.fd K))) (c2:DS.all (Df.I0 K)=true) (c3:O.I0 K=true) (t1:PySem.W.tabIn K "order"=some (tc,tP)) (t2:CA K tc tP=true)
  :∃fd:FuncData,(∀(s:Shared) (v:Value),BindsTo s fd ⟨[v],[]⟩ [("_law_script",v)])/\∀base:Heap,K.In base->base.Ns mainGlobals mg->hX l.prog w K mg base (qv l.prog w) 14 fa fd ["_law_script"] (wL K vf):=by
 have o:=O.ok X G c3;have T:MP K w mg tc tP:=⟨fun i d e=>EZ X G c1 c2 d (bg e),o.bl rfl,o.bl rfl,o.bl rfl,o.bl rfl,o.bl rfl,o.bl rfl,o.bl rfl,o.bl rfl,o.bl rfl,o.bl rfl,o.bl rfl,o.bl rfl,o.bl rfl,o.bl rfl,⟨t1,t2⟩⟩;cases Zh.symm.trans ((T.d 9 rfl:lq.Ok K mg).m0 rfl);obtain⟨oc,od,kV,doc,pm,an,dw,ct,z6,e9,_,_⟩:=(T.d 9 rfl:lq.Ok K mg).fn.ex;exact⟨_,fun s v=>by rw[e9];exact .of_eq rfl,fun base _ _=>(Qn T).ok⟩
theorem Mn{K:PySem.W.Frag}{H:Hp}{E:XK}{a tc tP:Addr}{ns:List Int}(t1:PySem.W.tabIn K "order"=some (tc,tP))(hT:H tP=some (.wF #[.str "order.<locals>.<lambda>" 0])) (hS:iA K H a (ns.map V.int)):wL K vf [.ref a] H (fun v _=>v=.bl true) E:=by
 let B:bN:=⟨fun b=>b==tP,fun b=>if b=tP then some 0 else none⟩
 have Le:iA K (aN B H).H a (ns.map V.int):=by
  rcases hS with h|h
  ·refine .inl ?_
   have f':a≠tP:=fun z=>by
    subst z;rcases h with h|⟨o,h⟩
    ·rw[hT]at h;cases h
    ·rw[hT]at h;cases h
   have e:(aN B H).H a=H a:=by
    show(if(a==tP)=true then none else H a)=_;rw[ae (by simpa using f')]
   rcases h with h|⟨o,h⟩
   ·exact .inl (by rw[e];exact h)
   ·exact .inr ⟨o,by rw[e];exact h⟩
  ·exact .inr h
 refine⟨B,TB,[.jz ns],⟨fun b e=>?_,fun i o e=>?_,fun a b i h1 h2=>?_,fun a i h=>?_⟩,.cons (.jz Le) .nil,?_⟩
 ·have e:b=tP:=by simpa[B]using e
  subst e;exact⟨_,hT,fun vs z=>by cases z⟩
 ·match i,e with
  |0,e=>
   cases e;exact⟨tP,ab rfl,bD _,⟨tc,t1⟩,hT⟩
  |i+1,e=>cases e
 ·have h1:(if a=tP then some 0 else none)=some i:=h1;have h2:(if b=tP then some 0 else none)=some i:=h2;split at h1
  ·split at h2
   ·rename_i x y;rw[x,y]
   ·cases h2
  ·cases h1
 ·have h:(if a=tP then some 0 else none)=some i:=h;split at h
  ·cases h;exact Nat.zero_lt_one
  ·cases h
 ·obtain⟨A9,e9⟩:=QW ns;rw[e9];exact fun v B' H' _ _ r=>r.DF
theorem walk{l:PySem.W.OpenLaw}{q:Program}{loose:List Str}{XP:(Str->Option Value)->Heap->Prop}{YP:World->Heap->Prop}{d:DefRec}{K:Params->PySem.W.Frag}{tc tP:Addr}(hn:l.most=some 63)(NA:d.params.defaults=[])
  (hY:∀(w:World) (h:Heap),YP w h->(K w.params).In h) (hP:∀(w:World) (h:Heap),YP w h->h.get? tP=some (PySem.W.tabObj #[])) (J3:∀w:World,(K w.params).lookup tP=none) (t1:∀w:World,PySem.W.tabIn (K w.params) "order"=some (tc,tP)) (t2:∀w:World,CA (K w.params) tc tP=true)
  (F:∀(w:World) (mg:Str->Option Value) (fa:Addr) (h:Heap),(K w.params).In h->h.Ns mainGlobals mg->mg d.name=some (.ref fa)->
   ∃fd:FuncData,(∀(s:Shared) (u:Value),BindsTo s fd ⟨[u],[]⟩ [("_law_script",u)])/\∀base:Heap,(K w.params).In base->base.Ns mainGlobals mg->hX l.prog w (K w.params) mg base (qv l.prog w) 14 fa fd ["_law_script"] (wL (K w.params) vf)):
  PySem.W.WalkO q loose XP YP l.row.toRowW d [] (fun f vs=>PySem.call f vs):=
 L2.Gp (n:=63) (k:=14) (x:="_law_script") (tc:=tc) (tP:=tP) (tq:="order.<locals>.<lambda>") (CX:=fun w=>qv l.prog w) (sp:=fun w=>wL (K w.params) vf) hn (by decide) NA ⟨rfl,by decide,by decide⟩ hY (fun w h Y=>EN (hY w h Y) (t2 w)) hP J3 F (fun w _ a ns hl hT hS=>Mn (t1 w) hT hS) fun _ _ _ _ _ ⟨_,_,_,_,_,_,_,_,_,z⟩=>z
end ir
open PySem PySem.W PyProof.Rows
set_option maxRecDepth 100000 in
set_option maxHeartbeats 0 in
theorem PySem.Challenge.cw_talkhall_k35_whole_halls_that_write_holds : PySem.Challenge.rw_talkhall_k35_whole_halls_that_write.Holds := by
 w_on;o_law;k_head;(case hw=>w_witness2)
 k_fill
 refine ir.walk (l:=PySem.Challenge.rw_talkhall_k35_whole_halls_that_write) (tc:=30) rfl rfl (fun w h Y=>PySem.W.km_in_of Y) (fun w h Y=>PySem.W.km_tabs_of Y _ (cn.mpr rfl)) ?J3 ?t1 ?t2 ?F
 case t1=>intro w;kernel_rfl
 case t2=>intro w;first|k_is|kernel_rfl
 case J3=>intro w;first|k_is|kernel_rfl
 case F=>
  intro w mg fa h KX G NC
  refine' ir.all_mk (tc:=30) (tP:=26) KX G NC ?_ ?_ ?_ ?_ ?_
  all_goals first|k_is|kernel_rfl|skip
