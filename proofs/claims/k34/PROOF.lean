import PyProof.Rows.All
import Wide.All
import OpenK.AllK
import Wide.FinOn
import Lean
import PyProof.EqAt
import PyProof.EqKinds
import PyProof.TupleCall
import KE.KLam
import PyProof.ExcArgsOwn
import PyProof.AttrMissSeq
import KE.KMinKey
import KE.KBoundM
import KE.KSortTup
import KE.KItemsList
import PyProof.ListRange
import PyProof.TupleIter
import PyProof.TupleOfSeq
import KE.KSortKey
import PyProof.TupleOfStr
import PySem.Challenge.RW_talkhall_k34_put_together
set_option Elab.async false
set_option linter.all false
set_option maxRecDepth 100000
set_option maxHeartbeats 4000000
def aa:=@PySem.wpAny_bind
def aB:=@List.getElem?_eq_getElem
def aC:=@PySem.Heap.get?_push_of_some
def ah:=@List.length_map
def ae:=@PySem.wpAny_pure
def bb:=@List.getD_eq_getElem?_getD
def aO:=@List.mem_cons_of_mem
def aU:=@PySem.Heap.get?_push_size
def aS:=@List.mem_cons_self
def aP:=@List.getElem?_map
def ak:=@Nat.le_refl
def ar:=@PySem.Heap.lt_size
def aA:=@List.map_cons
def ab:=@if_pos
def aJ:=@Bool.and_eq_true
def aV:=@Bool.false_eq_true
def aY:=@List.length_append
def bV:=@Array.getElem?_eq_getElem
def bw:=@List.mem_of_getElem?
def b_:=@List.getElem?_eq_some_iff
def bq:=@Array.length_toList
def cw:=@Array.getD_eq_getD_getElem?
def bf:=@List.size_toArray
def af:=@if_neg
def cq:=@List.getElem?_append_left
def aN:=@List.mem_cons
def aM:=@Nat.ne_of_lt
def br:=@List.length_cons
def bg:=@decide_eq_false
def bB:=@beq_self_eq_true
def bN:=@Nat.lt_of_lt_of_le
def cu:=@Array.getElem?_toList
def bG:=@List.all_eq_true
def aW:=@List.mem_map
def bD:=@List.mem_append
def cb:=@of_decide_eq_true
def cA:=@List.getElem?_set_ne
def ck:=@decide_eq_true_eq
def bF:=@decide_eq_true
def dI:=@List.getElem?_append_right
def cB:=@List.mem_singleton
def bx:=@Nat.le_trans
def bC:=@List.map_map
def cM:=@List.mergeSort_perm
def cx:=@List.mem_filter
def dJ:=@List.getElem?_set_self
def cP:=@Bool.false_ne_true
def aR:=@if_false
def cn:=@PySem.wpAny_holding
def dM:=@List.getElem?_of_mem
def cH:=@List.map_append
def cC:=@List.mem_range
def bH:=@PySem.sizeLine_eq
def bP:=@Nat.zero_le
def cV:=@PySem.wpAny_setState_of
def cy:=@Nat.ne_of_gt
def dS:=@PySem.Heap.SameBut.update
def dq:=@List.lookup_cons
def fi:=@List.mem_append_right
def dr:=@PySem.W.kia_one
def dU:=@Nat.le_of_lt_succ
def dN:=@PySem.wpAny_call_entry
def fj:=@PySem.Around.under_plainId
def fS:=@List.length_singleton
def cX:=@Nat.lt_irrefl
def bJ:=@congrArg
def dW:=@List.append_nil
def dX:=@List.nodup_cons
def dY:=@List.find?_cons
def eM:=@List.not_mem_nil
def fT:=@List.map_congr_left
def fk:=@Int.toNat_natCast
def dO:=@PySem.wpAny_seqItems
def dZ:=@PySem.codeAny_builtin
def iy:=@PySem.F.slot_list_append
def cY:=@PySem.F.called_set
def eO:=@List.length_nil
def eP:=@beq_false_of_ne
def iz:=@PySem.wpAny_callSpecial?_slot
def fm:=@List.filter_cons
def fo:=@List.getElem_map
def fU:=@PySem.wpAny_setField_rec
def gI:=@PySem.mem_of_lookup
def fV:=@List.append_assoc
def fW:=@List.length_range
def jv:=@List.Perm.eq_of_pairwise
def jw:=@PySem.F.type_list_append
def fX:=@PySem.wpAny_newObj_type
def iA:=@PySem.Heap.get?_update_self
def jx:=@List.pairwise_mergeSort
def eQ:=@Bool.not_true
def fY:=@PySem.wpAny_forIn_list
def lG:=@Array.getElem?_eq_some_iff
def lH:=@List.getElem?_zip_eq_some
def lI:=@List.drop_eq_getElem_cons
def gJ:=@List.getElem_inj
def iB:=@Array.forIn_toList
def mJ:=@List.Nodup.length_le_of_subset
def fZ:=@PySem.wpAny_ite_split
def f6:=@List.nodup_nil
def f_:=@Nat.lt_succ_of_lt
def gU:=@List.filterMap_cons
def gV:=@List.replicate_succ
def j4:=@List.idxOf_lt_length_of_mem
def j5:=@PySem.F.slot_dict_keyiterator_next
def f':=@List.getElem_mem
def j6:=@List.perm_ext_iff_of_nodup
def iU:=@List.contains_iff_mem
def eC:=@PySem.plainId_quiet
def dA:=@PySem.wpAny_field
def iV:=@PyProof.Rows.F.plain_set_update_loop
def gb:=@List.foldl_cons
def c0:=@PySem.wpAny_mono
def gW:=@bne_self_eq_false
def eD:=@Nat.sub_self
def gX:=@List.pairwise_map
def cv:=@Ne.symm
def iW:=@List.mem_filterMap
def gc:=@PySem.Heap.size_push
def gY:=@List.length_set
def j7:=@List.length_filter_le
def iX:=@List.flatten_cons
def iY:=@List.getElem?_set
def iZ:=@Array.toList_push
def mK:=@PySem.wpAny_typeNameOfWhole_keyiter
def i0:=@List.nodup_append
def fq:=@PySem.codeAny_mono
def j8:=@PySem.Heap.get?_update_other
def i3:=@PySem.tupleKind_room_in1
def i4:=@PySem.wpAny_pyIter_tuple
def j9:=@List.mem_append_left
def g0:=@PySem.wpAny_passesOwn
def j_:=@Array.mem_toList_iff
def g8:=@PySem.wpAny_specialOf
def mL:=@Array.getElem?_eq_none_iff
def gf:=@Nat.le_of_lt
def i5:=@Nat.lt_succ_self
def i6:=@PySem.wpAny_pyIter_list
def i7:=@PySem.PassesOwn.leaving
def mM:=@List.getElem?_eq_none_iff
def i8:=@PySem.F.slot_tuple_hash
def ka:=@PySem.Heap.get?_none_of_le
def g_:=@List.any_cons
def hJ:=@List.all_cons
def dB:=@or_false
def mN:=@PySem.F.slot_tuple_iterator_next
def i9:=@PySem.wpAny_isInstance
def mO:=@List.getElem?_replicate
def mP:=@PySem.F.plain_list_iadd
def mQ:=@List.length_eq_zero_iff
def mR:=@List.take_of_length_le
def hU:=@PySem.wpAny_attempt
def mS:=@PySem.wpAny_typeNameOf_keyiter
def hX:=@Nat.zero_add
def i_:=@PySem.PassesOwn.never
def fv:=@PySem.wpAny_rule
def mT:=@List.length_replicate
def kb:=@List.length_take
def gg:=@Nat.mod_lt
def kc:=@Nat.le_add_right
def ke:=@List.any_eq_true
def kf:=@List.ext_getElem
def kg:=@PySem.W.kat_cons
def dC:=@if_true
def mU:=@PySem.W.hideAll_none
def hZ:=@Nat.le_succ
def ja:=@PySem.wpAny_fieldsOf
def h8:=@PySem.wpAny_typeOf
def mV:=@PySem.SetTable.insertAt_perm
def kh:=@List.nil_append
def mW:=@PySem.W.hideAll_get
def mX:=@PySem.builtinLookup_eq_fast
def mY:=@List.Perm.nodup_iff
def qT:=@PyProof.Rows.callWith_type1
def jb:=@Nat.succ_pos
def mZ:=@PyProof.Rows.F.entry_set_update_loop
def m4:=@PySem.wpAny_loadName_local
def h9:=@beq_iff_eq
def kn:=@Bool.and_false
def qU:=@List.length_eraseIdx_of_lt
def ko:=@PySem.W.kat_no
def qV:=@PySem.F.slot_dict_getitem
def m5:=@PySem.W.kitx_dict
def m6:=@Nat.lt_succ_of_le
def qW:=@Option.isSome_iff_exists
def qX:=@PySem.F.args_tuple_add_2
def gj:=@PySem.putSet_of
def h_:=@PySem.wpAny_Name
def m7:=@PySem.Calls.spliced_cons
def m8:=@PySem.wpAny_Call_Name_kw
def qY:=@PySem.F.entry_tuple_add
def m9:=@List.drop_length
def kq:=@PySem.wpAny_setField
def m_:=@PySem.Obj.data_mapFields
def jc:=@PyProof.Rows.listUpdate_at
def qZ:=@PySem.F.slot_tuple_add
def kr:=@Nat.lt_trans
def q_:=@PySem.F.slot_tuple_getattribute
def kx:=@List.any_map
def nc:=@PySem.wpAny_truthy_bool
def ng:=@PySem.W.kia_tup
def nh:=@Bool.eq_iff_iff
def ni:=@PySem.wpAny_storeSet_of
def nk:=@Bool.or_eq_true
def ra:=@PySem.F.slot_list_getattribute
def kz:=@PySem.wpAny_newList
def nq:=@PySem.wpAny_eqBool_int
def rb:=@PySem.wpAny_pyNext_tuple_item
def nr:=@Bool.not_false
def jd:=@PySem.call_meets
def rf:=@List.length_zipWith
def nu:=@PySem.wpAny_execs_nil
def nv:=@Bool.or_false
def ny:=@Bool.false_or
def nA:=@PySem.typeLookup_type
def nB:=@PySem.F.slot_zip_next
def nC:=@Bool.true_and
def nE:=@Int.lt_irrefl
def rg:=@PySem.W.of_hideAll
def rh:=@List.zip_cons_cons
def ri:=@PySem.wpAny_isOneOf_keyiter
def rj:=@Int.emod_lt_of_pos
def rl:=@List.map_mergeSort
def rm:=@PySem.W.kitx_list
def nF:=@Bool.true_or
def nG:=@List.map_nil
def nH:=@PySem.isSubtype_stop
def nJ:=@PySem.wpAny_newTuple
def rn:=@List.ext_getElem?
def nK:=@PySem.wpAny_runValue
def ro:=@List.foldl_append
def rq:=@PySem.wpAny_loadName_cell
def rA:=@Nat.le_of_not_lt
def rB:=@List.nodup_range
def rD:=@PySem.W.kat_kind
def rE:=@List.mem_flatMap
def kA:=@PySem.wpAny_load
def rG:=@List.of_mem_zip
def rH:=@List.forIn_cons
def nM:=@PyProof.Rows.get?_update_seq
def rJ:=@Int.emod_nonneg
def rK:=@Nat.max_eq_left
def rM:=@PySem.W.kat_one
def rN:=@List.range_succ
def wL:=@PySem.F.plain_proto_collect
def rO:=@PySem.Calls.spliced_nil
def rP:=@PySem.wpAny_pyIter_slot
def rQ:=@PySem.wpAny_dictEntries
def wM:=@Array.perm_iff_toList_perm
def rR:=@PySem.W.kat_lt
def kB:=@Prod.ext
namespace L2
open PySem PySem.Spec PyProof.Rows
abbrev Key:=Sum Int Str
def nN:Key->Value->Bool
 |.inl k,v=>Value.isInt k v
 |.inr x,v=>Value.isStrOf x v
def FV(w:World):Key->Int
 |.inl k=>hashInt k
 |.inr x=>hashStr w x
theorem cQ:∀{k:Key} {v:Value},nN k v=true->(∃i t,k=Sum.inl i/\v=Value.int i t)\/(∃x t,k=Sum.inr x/\v=Value.str x t)
 |.inl i,v,h=>by
  obtain⟨t,e⟩:=Value.isInt_shape (k:=i) (v:=v) h;exact .inl ⟨i,t,rfl,e⟩
 |.inr x,v,h=>by
  obtain⟨t,e⟩:=Value.isStrOf_shape (x:=x) (v:=v) h;exact .inr ⟨x,t,rfl,e⟩
theorem BA(i:Int)(t:Tok):nN (.inl i) (.int i t)=true:=by simp[nN,Value.isInt]
theorem BB(x:Str)(t:Tok):nN (.inr x) (.str x t)=true:=by simp[nN,Value.isStrOf]
theorem Jp(a b:Int):decide ((Sum.inl a:Key)=Sum.inl b)=(a==b):=by
 by_cases e:a=b
 ·subst e;simp
 ·have h:¬(Sum.inl a:Key)=Sum.inl b:=fun q=>e (Sum.inl.inj q);rw[bg h];exact(beq_eq_false_iff_ne.mpr e).symm
theorem Jq(a b:Str):decide ((Sum.inr a:Key)=Sum.inr b)=decide (a=b):=by
 by_cases e:a=b
 ·subst e;simp
 ·have h:¬(Sum.inr a:Key)=Sum.inr b:=fun q=>e (Sum.inr.inj q);rw[bg h,bg e]
theorem Jr(a:Int)(b:Str):decide ((Sum.inl a:Key)=Sum.inr b)=false:=bg (fun q=>nomatch q)
theorem Js(a:Str)(b:Int):decide ((Sum.inr a:Key)=Sum.inl b)=false:=bg (fun q=>nomatch q)
def ay(prog:Program)(w:World):PySem.KeyKind prog w Key where
 is:=nN
 hash:=FV w
 inj:=fun v a b ha hb=>by
  rcases cQ ha with⟨i,t,rfl,rfl⟩|⟨x,t,rfl,rfl⟩
  ·rcases cQ hb with⟨j,u,rfl,e⟩|⟨y,u,rfl,e⟩
   ·injection e with e1 _;rw[e1]
   ·exact nomatch e
  ·rcases cQ hb with⟨j,u,rfl,e⟩|⟨y,u,rfl,e⟩
   ·exact nomatch e
   ·injection e with e1 _;rw[e1]
 byValue:=fun k v h=>by
  rcases cQ h with⟨i,t,rfl,rfl⟩|⟨x,t,rfl,rfl⟩<;>rfl
 pyHash:=fun hv h=>by
  rcases cQ hv with⟨i,t,rfl,rfl⟩|⟨x,t,rfl,rfl⟩
  ·exact wpAny_pyHash_int h
  ·exact wpAny_pyHash_str h
 eqBool:=fun hu hv h=>by
  rcases cQ hu with⟨i,t,rfl,rfl⟩|⟨x,t,rfl,rfl⟩
  ·rcases cQ hv with⟨j,u,rfl,rfl⟩|⟨y,u,rfl,rfl⟩
   ·rw[Jp]at h;exact nq h
   ·rw[Jr]at h;exact SeqAt.EqAt.int_str i t y u _ _ _ _ h
  ·rcases cQ hv with⟨j,u,rfl,rfl⟩|⟨y,u,rfl,rfl⟩
   ·rw[Js]at h;exact SeqAt.EqAt.str_int x t j u _ _ _ _ h
   ·rw[Jq]at h;exact wpAny_eqBool_str h
 «strs»:=fun k x t v h=>by
  rcases cQ h with⟨i,u,rfl,e⟩|⟨y,u,rfl,e⟩
  ·exact nomatch e
  ·injection e with e1 _
   subst e1;cases v<;>rfl
theorem wN(prog:Program)(w:World)(i:Int)(t:Tok):(ay prog w).is (.inl i) (.int i t)=true:=BA i t
theorem wO(prog:Program)(w:World)(x:Str)(t:Tok):(ay prog w).is (.inr x) (.str x t)=true:=BB x t
end L2
namespace L2
open PySem PySem.Spec PyProof.Rows
inductive V where
 |cD|bl (b:Bool)|int (i:Int)|str (x:Str)|Jt (b:Array UInt8)|Ib (b:UInt64)|ref (a:Addr)|ty (n:String)
 deriving DecidableEq
def RelV:V->Value->Prop
 |.cD,u=>u=Value.none
 |.bl b,u=>u=Value.bool b
 |.int i,u=>∃t,u=Value.int i t
 |.str x,u=>∃t,u=Value.str x t
 |.Jt b,u=>∃t,u=Value.bytes b t
 |.Ib b,u=>∃t,u=Value.float b t
 |.ref a,u=>u=Value.ref a
 |.ty n,u=>u=Value.type n
abbrev Vals:List V->List Value->Prop:=Paired RelV
theorem Vals.length {xs:List V}{us:List Value}(r:Vals xs us):xs.length=us.length:=Paired.length r
theorem Vals.get:∀{xs:List V} {us:List Value} {i:Nat} {x:V},Vals xs us->xs[i]?=some x->∃u,us[i]?=some u/\RelV x u
 |_,_,_,_,.nil,e=>by simp at e
 |_,_,0,_,.cons r _,e=>by simp at e;subst e;exact⟨_,rfl,r⟩
 |_,_,i+1,x,.cons _ t,e=>by
  obtain⟨u,h1,h2⟩:=Vals.get (i:=i) (x:=x) t (by simpa using e);exact⟨u,by simpa using h1,h2⟩
theorem Vals.set {x:V}{u:Value}(r:RelV x u):∀{xs:List V} {us:List Value} (i:Nat),Vals xs us->Vals (xs.set i x) (us.set i u)
 |_,_,_,.nil=>.nil
 |_,_,0,.cons _ t=>.cons r t
 |_,_,i+1,.cons q t=>.cons q (Vals.set r i t)
theorem Vals.append:∀{xs ys:List V} {us ws:List Value},Vals xs us->Vals ys ws->Vals (xs++ys) (us++ws)
 |_,_,_,_,.nil,s=>s
 |_,_,_,_,.cons r t,s=>.cons r (Vals.append t s)
theorem Vals.take:∀{xs:List V} {us:List Value} (n:Nat),Vals xs us->Vals (xs.take n) (us.take n)
 |_,_,0,_=>.nil
 |_,_,_+1,.nil=>.nil
 |_,_,n+1,.cons r t=>.cons r (Vals.take n t)
theorem Vals.drop:∀{xs:List V} {us:List Value} (n:Nat),Vals xs us->Vals (xs.drop n) (us.drop n)
 |_,_,0,r=>r
 |_,_,_+1,.nil=>.nil
 |_,_,n+1,.cons _ t=>Vals.drop n t
def oV:Option V->Option Value->Prop
 |some v,some u=>RelV v u
 |none,none=>True
 |_,_=>False
def KV{κ:Type}:List (κ×V)->List (κ×Value)->Prop:=Paired fun(p:κ×V) (q:κ×Value)=>p.1=q.1/\RelV p.2 q.2
def kV:Key->V
 |.inl i=>.int i
 |.inr x=>.str x
inductive HO where
 |lst (xs:List V)
 |tup (xs:List V)
 |dK (aw:List (Key×V))|dT (aw:List (List Key×V))
 |set (S:Int->Bool) (n:Nat)
 |ins (C dx:Addr) (fs:List (Str×V))
 |own (x:Addr)
 |xd (fs:List (Str×V))
 |met (f x:Addr)
 |Q0 (lo hi:Int)
 |gk (o:Obj) (u:HO)
 |wB (ps:Array Value)
 |ext (φ:Heap->Prop)
abbrev Hp:=Addr->Option HO
def upd(H:Hp)(a:Addr)(o:HO):Hp:=fun b=>if b=a then some o else H b
theorem aG{H:Hp}{a:Addr}{o:HO}:upd H a o a=some o:=by unfold upd;rw[ab rfl]
theorem aj{H:Hp}{a b:Addr}{o:HO}(h:b≠a):upd H a o b=H b:=by unfold upd;rw[af h]
theorem MT{H:Hp}{a b:Addr}{o u:HO}(h:H a=some o)(h':H b=some u)(d:o≠u):a≠b:=by
 intro e;subst e;rw[h]at h';exact d (Option.some.inj h')
theorem aQ{H:Hp}{a b:Addr}{o:HO}(h:H a=some o)(h':H b=none):a≠b:=by
 intro e;subst e;rw[h]at h';cases h'
section
variable (P:Program)(w:World)
def l_(h:Heap)(a:Addr)(items:Array Value):Prop:=∃o,h.get? a=some o/\o.cls=.type "tuple"/\∃n,o.data=.seq items n/\o.dict=none
theorem l_.tup {h:Heap}{a:Addr}{items:Array Value}(x:l_ h a items):IsTup h a items:=let⟨o,h1,h2,n,h3,_⟩:=x;⟨o,h1,h2,n,h3⟩
theorem l_.new (h:Heap)(items:Array Value):l_ (h.push {cls:=.type "tuple",data:=.seq items}) h.objs.size items:=⟨_,aU _ rfl,rfl,_,rfl,rfl⟩
def bQ(H:Hp)(h:Heap)(a:Addr):HO->Prop
 |.lst xs=>xs.length<=sizeLine/\∃(aZ:List Value) (n:Nat),Vals xs aZ/\h.get? a=some {cls:=.type "list",data:=.seq aZ.toArray n}
 |.tup xs=>xs.length<=sizeLine/\∃aZ:List Value,Vals xs aZ/\l_ h a aZ.toArray
 |.dK aw=>aw.length<=sizeLine/\(a==sysModules)=false/\∃vs,KV aw vs/\h.DictOf (ay P w) a vs
 |.dT aw=>aw.length<=sizeLine/\(a==sysModules)=false/\∃xs:List (List Key×Addr×Value),
   Paired (fun(p:List Key×V) (q:List Key×Addr×Value)=>p.1=q.1/\H q.2.1=some (.tup (p.1.map kV))/\RelV p.2 q.2.2) aw xs/\
   ∃o es ep,h.get? a=some o/\o.ExactDict/\o.data=.dict es ep/\es.toList=xs.map (entryOfKey (tupleKind (ay P w)))/\(xs.map (·.1)).Nodup
 |.set S n=>h.SetOf (intKind P w) a S n
 |.ins C dx fs=>H dx=some (.own a)/\fs.length<=1000/\dx≠a/\h.get? a=some (PySem.W.instObj C dx)/\
   ∃mA,h.Ns1 dx mA/\(∀f,oV (fs.lookup f) (mA f))/\PySem.Within mA (fs.map (·.1))
 |.own _=>∃o,h.get? a=some o
 |.xd fs=>∃mA,h.Ns1 a mA/\∀f,oV (fs.lookup f) (mA f)
 |.Q0 lo hi=>∃t u v,h.get? a=some {cls:=.type "range",data:=.fields #[.int lo t,.int hi u,.int 1 v]}
 |.gk o u=>h.get? a=some o/\bQ H h a u
 |.wB ps=>∃qs:Array Value,h.get? a=some {cls:=.none,data:=.fields qs}/\TriplesOk qs.toList/\∀pos v,codeAmong pos qs.toList=some v->∃c oc vs q t,v=.ref c/\ps=#[.str q 0]/\H c=some (.own a)/\h.get? c=some oc/\oc.data=.fields vs/\vs[1]?=some (.str q t)
 |.met f x=>h.get? a=some (PySem.W.methodObj (.ref f) (.ref x))
 |.ext φ=>φ h/\(∃o,h.get? a=some o)/\∀h1 h2:Heap,φ h1->(∀o,h1.get? a=some o->h2.get? a=some o)->φ h2
def lZ(H:Hp)(h:Heap):Prop:=∀a o,H a=some o->bQ P w H h a o
end
section
variable {P:Program}{w:World}{H H':Hp}{h h':Heap}{a:Addr}{o:HO}
theorem bQ.lt (x:bQ P w H h a o):a<h.objs.size:=by
 cases o with
 |lst xs=>obtain⟨_,_,_,_,e⟩:=x;exact ar e
 |tup xs=>obtain⟨_,_,_,p⟩:=x;exact p.tup.lt
 |dK aw=>obtain⟨_,_,_,_,o,_,_,e,_⟩:=x;exact ar e
 |dT aw=>obtain⟨_,_,_,_,o,_,_,e,_⟩:=x;exact ar e
 |set S n=>obtain⟨o,_,_,_,e,_⟩:=x;exact ar e
 |ins C dx fs=>obtain⟨_,_,_,e,_⟩:=x;exact ar e
 |own y=>obtain⟨_,e⟩:=x;exact ar e
 |xd fs=>obtain⟨_,⟨_,_,_,e,_⟩,_⟩:=x;exact ar e
 |Q0 lo hi=>obtain⟨_,_,_,e⟩:=x;exact ar e
 |gk ob u=>obtain⟨e,_⟩:=x;exact ar e
 |wB ps=>obtain⟨qs,e,_⟩:=x;exact ar e
 |met f y=>exact ar (show h.get? a=some _ from x)
 |ext φ=>obtain⟨_,⟨_,e⟩,_⟩:=x;exact ar e
theorem Paired.Ju {α β:Type}{F G:α->β->Prop}:∀{MU:List α} {MV:List β},Paired F MU MV->(∀a b,F a b->G a b)->Paired G MU MV
 |_,_,.nil,_=>.nil
 |_,_,.cons r t,f=>.cons (f _ _ r) (Paired.Ju t f)
theorem bQ.ma (x:bQ P w H h a o)(k:∀b u,(b=a\/H b=some (.own a))->h.get? b=some u->h'.get? b=some u)
  (ho:∀b,H b=some (.own a)->H' b=some (.own a)) (ht:∀b xs,H b=some (.tup xs)->H' b=some (.tup xs)):bQ P w H' h' a o:=by
 induction o with
 |lst xs=>obtain⟨z,aZ,n,r,e⟩:=x;exact⟨z,aZ,n,r,k _ _ (.inl rfl) e⟩
 |tup xs=>obtain⟨z,aZ,r,ob,e,c⟩:=x;exact⟨z,aZ,r,ob,k _ _ (.inl rfl) e,c⟩
 |dK aw=>obtain⟨z,y,vs,r,ob,es,ep,e,c⟩:=x;exact⟨z,y,vs,r,ob,es,ep,k _ _ (.inl rfl) e,c⟩
 |dT aw=>
  obtain⟨z,y,xs,r,ob,es,ep,e,c⟩:=x;exact⟨z,y,xs,Paired.Ju r fun p q z=>⟨z.1,ht _ _ z.2.1,z.2.2⟩,ob,es,ep,k _ _ (.inl rfl) e,c⟩
 |set S n=>obtain⟨ob,es,ep,t,e,c⟩:=x;exact⟨ob,es,ep,t,k _ _ (.inl rfl) e,c⟩
 |ins C dx fs=>
  obtain⟨d,z,ne,e,mA,⟨od,es,ep,e2,c⟩,r⟩:=x;exact⟨ho _ d,z,ne,k _ _ (.inl rfl) e,mA,⟨od,es,ep,k _ _ (.inr d) e2,c⟩,r⟩
 |own y=>obtain⟨ob,e⟩:=x;exact⟨ob,k _ _ (.inl rfl) e⟩
 |xd fs=>obtain⟨mA,⟨od,es,ep,e,c⟩,r⟩:=x;exact⟨mA,⟨od,es,ep,k _ _ (.inl rfl) e,c⟩,r⟩
 |Q0 lo hi=>obtain⟨t,u,v,e⟩:=x;exact⟨t,u,v,k _ _ (.inl rfl) e⟩
 |gk ob u ih=>obtain⟨e,q⟩:=x;exact⟨k _ _ (.inl rfl) e,ih q⟩
 |wB ps=>
  obtain⟨qs,e,tr,r⟩:=x;exact⟨qs,k _ _ (.inl rfl) e,tr,fun pos v z=>by
   obtain⟨c,oc,vs,q,t,e1,e2,e3,e4,e5⟩:=r pos v z;exact⟨c,oc,vs,q,t,e1,e2,ho _ e3,k _ _ (.inr e3) e4,e5⟩⟩
 |met f y=>
  have e:h.get? a=some (PySem.W.methodObj (.ref f) (.ref y)):=x;show h'.get? a=some (PySem.W.methodObj (.ref f) (.ref y));exact k a _ (.inl rfl) e
 |ext φ=>obtain⟨p,⟨o,e⟩,st⟩:=x;exact⟨st _ _ p fun o q=>k _ _ (.inl rfl) q,⟨o,k _ _ (.inl rfl) e⟩,st⟩
theorem lZ.lt (x:lZ P w H h)(e:H a=some o):a<h.objs.size:=(x a o e).lt
theorem lZ.fresh (x:lZ P w H h)(e:h.objs.size<=a):H a=none:=by
 cases q:H a with
 |none=>rfl
 |some u=>exact absurd (bN (x.lt q) e) (cX _)
theorem lZ.kept (x:lZ P w H h)(k:∀b u,h.get? b=some u->h'.get? b=some u):lZ P w H h':=fun a o e=>
 (x a o e).ma (fun b u _ q=>k b u q) (fun _ q=>q) fun _ _ q=>q
theorem lZ.laid (x:lZ P w H h)(k:∀b u,h.get? b=some u->h'.get? b=some u)(hp:h.objs.size<=a)(new:bQ P w (upd H a o) h' a o):lZ P w (upd H a o) h':=fun b u e=>by
 have hn:=x.fresh hp;by_cases hb:b=a
 ·subst hb;rw[aG]at e;cases e;exact new
 ·rw[aj hb]at e;exact(x b u e).ma (fun c v _ q=>k c v q) (fun c q=>by rw[aj (aQ q hn)];exact q) fun c xs q=>by rw[aj (aQ q hn)];exact q
end
def Rd(H:Hp)(a:Addr)(u:HO):Prop:=H a=some u\/∃o,H a=some (.gk o u)
theorem Rd.ok {P:Program}{w:World}{H:Hp}{h:Heap}{a:Addr}{u:HO}(r:Rd H a u)(x:lZ P w H h):bQ P w H h a u:=by
 rcases r with r|⟨o,r⟩
 ·exact x a u r
 ·obtain⟨_,q⟩:=x a _ r;exact q
def MW:Option HO->Prop
 |some (.lst _)=>True
 |some (.dK _)=>True
 |some (.dT _)=>True
 |some (.set _ _)=>True
 |some (.ins _ _ _)=>True
 |some (.ext _)=>True
 |_=>False
section
variable {P:Program}{w:World}{H:Hp}{h h':Heap}{x e:Addr}{o':HO}
theorem lZ.write (ok:lZ P w H h)(mu:MW (H x))(he:e=x\/H e=some (.own x))(k:∀b u,b≠e->h.get? b=some u->h'.get? b=some u)(Mi:∃u,h'.get? e=some u)
  (new:bQ P w (upd H x o') h' x o'):lZ P w (upd H x o') h':=fun b u q=>by
 have MX:∀c y,H c=some (.own y)->c≠x:=fun c y r z=>by subst z;rw[r]at mu;exact mu
 have RZ:∀c xs,H c=some (.tup xs)->c≠x:=fun c xs r z=>by subst z;rw[r]at mu;exact mu
 by_cases hb:b=x
 ·subst hb;rw[aG]at q;cases q;exact new
 ·rw[aj hb]at q;by_cases Jv:b=e
  ·have q':H b=some (.own x):=by
    rcases he with z|z
    ·exact absurd (Jv.trans z) hb
    ·rw[Jv];exact z
   rw[q]at q';cases q';obtain⟨v,hv⟩:=Mi;exact⟨v,by rw[Jv];exact hv⟩
  ·refine(ok b u q).ma (fun c v hc r=>k c v ?_ r) (fun c r=>by rw[aj (MX c b r)];exact r) fun c xs r=>by rw[aj (RZ c xs r)];exact r
   rcases hc with rfl|hc
   ·exact Jv
   ·rintro rfl
    rcases he with z|z
    ·exact MX c b hc z
    ·rw[hc]at z;cases z;exact hb rfl
end
structure Un(fs ex:List Addr)(H H':Hp)(h h':Heap):Prop where
 keep:∀b o,h.get? b=some o->H b=none->b∉fs->b∉ex->h'.get? b=some o
 slot:∀b o,h.get? b=some o->H b=none->b∈fs->b∉ex->∃sl,h'.get? b=some {o with slots:=sl}
 free:∀b o,h.get? b=some o->H b=none->b∉ex->H' b=none
 there:∀b o,h.get? b=some o->b∉ex->∃o',h'.get? b=some o'
 lS:∀b xs,H b=some (.tup xs)->H' b=some (.tup xs)
 jY:∀b o u,H b=some (.gk o u)->H' b=some (.gk o u)
 kC:∀b ps,H b=some (.wB ps)->∃more,H' b=some (.wB (ps++more))
section
variable {fs BC ex YK:List Addr}{H H1 H2:Hp}{h h1 h2 h':Heap}{a x e:Addr}{o:HO}
theorem Un.any (u:Un fs ex H H1 h h1){b:Addr}{ob:Obj}(q:h.get? b=some ob)(n:H b=none)(hx:b∉ex):∃sl,h1.get? b=some {ob with slots:=sl}:=by
 by_cases hb:b∈fs
 ·exact u.slot b ob q n hb hx
 ·exact⟨ob.slots,u.keep b ob q n hb hx⟩
theorem Un.trans (a:Un fs ex H H1 h h1)(b:Un fs ex H1 H2 h1 h2):Un fs ex H H2 h h2 where
 keep:=fun c ob q n hc hx=>b.keep c ob (a.keep c ob q n hc hx) (a.free c ob q n hx) hc hx
 slot:=fun c ob q n hc hx=>by
  obtain⟨sl,e1⟩:=a.slot c ob q n hc hx;obtain⟨R0,e2⟩:=b.slot c _ e1 (a.free c ob q n hx) hc hx;exact⟨R0,e2⟩
 free:=fun c ob q n hx=>by
  obtain⟨o',e1⟩:=a.there c ob q hx;exact b.free c o' e1 (a.free c ob q n hx) hx
 there:=fun c ob q hx=>by
  obtain⟨o',e1⟩:=a.there c ob q hx;exact b.there c o' e1 hx
 lS:=fun c xs q=>b.lS c xs (a.lS c xs q)
 jY:=fun c ob xs q=>b.jY c ob xs (a.jY c ob xs q)
 kC:=fun c ps q=>by
  obtain⟨m1,e1⟩:=a.kC c ps q;obtain⟨m2,e2⟩:=b.kC c _ e1;exact⟨m1++m2,by rw[e2,Array.append_assoc]⟩
theorem Un.kept (k:∀b u,h.get? b=some u->h'.get? b=some u):Un fs ex H H h h':=
 ⟨fun b ob q _ _ _=>k b ob q,fun b ob q _ _ _=>⟨ob.slots,k b ob q⟩,fun _ _ _ n _=>n,fun b ob q _=>⟨ob,k b ob q⟩,fun _ _ q=>q,fun _ _ _ q=>q,fun _ ps q=>⟨#[],by rw[q];simp⟩⟩
theorem Un.refl:Un fs ex H H h h:=Un.kept fun _ _ q=>q
theorem Un.laid (k:∀b u,h.get? b=some u->h'.get? b=some u)(hp:h.objs.size<=a)(hn:H a=none):Un fs ex H (upd H a o) h h' where
 keep:=fun b u q _ _ _=>k b u q
 slot:=fun b u q _ _ _=>⟨u.slots,k b u q⟩
 free:=fun b u q n _=>by rw[aj (aM (bN (ar q) hp))];exact n
 there:=fun b u q _=>⟨u,k b u q⟩
 lS:=fun b xs q=>by rw[aj (aQ q hn)];exact q
 jY:=fun b u xs q=>by rw[aj (aQ q hn)];exact q
 kC:=fun b ps q=>⟨#[],by rw[aj (aQ q hn),q];simp⟩
theorem Un.write (mu:MW (H x))(he:e=x\/H e=some (.own x))(k:∀b u,b≠e->h.get? b=some u->h'.get? b=some u)(Mi:∃u,h'.get? e=some u):Un fs ex H (upd H x o) h h':=by
 have hx:∀b,H b=none->b≠x:=fun b n z=>by subst z;rw[n]at mu;exact mu
 have hb:∀b,H b=none->b≠e:=fun b n z=>by
  subst z;rcases he with r|r
  ·exact hx b n r
  ·rw[n]at r;cases r
 have hm:∀b u,H b=some u->¬MW (some u)->b≠x:=fun b u q nm z=>by subst z;rw[q]at mu;exact nm mu
 refine⟨fun b u q n _ _=>k b u (hb b n) q,fun b u q n _ _=>⟨u.slots,k b u (hb b n) q⟩,fun b u q n _=>by rw[aj (hx b n)];exact n,fun b u q _=>?_,
  fun b xs q=>by rw[aj (hm b _ q fun z=>z)];exact q,fun b u xs q=>by rw[aj (hm b _ q fun z=>z)];exact q,fun b ps q=>⟨#[],by rw[aj (hm b _ q fun z=>z),q];simp⟩⟩
 by_cases Jv:b=e
 ·subst Jv;exact Mi
 ·exact⟨u,k b u Jv q⟩
end
def Q1(h:Heap)(H:Hp):List Addr:=(List.range h.objs.size).filter fun a=>(H a).isSome
def vt(h:Heap)(H:Hp):Heap:=PySem.W.hideAll h (Q1 h H)
theorem BD(h:Heap)(H:Hp):(vt h H).objs.size=h.objs.size:=PySem.W.hideAll_size _ _
theorem Dh{h:Heap}{H:Hp}{b:Addr}{o:Obj}(e:h.get? b=some o)(n:H b=none):(vt h H).get? b=some o:=
 mW _ e fun hm=>by
  have q:(H b).isSome=true:=(cx.mp hm).2;rw[n]at q;simp at q
theorem FW{h:Heap}{H:Hp}{b:Addr}{o:Obj}(e:(vt h H).get? b=some o):h.get? b=some o/\H b=none:=by
 have e':h.get? b=some o:=rg (Q1 h H) e;refine⟨e',?_⟩;cases q:H b with
 |none=>rfl
 |some x=>
  have hm:b∈Q1 h H:=cx.mpr ⟨cC.mpr (ar e'),by simp[q]⟩;have z:(vt h H).get? b=none:=mU (Q1 h H) hm;rw[z]at e;cases e
end L2
namespace L2
open PySem PySem.Spec PyProof.Rows
structure Mod(K:PySem.W.Frag)(mg:Str->Option Value)(base:Heap):Prop where
 MY:K.In base
 glob:base.Ns mainGlobals mg
 blt:∃mb,base.Ns builtinsNs mb/\∀x:Str,x≠"__name__"->mb x=bootBuiltins x
 nolimit:base.NoLimit
 bm:∃bm ob,mg "__builtins__"=some (.ref bm)/\bm≠builtinsNs/\bm≠mainGlobals/\base.get? bm=some ob/\ob.cls=.type "module"/\ob.dict=some builtinsNs/\ob.data=.plain
structure Cx where
 prog:Program
 w:World
 K:PySem.W.Frag
 mg:Str->Option Value
 base:Heap
 A:Around
 N:List Str
 fb:Shared
 wQ:Hp
 env:Env
 outer:List Env
 stack:List Env
 ex:List Addr
 fn:Str->Bool
 calm:Bool
 pn:List (Addr×Obj)
 xe:Value->Shared->Prop
def nO(l:List Env):List Addr:=l.filterMap (·.frame)
abbrev Cx.fs (X:Cx):List Addr:=nO X.outer
def Jw(sc:Scope)(x:Str):Prop:=sc.names.lookup x=some .local\/sc.names.lookup x=some .cell\/sc.names.lookup x=some .free
def Loc(sc:Scope)(x:Str):Prop:=sc.names.lookup x=some .local\/sc.names.lookup x=some .cell
def Look(env:Env)(h:Heap)(m:Str->Option Value)(x:Str)(u:Value):Prop:=
 (env.kindOf x=some .local/\m x=some u)\/((env.kindOf x=some .cell\/env.kindOf x=some .free)/\∃c,env.cells.lookup x=some c/\h.IsCell c (some u))
structure Cx.Ok (X:Cx):Prop where
 mod:Mod X.K X.mg X.base
 kind:X.env.scope.kind=.function
 glob:X.env.globals=mainGlobals
 blt:X.env.builtins=builtinsNs
 above:X.fb.heap.objs.size<=X.env.locals
 inj:∀x y c,X.env.cells.lookup x=some c->X.env.cells.lookup y=some c->x=y
 has:∀x,(X.env.kindOf x=some .cell\/X.env.kindOf x=some .free)->∃c,X.env.cells.lookup x=some c
 MZ:∀x c,X.fn x=true->X.env.cells.lookup x=some c->X.fb.heap.objs.size<=c
 hd:X.calm=true->X.A.handled=none
 frames:X.A.frames=some X.stack
 Mj:X.stack=X.outer\/(X.stack=X.env::X.outer/\X.env.frame=some X.env.locals)
 R1:∀b∈X.ex,b≠X.env.locals/\∀x c,X.env.cells.lookup x=some c->c≠b
 bs:∀b o,X.base.get? b=some o->X.fb.heap.get? b=some o/\X.wQ b=none
 Ic:X.base.objs.size<=X.fb.heap.objs.size
 BE:∀b o,X.base.get? b=some o->b∉X.ex
 Di:∀b∈X.ex,b∉X.fs
 rS:X.fb.heap.FunFrames X.base X.outer
 Ml:∀b∈X.fs,X.wQ b=none
structure Inv(X:Cx)(pins:List (Addr×Obj))(σ:List (Option V))(H:Hp)(s:Shared):Prop where
 ok:X.Ok
 os:s.os=X.fb.os
 bare:AllBare s.gens
 base:Un X.fs X.ex X.wQ H X.fb.heap s.heap
 loc:∃m,s.heap.Ns X.env.locals m/\∀(i:Nat) (x:Str) (v:V),X.N[i]?=some x->σ[i]?=some (some v)->Jw X.env.scope x->∃u,RelV v u/\Look X.env s.heap m x u
 cell:∀x c,X.env.cells.lookup x=some c->∃v,s.heap.IsCell c v
 free:H X.env.locals=none
 gD:∀x c,X.env.cells.lookup x=some c->H c=none
 pin:∀p∈X.pn++pins,s.heap.get? p.1=some p.2/\H p.1=none/\p.1≠X.env.locals/\p.1∉X.fs/\∀v,p.2.data≠ .cell v
 cp:lZ X.prog X.w H s.heap
 len:σ.length=X.N.length
section
variable {X:Cx}{pins:List (Addr×Obj)}{σ:List (Option V)}{H H':Hp}{s:Shared}{h':Heap}
theorem Cx.Ok.R3 (ok:X.Ok){b:Addr}{o:Obj}(e:X.base.get? b=some o):b∉X.fs:=fun hb=>by
 have:=(ok.rS.mem hb).1;rw[e]at this;cases this
theorem Inv.bs (I:Inv X pins σ H s):∀b o,X.base.get? b=some o->s.heap.get? b=some o/\H b=none:=fun b o e=>
 ⟨I.base.keep b o (I.ok.bs b o e).1 (I.ok.bs b o e).2 (I.ok.R3 e) (I.ok.BE b o e),I.base.free b o (I.ok.bs b o e).1 (I.ok.bs b o e).2 (I.ok.BE b o e)⟩
theorem Inv.bk (I:Inv X pins σ H s):∀b o,X.base.get? b=some o->s.heap.get? b=some o:=fun b o e=>(I.bs b o e).1
theorem Inv.mod (I:Inv X pins σ H s):Mod X.K X.mg X.base:=I.ok.mod
theorem Inv.qe (I:Inv X pins σ H s):X.K.In s.heap:=I.ok.mod.MY.keeps I.bk
theorem Inv.nolimit (I:Inv X pins σ H s):s.heap.NoLimit:=I.ok.mod.nolimit.keeps I.bk
theorem Inv.fr (I:Inv X pins σ H s):∃m,Fr X.base X.env.locals s.heap m:=
 let⟨m,hn,_⟩:=I.loc
 ⟨m,hn,I.bk,bx I.ok.Ic I.ok.above⟩
theorem Inv.lt (I:Inv X pins σ H s):X.env.locals<s.heap.objs.size:=let⟨_,hn,_⟩:=I.loc;hn.lt
theorem Inv.sz (I:Inv X pins σ H s):X.fb.heap.objs.size<=s.heap.objs.size:=bx I.ok.above (gf I.lt)
theorem Inv.R4 (I:Inv X pins σ H s){a:Addr}(h:s.heap.objs.size<=a):a∉X.fs:=fun hb=>by
 obtain⟨_,o,ho,_⟩:=I.ok.rS.mem hb;exact absurd (bN (ar ho) (bx I.sz h)) (cX _)
theorem Inv.Dj (I:Inv X pins σ H s):∀x c,X.env.cells.lookup x=some c->c≠X.env.locals:=fun x c e z=>by
 obtain⟨v,o,ho,hd⟩:=I.cell x c e;obtain⟨m,⟨o',es,ep,wR,Dl,_⟩,_⟩:=I.loc;rw[z,wR]at ho;cases ho;rw[Dl]at hd;cases hd
theorem Inv.rS (I:Inv X pins σ H s):s.heap.FunFrames X.base X.outer:=by
 have all:∀(l:List Env),(∀b∈nO l,b∈X.fs)->X.fb.heap.FunFrames X.base l->s.heap.FunFrames X.base l:=by
  intro l
  induction l with
  |nil=>intro _ _;trivial
  |cons env r ih=>
   intro hs hl;obtain⟨hk,⟨L,o,hf,hn,ho,hd⟩,hr⟩:=hl;have hL:L∈X.fs:=hs L (by unfold nO;rw[gU,hf];exact aS);obtain⟨sl,e⟩:=I.base.slot L o ho (I.ok.Ml L hL) hL fun z=>I.ok.Di L z hL;exact⟨hk,⟨L,_,hf,hn,e,hd⟩,ih (fun b hb=>hs b (by unfold nO;rw[gU,hf];exact aO _ hb)) hr⟩
 exact all X.outer (fun _ hb=>hb) I.ok.rS
theorem Inv.stack (I:Inv X pins σ H s):s.heap.FunFrames X.base X.stack:=by
 rcases I.ok.Mj with e|⟨e,hf⟩
 ·rw[e];exact I.rS
 ·rw[e];obtain⟨m,hn,_⟩:=I.loc;refine .cons (by rw[I.ok.kind];decide) hf hn ?_ I.rS
  exact ka (bx I.ok.Ic I.ok.above)
theorem Inv.yG (I:Inv X pins σ H s):∀b∈nO X.stack,b∈X.env.locals::X.fs:=fun b hb=>by
 rcases I.ok.Mj with e|⟨e,hf⟩
 ·rw[e]at hb;exact aO _ hb
 ·rw[e]at hb;unfold nO at hb;rw[gU,hf]at hb;exact hb
theorem Inv.vu (I:Inv X pins σ H s):∀b∈nO X.stack,H b=none:=fun b hb=>by
 rcases aN.mp (I.yG b hb)with e|hb
 ·rw[e];exact I.free
 ·obtain⟨_,o,ho,_⟩:=I.ok.rS.mem hb;exact I.base.free b o ho (I.ok.Ml b hb) fun z=>I.ok.Di b z hb
theorem Inv.step {g':Array GenState}{t':Nat}{d':Drawn}{ch:List Addr}(I:Inv X pins σ H s)
  (uv:∀b∈ch,(b∈X.ex\/X.fb.heap.objs.size<=b)/\b≠X.env.locals/\(∀x c,X.env.cells.lookup x=some c->c≠b)/\∀p∈X.pn++pins,p.1≠b)
  (keep:∀b o,b≠X.env.locals->b∉X.fs->b∉ch->s.heap.get? b=some o->H b=none->h'.get? b=some o)
  (slot:∀b o,b≠X.env.locals->b∈X.fs->b∉ch->s.heap.get? b=some o->H b=none->∃sl,h'.get? b=some {o with slots:=sl}) (free:∀b o,b∉ch->s.heap.get? b=some o->H b=none->H' b=none)
  (there:∀b o,b∉ch->s.heap.get? b=some o->∃o',h'.get? b=some o')
  (lS:∀b xs,H b=some (.tup xs)->H' b=some (.tup xs)) (jY:∀b o u,H b=some (.gk o u)->H' b=some (.gk o u)) (kC:∀b ps,H b=some (.wB ps)->∃more,H' b=some (.wB (ps++more)))
  (ns:∀m,s.heap.Ns X.env.locals m->h'.Ns X.env.locals m) (cp:lZ X.prog X.w H' h') (hg:AllBare g'):
  Inv X pins σ H' {s with heap:=h',gens:=g',drawn:=d',toks:=t'}:=by
 have Vg:∀b o,X.fb.heap.get? b=some o->b≠X.env.locals:=fun b o e=>aM (bN (ar e) I.ok.above);have tY:∀b o,X.fb.heap.get? b=some o->b∉X.ex->b∉ch:=fun b o e hx hb=>by
  rcases(uv b hb).1 with z|z
  ·exact hx z
  ·exact absurd (bN (ar e) z) (cX _)
 have cellK:∀x c,X.env.cells.lookup x=some c->∀v,s.heap.IsCell c v->h'.IsCell c v:=fun x c e v ⟨o,ho,hd⟩=>by
  have Dm:c∉ch:=fun z=>(uv c z).2.2.1 x c e rfl;by_cases hc:c∈X.fs
  ·obtain⟨sl,q⟩:=slot c o (I.Dj x c e) hc Dm ho (I.gD x c e);exact⟨_,q,hd⟩
  ·exact⟨o,keep c o (I.Dj x c e) hc Dm ho (I.gD x c e),hd⟩
 refine⟨I.ok,I.os,hg,⟨fun b o e n hb hx=>?_,fun b o e n hb hx=>?_,fun b o e n hx=>?_,fun b o e hx=>?_,fun b xs e=>lS b xs (I.base.lS b xs e),fun b o xs e=>jY b o xs (I.base.jY b o xs e),fun b ps e=>?_⟩,?_,fun x c e=>?_,?_,fun x c e=>?_,fun p hp=>?_,cp,I.len⟩
 ·exact keep b o (Vg b o e) hb (tY b o e hx) (I.base.keep b o e n hb hx) (I.base.free b o e n hx)
 ·obtain⟨sl,e1⟩:=I.base.slot b o e n hb hx;obtain⟨R0,e2⟩:=slot b _ (Vg b o e) hb (tY b o e hx) e1 (I.base.free b o e n hx);exact⟨R0,e2⟩
 ·obtain⟨o',e1⟩:=I.base.there b o e hx;exact free b o' (tY b o e hx) e1 (I.base.free b o e n hx)
 ·obtain⟨o',e1⟩:=I.base.there b o e hx;exact there b o' (tY b o e hx) e1
 ·obtain⟨m1,e1⟩:=I.base.kC b ps e;obtain⟨m2,e2⟩:=kC b _ e1;exact⟨m1++m2,by rw[e2,Array.append_assoc]⟩
 ·obtain⟨m,hn,hl⟩:=I.loc;refine⟨m,ns m hn,fun i x v e1 e2 e3=>?_⟩;obtain⟨u,r,l⟩:=hl i x v e1 e2 e3;refine⟨u,r,?_⟩;rcases l with l|⟨k,c,e,z⟩
  ·exact .inl l
  ·exact .inr ⟨k,c,e,cellK x c e _ z⟩
 ·obtain⟨v,z⟩:=I.cell x c e;exact⟨v,cellK x c e v z⟩
 ·obtain⟨m,⟨o,_,_,ho,_⟩,_⟩:=I.loc;exact free _ o (fun z=>(uv _ z).2.1 rfl) ho I.free
 ·obtain⟨v,o,ho,hd⟩:=I.cell x c e;exact free c o (fun z=>(uv c z).2.2.1 x c e rfl) ho (I.gD x c e)
 ·obtain⟨e,n,ne,nf,d⟩:=I.pin p hp;have Dm:p.1∉ch:=fun z=>(uv p.1 z).2.2.2 p hp rfl;exact⟨keep p.1 p.2 ne nf Dm e n,free p.1 p.2 Dm e n,ne,nf,d⟩
theorem Inv.un {t':Nat}(I:Inv X pins σ H s)(u:Un X.fs [] H H' s.heap h')(cp:lZ X.prog X.w H' h'):Inv X pins σ H' {s with heap:=h',toks:=t'}:=by
 obtain⟨m,⟨o,es,ep,ho,r⟩,_⟩:=id I.loc;obtain⟨sl,hL⟩:=u.any ho I.free (by simp);exact I.step (g':=s.gens) (d':=s.drawn) (ch:=[]) (fun _ z=>nomatch z) (fun b o _ hb _ e n=>u.keep b o e n hb (by simp)) (fun b o _ hb _ e n=>u.slot b o e n hb (by simp)) (fun b o _ e n=>u.free b o e n (by simp)) (fun b o _ e=>u.there b o e (by simp)) u.lS u.jY u.kC (fun m' hm=>by
  obtain⟨o',FX,vw,wR,r'⟩:=hm;rw[ho]at wR;cases wR;exact⟨_,FX,vw,hL,r'⟩) cp I.bare
theorem Inv.call {g':Array GenState}{t':Nat}{d':Drawn}{ch:List Addr}(I:Inv X pins σ H s)(u:Un (nO X.stack) ch H H' s.heap h')(cp:lZ X.prog X.w H' h')(hg:AllBare g')
  (uv:∀b∈ch,(b∈X.ex\/X.fb.heap.objs.size<=b)/\b≠X.env.locals/\(∀x c,X.env.cells.lookup x=some c->c≠b)/\∀p∈X.pn++pins,p.1≠b):
  Inv X pins σ H' {s with heap:=h',gens:=g',drawn:=d',toks:=t'}:=by
 obtain⟨m,⟨o,es,ep,ho,r⟩,_⟩:=id I.loc;obtain⟨sl,hL⟩:=u.any ho I.free fun z=>(uv _ z).2.1 rfl;exact I.step (ch:=ch) uv (fun b o hL hb hc e n=>u.keep b o e n (fun z=>(aN.mp (I.yG b z)).elim hL hb) hc) (fun b o _ _ hc e n=>u.any e n hc) (fun b o hc e n=>u.free b o e n hc) (fun b o hc e=>u.there b o e hc) u.lS u.jY u.kC (fun m' hm=>by
  obtain⟨o',FX,vw,wR,r'⟩:=hm;rw[ho]at wR;cases wR;exact⟨_,FX,vw,hL,r'⟩) cp hg
theorem Inv.turned {t':Nat}{it:Addr}(I:Inv X pins σ H s)(k:∀b o,b≠it->s.heap.get? b=some o->h'.get? b=some o)(hn:H it=none)(hL:it≠X.env.locals)
  (h1:it∈X.ex\/X.fb.heap.objs.size<=it) (h2:∀x c,X.env.cells.lookup x=some c->c≠it) (h3:∀p∈X.pn++pins,p.1≠it):Inv X pins σ H {s with heap:=h',toks:=t'}:=by
 have Vh:∀b u,H b=some u->b≠it:=fun b u e z=>by rw[z,hn]at e;cases e
 refine I.step (g':=s.gens) (d':=s.drawn) (ch:=[it]) (fun b hb=>?_) (fun b o _ _ hc e _=>k b o (fun z=>hc (by simp[z])) e) (fun b o _ _ hc e _=>⟨o.slots,k b o (fun z=>hc (by simp[z])) e⟩) (fun _ _ _ _ n=>n)
  (fun b o hc e=>⟨o,k b o (fun z=>hc (by simp[z])) e⟩) (fun _ _ e=>e) (fun _ _ _ e=>e) (fun b ps e=>⟨#[],by rw[e];simp⟩) (fun m hm=>?_) (fun b u e=>?_) I.bare
 ·have e:b=it:=by simpa using hb
  subst e;exact⟨h1,hL,h2,h3⟩
 ·obtain⟨o,es,ep,ho,r⟩:=hm;exact⟨o,es,ep,k _ o (cv hL) ho,r⟩
 ·refine(I.cp b u e).ma (fun c v hc q=>k c v ?_ q) (fun _ q=>q) fun _ _ q=>q;rcases hc with z|z
  ·rw[z];exact Vh b u e
  ·exact Vh c _ z
theorem Inv.tok (I:Inv X pins σ H s)(t:Nat):Inv X pins σ H {s with toks:=t}:=I.un (h':=s.heap) (t':=t) Un.refl I.cp
theorem Inv.kept {t':Nat}(I:Inv X pins σ H s)(k:∀b u,s.heap.get? b=some u->h'.get? b=some u):Inv X pins σ H {s with heap:=h',toks:=t'}:=I.un (Un.kept k) (I.cp.kept k)
theorem Inv.laid {a:Addr}{o:HO}{t':Nat}(I:Inv X pins σ H s)(k:∀b u,s.heap.get? b=some u->h'.get? b=some u)(hp:s.heap.objs.size<=a)(new:bQ X.prog X.w (upd H a o) h' a o):
  Inv X pins σ (upd H a o) {s with heap:=h',toks:=t'}:=I.un (Un.laid k hp (I.cp.fresh hp)) (I.cp.laid k hp new)
theorem Inv.write {x e:Addr}{o:HO}{t':Nat}(I:Inv X pins σ H s)(mu:MW (H x))(he:e=x\/H e=some (.own x))(k:∀b u,b≠e->s.heap.get? b=some u->h'.get? b=some u)(Mi:∃u,h'.get? e=some u)
  (new:bQ X.prog X.w (upd H x o) h' x o):Inv X pins σ (upd H x o) {s with heap:=h',toks:=t'}:=I.un (Un.write mu he k Mi) (I.cp.write mu he k Mi new)
theorem Inv.zV {Ie:List (Addr×Obj)}(I:Inv X pins σ H s)(h:∀p∈Ie,s.heap.get? p.1=some p.2/\H p.1=none/\p.1≠X.env.locals/\p.1∉X.fs/\∀v,p.2.data≠ .cell v):Inv X Ie σ H s:=
 ⟨I.ok,I.os,I.bare,I.base,I.loc,I.cell,I.free,I.gD,fun p hp=>(bD.mp hp).elim (fun z=>I.pin p (j9 _ z)) (h p),I.cp,I.len⟩
theorem wU{N:List Str}(hN:N.Nodup){i j:Nat}{x:Str}(a:N[i]?=some x)(b:N[j]?=some x):i=j:=by
 obtain⟨h1,e1⟩:=b_.mp a;obtain⟨h2,e2⟩:=b_.mp b;exact(gJ hN).mp (e1.trans e2.symm)
theorem uw{M:Model}{A:Around}{E:Value->Shared->Prop}{i:Nat}{x:Str}{v:V}{u:Value}{Q:Unit->Shared->Prop}(I:Inv X pins σ H s)(hN:X.N.Nodup)(hi:X.N[i]?=some x)(hx:Loc X.env.scope x)(r:RelV v u)
  (h:∀s',Inv X pins (σ.set i (some v)) H s'->(∃a,Heap.SameBut a s.heap s'.heap/\(a=X.env.locals\/X.env.cells.lookup x=some a))->Q () s') (hf:X.fn x=true\/X.env.scope.names.lookup x=some .local:=by first|exact .inl rfl|exact .inr rfl|assumption):wpAny M A (storeName X.env x u) Q E s:=by
 obtain⟨m,hn,hl⟩:=id I.loc;have FY:(X.env.scope.kind== .class||(X.env.scope.kind== .module&&X.env.locals !=X.env.globals))=false:=by rw[I.ok.kind];rfl
 have M0:i<σ.length:=by rw[I.len];exact(b_.mp hi).1
 have Dj:=I.Dj;have tracked:∀{a:Addr} {h':Heap},(∃o,s.heap.get? a=some o/\H a=none)->Heap.SameBut a s.heap h'->lZ X.prog X.w H h':=fun{a h'} ha hs b ob e=>by
  obtain⟨_,_,zW⟩:=ha;refine(I.cp b ob e).ma (fun c w' hc q=>(hs.2 c ?_).trans q) (fun _ q=>q) fun _ _ q=>q
  rintro rfl
  rcases hc with rfl|hc
  ·rw[zW]at e;cases e
  ·rw[zW]at hc;cases hc
 rcases hx with hk|hk
 ·refine wpAny_storeName_local hk hn (fun h' Ig hs=>?_) FY;obtain⟨oL,_,_,C7,_⟩:=id hn;refine h _ ⟨I.ok,I.os,I.bare,⟨fun b o e n hb hx=>?_,fun b o e n hb hx=>?_,I.base.free,fun b o e hx=>?_,I.base.lS,I.base.jY,I.base.kC⟩,⟨_,Ig,fun j y v' e1 e2 e3=>?_⟩,fun y c e=>?_,I.free,I.gD,fun p hp=>?_,tracked ⟨oL,C7,I.free⟩ hs,by simpa using I.len⟩ ⟨_,hs,.inl rfl⟩
  ·exact(hs.2 b (aM (bN (ar e) I.ok.above))).trans (I.base.keep b o e n hb hx)
  ·obtain⟨sl,e1⟩:=I.base.slot b o e n hb hx;exact⟨sl,(hs.2 b (aM (bN (ar e) I.ok.above))).trans e1⟩
  ·obtain⟨o',e1⟩:=I.base.there b o e hx;exact⟨o',(hs.2 b (aM (bN (ar e) I.ok.above))).trans e1⟩
  ·by_cases hj:j=i
   ·subst hj;rw[hi]at e1;cases e1;rw[dJ M0]at e2;cases e2;exact⟨u,r,.inl ⟨hk,by simp⟩⟩
   ·rw[cA (cv hj)]at e2;obtain⟨u',r',q⟩:=hl j y v' e1 e2 e3;refine⟨u',r',?_⟩;rcases q with⟨k,e⟩|⟨k,c,e,z⟩
    ·refine .inl ⟨k,?_⟩;have:y≠x:=fun e=>hj (wU hN e1 (e▸hi));simp[this,e]
    ·exact .inr ⟨k,c,e,z.sameBut hs (Dj y c e)⟩
  ·obtain⟨w',z⟩:=I.cell y c e;exact⟨w',z.sameBut hs (Dj y c e)⟩
  ·obtain⟨e,n,ne,nf,d⟩:=I.pin p hp;exact⟨(hs.2 p.1 ne).trans e,n,ne,nf,d⟩
 ·have Mm:X.fn x=true:=by
   rcases hf with z|z
   ·exact z
   ·rw[z]at hk;cases hk
  obtain⟨c,hc⟩:=I.ok.has x (.inl hk);obtain⟨w',z⟩:=I.cell x c hc;refine wpAny_storeName_cell I.ok.kind hk hc z (fun h' M1 hs=>?_);obtain⟨oc,Mn,R8⟩:=id z;refine h {s with heap:=h'} ⟨I.ok,I.os,I.bare,⟨fun b o e n hb hx=>?_,fun b o e n hb hx=>?_,I.base.free,fun b o e hx=>?_,I.base.lS,I.base.jY,I.base.kC⟩,⟨m,hn.sameBut hs (cv (Dj x c hc)),fun j y v' e1 e2 e3=>?_⟩,fun y c' e=>?_,I.free,I.gD,fun p hp=>?_,tracked ⟨oc,Mn,I.gD x c hc⟩ hs,by simpa using I.len⟩ ⟨c,hs,.inr hc⟩
  ·exact(hs.2 b (aM (bN (ar e) (I.ok.MZ x c Mm hc)))).trans (I.base.keep b o e n hb hx)
  ·obtain⟨sl,e1⟩:=I.base.slot b o e n hb hx;exact⟨sl,(hs.2 b (aM (bN (ar e) (I.ok.MZ x c Mm hc)))).trans e1⟩
  ·obtain⟨o',e1⟩:=I.base.there b o e hx;exact⟨o',(hs.2 b (aM (bN (ar e) (I.ok.MZ x c Mm hc)))).trans e1⟩
  ·by_cases hj:j=i
   ·subst hj;rw[hi]at e1;cases e1;rw[dJ M0]at e2;cases e2;exact⟨u,r,.inr ⟨.inl hk,c,hc,M1⟩⟩
   ·rw[cA (cv hj)]at e2;obtain⟨u',r',q⟩:=hl j y v' e1 e2 e3;refine⟨u',r',?_⟩;rcases q with q|⟨k,c',e,z'⟩
    ·exact .inl q
    ·refine .inr ⟨k,c',e,z'.sameBut hs ?_⟩
     rintro rfl
     exact hj (wU hN e1 (I.ok.inj _ _ _ e hc▸hi))
  ·by_cases Vi:c'=c
   ·subst Vi;exact⟨_,M1⟩
   ·obtain⟨w2,z2⟩:=I.cell y c' e;exact⟨w2,z2.sameBut hs Vi⟩
  ·obtain⟨e,n,ne,nf,d⟩:=I.pin p hp;refine⟨(hs.2 p.1 ?_).trans e,n,ne,nf,d⟩;intro q;rw[q,Mn]at e;have q':oc=p.2:=Option.some.inj e;exact d w' (by rw[<-q'];exact R8)
theorem rU{M:Model}{A:Around}{E:Value->Shared->Prop}{i:Nat}{x:Str}{v:V}{u:Value}{Q:Unit->Shared->Prop}(I:Inv X pins σ H s)(hN:X.N.Nodup)(hi:X.N[i]?=some x)(hx:Loc X.env.scope x)(r:RelV v u)
  (h:∀s',Inv X pins (σ.set i (some v)) H s'->Q () s') (hf:X.fn x=true\/X.env.scope.names.lookup x=some .local:=by first|exact .inl rfl|exact .inr rfl|assumption):wpAny M A (storeName X.env x u) Q E s:=
 uw I hN hi hx r (fun s' I' _=>h s' I') hf
theorem Inv.M3 {s':Shared}{ch:List Addr}(I:Inv X pins σ H s)(ho:s'.os=s.os)(u:Un (nO X.stack) ch H H' s.heap s'.heap)(cp:lZ X.prog X.w H' s'.heap)(hg:AllBare s'.gens)
  (uv:∀b∈ch,(b∈X.ex\/X.fb.heap.objs.size<=b)/\b≠X.env.locals/\(∀x c,X.env.cells.lookup x=some c->c≠b)/\∀p∈X.pn++pins,p.1≠b):Inv X pins σ H' s':=by
 obtain⟨h',g',d',t',o'⟩:=s';have e:o'=s.os:=ho;subst e;exact I.call (g':=g') (t':=t') (d':=d') u cp hg uv
end
abbrev XK:=Value->Option Addr->Hp->Prop
abbrev St:=List (Option V)
abbrev VK:=V->Hp->Prop
abbrev TE:=St->Hp->VK->Prop
abbrev TT:=St->Hp->(Bool->Hp->Prop)->Prop
abbrev TA:=St->Hp->(List V->Hp->Prop)->Prop
structure Ends where
 nx:St->Hp->Prop
 rt:VK
 bk:St->Hp->Prop:=fun _ _=>False
 ct:St->Hp->Prop:=fun _ _=>False
abbrev TS:=Ends->St->Hp->Prop
def EP(X:Cx)(pins:List (Addr×Obj))(σ:St)(Q:VK)(u:Value)(s':Shared):Prop:=∃v H',Inv X pins σ H' s'/\RelV v u/\Q v H'
def TP(X:Cx)(pins:List (Addr×Obj))(σ:St)(Q:Bool->Hp->Prop)(b:Bool)(s':Shared):Prop:=∃H',Inv X pins σ H' s'/\Q b H'
def AP(X:Cx)(pins:List (Addr×Obj))(σ:St)(Q:List V->Hp->Prop)(us:List Value)(s':Shared):Prop:=∃vs H',Inv X pins σ H' s'/\Vals vs us/\Q vs H'
def SP(X:Cx)(pins:List (Addr×Obj))(D:Ends)(f:Flow)(s':Shared):Prop:=
 match f with
 |.next=>∃cf H',Inv X pins cf H' s'/\D.nx cf H'
 |.brk=>∃cf H',Inv X pins cf H' s'/\D.bk cf H'
 |.cont=>∃cf H',Inv X pins cf H' s'/\D.ct cf H'
 |.ret u=>∃v cf H',Inv X pins cf H' s'/\RelV v u/\D.rt v H'
def PE(X:Cx)(e:Expr)(t:TE):Prop:=
 ∀(pins:List (Addr×Obj)) (s:Shared) (σ:St) (H:Hp) (Q:VK),Inv X pins σ H s->t σ H Q->wpAny (model X.prog X.w) X.A (eval e X.env) (EP X pins σ Q) X.xe s
def PT(X:Cx)(e:Expr)(t:TT):Prop:=
 ∀(pins:List (Addr×Obj)) (s:Shared) (σ:St) (H:Hp) (Q:Bool->Hp->Prop),Inv X pins σ H s->t σ H Q->wpAny (model X.prog X.w) X.A (isTrue e X.env (eval e X.env)) (TP X pins σ Q) X.xe s
def PW(X:Cx)(e:Expr)(t:TT):Prop:=
 ∀(whole:Sem Value) (pins:List (Addr×Obj)) (s:Shared) (σ:St) (H:Hp) (Q:Bool->Hp->Prop),Inv X pins σ H s->t σ H Q->wpAny (model X.prog X.w) X.A (isTrue e X.env whole) (TP X pins σ Q) X.xe s
theorem PW.pt {X:Cx}{e:Expr}{t:TT}(h:PW X e t):PT X e t:=h _
def PA(X:Cx)(es:List Expr)(t:TA):Prop:=
 ∀(pos:Pos) (pins:List (Addr×Obj)) (s:Shared) (σ:St) (H:Hp) (Q:List V->Hp->Prop),Inv X pins σ H s->t σ H Q->wpAny (model X.prog X.w) X.A (spliced (backTo pos (starEach es X.env))) (AP X pins σ Q) X.xe s
def PS(X:Cx)(st:Stmt)(t:TS):Prop:=
 ∀(pins:List (Addr×Obj)) (s:Shared) (σ:St) (H:Hp) (D:Ends),Inv X pins σ H s->t D σ H->wpAny (model X.prog X.w) X.A (exec st X.env) (SP X pins D) X.xe s
def kD(X:Cx)(st:List Stmt)(t:TS):Prop:=
 ∀(pins:List (Addr×Obj)) (s:Shared) (σ:St) (H:Hp) (D:Ends),Inv X pins σ H s->t D σ H->wpAny (model X.prog X.w) X.A (execs st X.env) (SP X pins D) X.xe s
theorem eE{α:Type}{t:Sem α}{Q Q':α->Shared->Prop}{M:Model}{A:Around}{E:Value->Shared->Prop}{s:Shared}(h:wpAny M A t Q E s)(hQ:∀a s,Q a s->Q' a s):wpAny M A t Q' E s:=c0 h hQ fun _ _ x=>x
end L2
namespace L2
open PySem PySem.Spec PyProof.Rows
section
variable {X:Cx}
def R9(i:Nat):TE:=fun σ H Q=>∃v,σ[i]?=some (some v)/\Q v H
def tC(v:V):TE:=fun _ H Q=>Q v H
theorem Dn{i:Nat}{x:Str}{pos:Pos}(hN:X.N[i]?=some x)(hv:Jw X.env.scope x)(hd:(x==("__debug__":Str))=false:=by decide) (qf:(x==("__classdict__":Str))=false:=by decide):PE X (.Name x pos) (R9 i):=by
 intro pins s σ H Q I h;obtain⟨v,e,h⟩:=h;obtain⟨m,hn,hl⟩:=I.loc;obtain⟨u,r,l⟩:=hl i x v hN e hv;have fin:EP X pins σ Q u s:=⟨v,H,I,r,h⟩;rcases l with⟨hk,hm⟩|⟨hk,c,hc,pM⟩
 ·exact h_ (m4 I.ok.kind hk hn hm fin) hd
 ·rcases hk with hk|hk
  ·exact h_ (rq I.ok.kind hk hc pM fin) hd
  ·exact h_ (wpAny_loadName_free I.ok.kind hk hc pM fin qf) hd
theorem Jx{i j pos}:PE X (.Constant (.int i) j pos) (tC (.int i)):=fun _ _ _ H _ I h=>wpAny_Constant_int ⟨.int i,H,I.tok _,⟨_,rfl⟩,h⟩
theorem M4{b j pos}:PE X (.Constant (.bool b) j pos) (tC (.bl b)):=fun _ _ _ H _ I h=>Constant_bool ⟨.bl b,H,I,rfl,h⟩
theorem Jy{j pos}:PE X (.Constant .none j pos) (tC .cD):=fun _ _ _ H _ I h=>Constant_none ⟨.cD,H,I,rfl,h⟩
def Gl(X:Cx)(x:Str):Prop:=X.env.kindOf x=some .globalImplicit
theorem F1{E:Value->Shared->Prop}{pins:List (Addr×Obj)}{s:Shared}{σ:St}{H:Hp}{x:Str}{u:Value}{pos:Pos}{Q:Value->Shared->Prop}(I:Inv X pins σ H s)(hg:Gl X x)(hm:X.mg x=some u)(h:Q u s)
  (hd:(x==("__debug__":Str))=false:=by decide):wpAny (model X.prog X.w) X.A (eval (.Name x pos) X.env) Q E s:=
 Calls.Name_function_global I.ok.kind hg (Calls.loadGlobal_global (by rw[I.ok.glob];exact I.mod.glob.keeps I.bk) hm h) hd
theorem oW{E:Value->Shared->Prop}{pins:List (Addr×Obj)}{s:Shared}{σ:St}{H:Hp}{x:Str}{u:Value}{pos:Pos}{Q:Value->Shared->Prop}(I:Inv X pins σ H s)(hg:Gl X x)(hm:X.mg x=none)(hv:bootBuiltins x=some u)(h:Q u s)
  (hn:x≠"__name__":=by decide) (hd:(x==("__debug__":Str))=false:=by decide):wpAny (model X.prog X.w) X.A (eval (.Name x pos) X.env) Q E s:=by
 obtain⟨mb,h1,h2⟩:=I.mod.blt;exact Calls.Name_function_global I.ok.kind hg (Calls.loadGlobal_builtin (by rw[I.ok.glob];exact I.mod.glob.keeps I.bk) hm (by rw[I.ok.blt];exact h1.keeps I.bk) ((h2 x hn).trans hv) h) hd
theorem F2{x:Str}{v:V}{u:Value}{pos:Pos}(hg:Gl X x)(hm:X.mg x=none)(hv:bootBuiltins x=some u)(r:RelV v u)(hn:x≠"__name__":=by decide) (hd:(x==("__debug__":Str))=false:=by decide):PE X (.Name x pos) (tC v):=
 fun _ _ _ H _ I h=>oW I hg hm hv ⟨v,H,I,r,h⟩ hn hd
variable {a b:Expr}{ta tb:TE}{pos:Pos}
def tB(t:TE):TT:=fun σ H Q=>t σ H fun x H1=>∃c,x=.bl c/\Q c H1
variable {tA Vj:TT}{rest:List Expr}
def Wl(t u:TT):TT:=fun σ H Q=>t σ H fun c H1=>if c=true then Q true H1 else u σ H1 Q
def R_(t:TT):TT:=fun σ H Q=>t σ H fun c H1=>Q (!c) H1
theorem pw_or1(ha:PT X a tA):PW X (.BoolOp .Or [a] pos) tA:=by
 intro wh pins s σ H Q I h;refine isTrue_or (eE (ha pins s σ H Q I h) fun c s1 e=>?_);cases c with
 |false=>exact isTrue_or_nil e
 |true=>exact e
theorem pw_or(ha:PT X a tA)(hb:PW X (.BoolOp .Or (b::rest) pos) Vj):PW X (.BoolOp .Or (a::b::rest) pos) (Wl tA Vj):=by
 intro wh pins s σ H Q I h;refine isTrue_or (eE (ha pins s σ H _ I h) fun c s1 ⟨H1,I1,q1⟩=>?_);cases c with
 |true=>exact⟨H1,I1,q1⟩
 |false=>exact hb wh pins s1 σ H1 Q I1 q1
theorem Jz(ha:PT X a tA):PT X (.UnaryOp .Not a pos) (R_ tA):=by
 intro pins s σ H Q I h;exact isTrue_not (ha pins s σ H (fun c H1=>Q (!c) H1) I h)
theorem JA{op}{t:TE}(h:PE X a t):PE X (.BoolOp op [a] pos) t:=fun pins s σ H Q I hw=>BoolOp_one (h pins s σ H Q I hw)
end
end L2
namespace L2
open PySem PySem.Spec PyProof.Rows
def iS(K:PySem.W.Frag)(H:Hp)(a:Addr)(xs:List V):Prop:=
 Rd H a (.lst xs)\/
  ∃(o:Obj) (aZ:Array Value) (n:Nat),K.lookup a=some o/\o.cls=.type "list"/\o.dict=none/\o.data=.seq aZ n/\aZ.size<=sizeLine/\Vals xs aZ.toList
def ir(K:PySem.W.Frag)(H:Hp)(a:Addr)(xs:List V):Prop:=
 Rd H a (.tup xs)\/
  ∃(o:Obj) (aZ:Array Value) (n:Nat),K.lookup a=some o/\o.cls=.type "tuple"/\o.data=.seq aZ n/\aZ.size<=sizeLine/\Vals xs aZ.toList
def R':Value->Option V
 |.none=>some .cD
 |.bool b=>some (.bl b)
 |.int i _=>some (.int i)
 |.str x _=>some (.str x)
 |.bytes b _=>some (.Jt b)
 |.float b _=>some (.Ib b)
 |.ref a=>some (.ref a)
 |.type n=>some (.ty n)
 |_=>none
theorem RelV.abs {x:V}{u:Value}(r:RelV x u):R' u=some x:=by
 cases x with
 |cD=>cases r;rfl
 |bl _=>cases r;rfl
 |int _=>obtain⟨t,rfl⟩:=r;rfl
 |str _=>obtain⟨t,rfl⟩:=r;rfl
 |Jt _=>obtain⟨t,rfl⟩:=r;rfl
 |Ib _=>obtain⟨t,rfl⟩:=r;rfl
 |ref _=>cases r;rfl
 |ty _=>cases r;rfl
theorem RelV.inj {x y:V}{u:Value}(r:RelV x u)(q:RelV y u):x=y:=Option.some.inj (r.abs.symm.trans q.abs)
theorem Vals.inj:∀{xs ys:List V} {us:List Value},Vals xs us->Vals ys us->xs=ys
 |_,_,_,.nil,.nil=>rfl
 |_,_,_,.cons r t,.cons r' t'=>by rw[r.inj r',Vals.inj t t']
section
variable {X:Cx}{pins:List (Addr×Obj)}{σ:St}{H:Hp}{s:Shared}{a:Addr}{xs ys:List V}
theorem iS.of {K:PySem.W.Frag}(h:H a=some (.lst xs)):iS K H a xs:=.inl (.inl h)
theorem Inv.list (I:Inv X pins σ H s)(h:iS X.K H a xs):∃aZ:List Value,Vals xs aZ/\PlainL s.heap a aZ.toArray/\xs.length<=sizeLine:=by
 rcases h with h|⟨o,aZ,n,hk,hc,hd,hs,hz,r⟩
 ·obtain⟨z,aZ,n,r,e⟩:=h.ok I.cp;exact⟨aZ,r,⟨_,n,e,rfl,rfl,rfl⟩,z⟩
 ·refine⟨aZ.toList,r,⟨o,n,I.qe a o hk,hc,hd,by simpa using hs⟩,?_⟩;have e:=r.length;simp only[bq]at e;omega
theorem Inv.tuple (I:Inv X pins σ H s)(h:ir X.K H a xs):∃aZ:List Value,Vals xs aZ/\IsTup s.heap a aZ.toArray/\xs.length<=sizeLine:=by
 rcases h with h|⟨o,aZ,n,hk,hc,hs,hz,r⟩
 ·obtain⟨z,aZ,r,p⟩:=h.ok I.cp;exact⟨aZ,r,p.tup,z⟩
 ·refine⟨aZ.toList,r,⟨o,I.qe a o hk,hc,n,by simpa using hs⟩,?_⟩;have e:=r.length;simp only[bq]at e;omega
theorem Inv.Dp (I:Inv X pins σ H s)(h:iS X.K H a xs)(h':iS X.K H a ys):xs=ys:=by
 obtain⟨aZ,r,⟨o,n,e,_,_,d⟩,_⟩:=I.list h;obtain⟨vx,r',⟨o',n',e',_,_,d'⟩,_⟩:=I.list h';rw[e]at e';cases e';rw[d]at d';injection d' with d1 _
 have:aZ=vx:=by simpa using bJ Array.toList d1
 subst this;exact r.inj r'
theorem Inv.lJ (I:Inv X pins σ H s)(h:ir X.K H a xs)(h':ir X.K H a ys):xs=ys:=by
 obtain⟨aZ,r,⟨o,e,_,n,d⟩,_⟩:=I.tuple h;obtain⟨vx,r',⟨o',e',_,n',d'⟩,_⟩:=I.tuple h';rw[e]at e';cases e';rw[d]at d';injection d' with d1 _
 have:aZ=vx:=by simpa using bJ Array.toList d1
 subst this;exact r.inj r'
end
abbrev Cx.t_ (X:Cx)(E:Value->Shared->Prop):Cx:={X with xe:=E}
abbrev Cx.C8 (X:Cx):Cx:=X.t_ fun _ _=>False
theorem Cx.Ok.t_ {X:Cx}(ok:X.Ok)(E:Value->Shared->Prop):(X.t_ E).Ok:=
 ⟨ok.mod,ok.kind,ok.glob,ok.blt,ok.above,ok.inj,ok.has,ok.MZ,ok.hd,ok.frames,ok.Mj,ok.R1,ok.bs,ok.Ic,ok.BE,ok.Di,ok.rS,ok.Ml⟩
theorem Cx.Ok.kE {X:Cx}{E:Value->Shared->Prop}(ok:(X.t_ E).Ok):X.Ok:=
 ⟨ok.mod,ok.kind,ok.glob,ok.blt,ok.above,ok.inj,ok.has,ok.MZ,ok.hd,ok.frames,ok.Mj,ok.R1,ok.bs,ok.Ic,ok.BE,ok.Di,ok.rS,ok.Ml⟩
section
variable {X:Cx}{pins:List (Addr×Obj)}{σ:St}{H:Hp}{s:Shared}{E:Value->Shared->Prop}
theorem Inv.t_ (I:Inv X pins σ H s)(E:Value->Shared->Prop):Inv (X.t_ E) pins σ H s:=⟨I.ok.t_ E,I.os,I.bare,I.base,I.loc,I.cell,I.free,I.gD,I.pin,I.cp,I.len⟩
theorem Inv.kE (I:Inv (X.t_ E) pins σ H s):Inv X pins σ H s:=⟨I.ok.kE,I.os,I.bare,I.base,I.loc,I.cell,I.free,I.gD,I.pin,I.cp,I.len⟩
theorem SP.kE {D:Ends}{f:Flow}{s':Shared}(h:SP (X.t_ E) pins D f s'):SP X pins D f s':=by
 cases f with
 |next=>obtain⟨cf,H',I,q⟩:=h;exact⟨cf,H',I.kE,q⟩
 |brk=>obtain⟨cf,H',I,q⟩:=h;exact⟨cf,H',I.kE,q⟩
 |cont=>obtain⟨cf,H',I,q⟩:=h;exact⟨cf,H',I.kE,q⟩
 |ret u=>obtain⟨v,cf,H',I,r,q⟩:=h;exact⟨v,cf,H',I.kE,r,q⟩
theorem kD.C8 {st:List Stmt}{t:TS}(h:kD X.C8 st t):kD X st t:=fun pins s σ H D I hw=>
 c0 (h pins s σ H D (I.t_ _) hw) (fun _ _ q=>q.kE) fun _ _ z=>False.elim z
end
section
variable {X:Cx}{st:Stmt}{rest:List Stmt}{t u:TS}{e:Expr}{te:TE}{pos:Pos}
def M5:TS:=fun D σ H=>D.nx σ H
def Sa(t u:TS):TS:=fun D σ H=>t {D with nx:=u D} σ H
theorem zX:kD X [] M5:=fun _ _ σ H _ I h=>nu ⟨σ,H,I,h⟩
theorem wV(h1:PS X st t)(h2:kD X rest u):kD X (st::rest) (Sa t u):=by
 intro pins s σ H D I h;refine wpAny_execs_cons (eE (h1 pins s σ H {D with nx:=u D} I h) fun f s1 q=>?_);cases f with
 |next=>
  obtain⟨cf,H',I',q⟩:=q;exact h2 pins s1 cf H' D I' q
 |ret v=>exact q
 |brk=>exact q
 |cont=>exact q
theorem zY(h1:PS X st t):kD X [st] t:=by
 intro pins s σ H D I h;refine wpAny_execs_cons (eE (h1 pins s σ H D I h) fun f s1 q=>?_);cases f with
 |next=>exact nu q
 |ret v=>exact q
 |brk=>exact q
 |cont=>exact q
theorem Inv.quiet {pins:List (Addr×Obj)}{σ:St}{H:Hp}{s:Shared}(I:Inv X pins σ H s):interactive X.env=false:=by simp[interactive,I.ok.kind]
def M6(te:TE):TS:=fun D σ H=>te σ H fun _ H1=>D.nx σ H1
theorem F3(he:PE X e te)(hs:swapsWith e none pos.line X.env=pure false:=by rfl):PS X (.Expr e pos) (M6 te):=by
 intro pins s σ H D I h;exact wpAny_Expr_any (eE (he pins s σ H _ I h) fun v s1 ⟨x,H1,I1,r1,q1⟩=>⟨σ,H1,I1,q1⟩) I.quiet hs
def Sb(te:TE):TS:=fun D σ H=>te σ H D.rt
theorem Dq(he:PE X e te):PS X (.Return (some e) pos) (Sb te):=by
 intro pins s σ H D I h;exact wpAny_Return_some (eE (he pins s σ H _ I h) fun v s1 ⟨x,H1,I1,r1,q1⟩=>⟨x,σ,H1,I1,r1,q1⟩)
def Sd(c:TT)(t u:TS):TS:=fun D σ H=>c σ H fun b H1=>if b=true then t D σ H1 else u D σ H1
theorem Ih{c:Expr}{a b:List Stmt}{tc:TT}(hc:PT X c tc)(ha:kD X a t)(hb:kD X b u):PS X (.If c a b pos) (Sd tc t u):=by
 intro pins s σ H D I h;refine wpAny_If (eE (hc pins s σ H _ I h) fun d s1 ⟨H1,I1,q1⟩=>?_);cases d with
 |true=>exact ha pins s1 σ H1 D I1 q1
 |false=>exact hb pins s1 σ H1 D I1 q1
end
abbrev TG:=V->St->Hp->(St->Hp->Prop)->Prop
abbrev F4:=List V->St->Hp->(St->Hp->Prop)->Prop
def PG(X:Cx)(target:Expr)(t:TG):Prop:=
 ∀(pins:List (Addr×Obj)) (s:Shared) (σ:St) (H:Hp) (v:V) (u:Value) (Q:St->Hp->Prop),Inv X pins σ H s->RelV v u->t v σ H Q->
  wpAny (model X.prog X.w) X.A (assign target X.env u) (fun _ s'=>∃cf H',Inv X pins cf H' s'/\Q cf H') X.xe s
def FG(X:Cx)(ts:List Expr)(t:F4):Prop:=
 ∀(pins:List (Addr×Obj)) (s:Shared) (σ:St) (H:Hp) (vs:List V) (us:List Value) (Q:St->Hp->Prop),Inv X pins σ H s->Vals vs us->t vs σ H Q->
  wpAny (model X.prog X.w) X.A (assignInOrder ((assignEach ts X.env).map (·.2)) us) (fun _ s'=>∃cf H',Inv X pins cf H' s'/\Q cf H') X.xe s
abbrev Se:=V->V->Hp->VK->Prop
def Wm(X:Cx)(op:Operator)(t:Se):Prop:=
 ∀(pins:List (Addr×Obj)) (s:Shared) (σ:St) (H:Hp) (x y:V) (v u:Value) (Q:VK),Inv X pins σ H s->RelV x v->RelV y u->t x y H Q->
  wpAny (model X.prog X.w) X.A (inplaceOp op v u) (EP X pins σ Q) X.xe s
section
variable {X:Cx}{pos:Pos}
def Dr(i:Nat):TG:=fun v σ H Q=>Q (σ.set i (some v)) H
theorem vy{i:Nat}{x:Str}(hN:X.N.Nodup)(hi:X.N[i]?=some x)(hx:Loc X.env.scope x)(hf:X.fn x=true\/X.env.scope.names.lookup x=some .local:=by first|exact .inl rfl|exact .inr rfl|assumption):PG X (.Name x pos) (Dr i):=by
 intro pins s σ H v u Q I r h;exact wpAny_assign_Name (rU I hN hi hx r (fun s' I'=>⟨_,H,I',h⟩) hf)
def Sf:F4:=fun vs σ H Q=>vs=[]/\Q σ H
def M7(t:TG)(u:F4):F4:=fun vs σ H Q=>∃v r,vs=v::r/\t v σ H fun cf H'=>u r cf H' Q
theorem F5:FG X [] Sf:=by
 intro pins s σ H vs us Q I r h;obtain⟨e,h⟩:=h;subst e;cases r;exact assignInOrder_nil ⟨σ,H,I,h⟩
theorem Ds{e:Expr}{es:List Expr}{t:TG}{u:F4}(h1:PG X e t)(h2:FG X es u)
  (hs:(assignEach (e::es) X.env).map (·.2)=assign e X.env::(assignEach es X.env).map (·.2):=by rfl):FG X (e::es) (M7 t u):=by
 intro pins s σ H vs us Q I r h;obtain⟨v,vr,e1,h⟩:=h;subst e1;cases r with
 |cons r rr=>
  rw[hs];refine assignInOrder_cons (eE (h1 pins s σ H _ _ _ I r h) fun _ s1 ⟨Ii,H1,I1,q1⟩=>?_);exact h2 pins s1 Ii H1 _ _ Q I1 rr q1
def Sg(K:PySem.W.Frag)(n:Nat)(t:F4):TG:=fun v σ H Q=>∃a xs,v=.ref a/\ir K H a xs/\xs.length=n/\t xs σ H Q
theorem JB{es:List Expr}{k:Nat}{t:F4}{n:Nat}(hc:X.calm=true)(h:FG X es t)
  (hn:(assignEach es X.env).length=n:=by rfl) (dD:(assignEach es X.env).findIdx? (·.1)=none:=by rfl):PG X (.Tuple es k pos) (Sg X.K n t):=by
 intro pins s σ H v u Q I r hw;obtain⟨a,xs,e1,hq,hl,hw⟩:=hw;subst e1;cases r;obtain⟨aZ,rv,ht,hz⟩:=I.tuple hq;refine assign_Tuple_tuple (I.ok.hd hc) ht (by simp[hn,<-hl,rv.length]) dD fun h' hx=>?_
 have I1:Inv X pins σ H {s with heap:=h'}:=I.kept (t':=s.toks) fun b o e=>hx b o (aM (ar e)) e;exact h pins _ σ H xs _ Q I1 (by simpa using rv) hw
def M8(te:TE)(g:TG):TS:=fun D σ H=>te σ H fun x H1=>g x σ H1 D.nx
theorem JC{tg e:Expr}{te:TE}{g:TG}(he:PE X e te)(hg:PG X tg g)(hs:swapsWithSole [tg] e pos.line X.env=pure false:=by rfl) (hw:swappedStores [tg] e X.env=pure none:=by rfl)
  (h1:(assignEach [tg] X.env).map (·.2)=[assign tg X.env]:=by rfl):PS X (.Assign [tg] e pos) (M8 te g):=by
 intro pins s σ H D I h;refine wpAny_Assign_stores (eE (he pins s σ H _ I h) fun v s1 ⟨x,H1,I1,r1,q1⟩=>?_) hs hw;rw[h1];exact eE (hg pins s1 σ H1 x v _ I1 r1 q1) fun _ s2 q=>q
theorem yH{i:Nat}{x:Str}{e:Expr}{te:TE}{pos':Pos}(hN:X.N.Nodup)(hi:X.N[i]?=some x)(hx:Loc X.env.scope x)(he:PE X e te)(hs:swapsWith e (some (.Name x pos')) pos.line X.env=pure false:=by rfl) (hf:X.fn x=true\/X.env.scope.names.lookup x=some .local:=by first|exact .inl rfl|exact .inr rfl|assumption):
  PS X (.Assign [.Name x pos'] e pos) (M8 te (Dr i)):=by
 intro pins s σ H D I h;refine wpAny_Assign_Name (eE (he pins s σ H _ I h) fun v s1 ⟨y,H1,I1,r1,q1⟩=>?_) hs;exact rU I1 hN hi hx r1 (fun s2 I2=>⟨_,H1,I2,q1⟩) hf
def Si(i:Nat)(te:TE)(ti:Se):TS:=fun D σ H=>∃x,σ[i]?=some (some x)/\te σ H fun y H1=>ti x y H1 fun z H2=>D.nx (σ.set i (some z)) H2
theorem JD{i:Nat}{x:Str}{e:Expr}{te:TE}{op:Operator}{ti:Se}{pos':Pos}(hN:X.N.Nodup)(hi:X.N[i]?=some x)(hx:Loc X.env.scope x)(he:PE X e te)(ho:Wm X op ti)(hf:X.fn x=true\/X.env.scope.names.lookup x=some .local:=by first|exact .inl rfl|exact .inr rfl|assumption):
  PS X (.AugAssign (.Name x pos') op e pos) (Si i te ti):=by
 intro pins s σ H D I h;obtain⟨v,e1,h⟩:=h;obtain⟨m,hn,hl⟩:=I.loc;have gA:Jw X.env.scope x:=by rcases hx with k|k;exact .inl k;exact .inr (.inl k)
 obtain⟨u,r,l⟩:=hl i x v hi e1 gA;refine wpAny_AugAssign_Name ?_
 have go:wpAny (model X.prog X.w) X.A (eval e X.env) (fun w lT=>wpAny (model X.prog X.w) X.A (inplaceOp op u w) (fun r yI=>wpAny (model X.prog X.w) X.A (storeName X.env x r) (fun _=>SP X pins D .next) X.xe yI) X.xe lT) X.xe s:=by
  refine eE (he pins s σ H _ I h) fun w s1 ⟨y,H1,I1,r1,q1⟩=>?_
  refine eE (ho pins s1 σ H1 v y u w _ I1 r r1 q1) fun z s2 ⟨zv,H2,I2,r2,q2⟩=>?_
  exact rU I2 hN hi hx r2 (fun s3 I3=>⟨_,H2,I3,q2⟩) hf
 rcases l with⟨hk,hm⟩|⟨hk,c,hc,pM⟩
 ·exact m4 I.ok.kind hk hn hm go
 ·rcases hk with hk|hk
  ·exact rq I.ok.kind hk hc pM go
  ·rcases hx with k|k
   ·have:X.env.scope.names.lookup x=some .free:=hk;rw[k]at this;cases this
   ·have:X.env.scope.names.lookup x=some .free:=hk;rw[k]at this;cases this
end
section
variable {X:Cx}{pos:Pos}
def JE(c:TT)(tb:TS):TS:=fun D σ H=>∃W:Nat->St->Hp->Prop,(∃m,W m σ H)/\∀m σ H,W m σ H->
 c σ H fun b H1=>if b=true then∃N:St->Hp->Prop,(∀cf H',N cf H'->∃m',m'<m/\W m' cf H')/\tb {D with nx:=N,ct:=N,bk:=D.nx} σ H1 else D.nx σ H1
theorem Dt{c:Expr}{body:List Stmt}{tc:TT}{tb:TS}(hp:PassesOwn (model X.prog X.w) X.A X.env X.xe)(hc:PT X c tc)(hb:kD X body tb):PS X (.While c body [] pos) (JE tc tb):=by
 intro pins s σ H D I h;obtain⟨W,⟨m0,w0⟩,turn⟩:=h;refine wpAny_While (codeAny_whileLoop (fun n s'=>∃cf H',Inv X pins cf H' s'/\W n cf H') ?_ m0 ⟨σ,H,I,w0⟩)
 rintro n s1 ⟨Ii,H1,I1,w1⟩
 refine g0 hp (eE (hc pins s1 Ii H1 _ I1 (turn n Ii H1 w1)) fun b s2 ⟨H2,I2,q2⟩=>?_);cases b with
 |true=>
  obtain⟨N,hN,q2⟩:=q2;rw[ab rfl];refine g0 hp (eE (hb pins s2 Ii H2 _ I2 q2) fun f s3 q3=>?_);cases f with
  |next=>
   obtain⟨yJ,H3,I3,n3⟩:=q3;obtain⟨m',hm,w3⟩:=hN yJ H3 n3;exact⟨m',hm,yJ,H3,I3,w3⟩
  |cont=>
   obtain⟨yJ,H3,I3,n3⟩:=q3;obtain⟨m',hm,w3⟩:=hN yJ H3 n3;exact⟨m',hm,yJ,H3,I3,w3⟩
  |brk=>exact q3
  |ret v=>exact q3
 |false=>
  rw[af cP];exact nu ⟨Ii,H2,I2,q2⟩
end
structure It where
 go:Nat->Hp->Prop
 zZ:Nat->Hp->V->Hp->Prop
 stop:Nat->Hp->Prop
def jy(X:Cx)(pins:List (Addr×Obj))(H:Hp)(b:Addr):Prop:=
 H b=none/\b≠X.env.locals/\b∉X.fs/\(b∈X.ex\/X.fb.heap.objs.size<=b)/\(∀x c,X.env.cells.lookup x=some c->c≠b)/\∀p∈X.pn++pins,p.1≠b
theorem Inv.ua {X:Cx}{pins:List (Addr×Obj)}{σ:St}{H H':Hp}{s:Shared}{b:Addr}(I:Inv X pins σ H s)(hb:s.heap.objs.size<=b)(hn:H' b=none):jy X pins H' b:=by
 refine⟨hn,cy (bN I.lt hb),I.R4 hb,.inr (bx I.sz hb),fun x c e z=>?_,fun p hp z=>?_⟩
 ·obtain⟨v,q⟩:=I.cell x c e;exact absurd (bN q.lt (by rw[z];exact hb)) (cX _)
 ·exact absurd (bN (ar (I.pin p hp).1) (by rw[z];exact hb)) (cX _)
structure Turn(P:Program)(w:World)(K:PySem.W.Frag)(tg:Expr)(J:It)(fp:List Addr)(it:Addr)(tn:Nat->Heap->Prop):Prop where
 mem:it∈fp
 obj:∀i h,tn i h->∀b∈fp,∃o,h.get? b=some o/\∀v,o.data≠ .cell v
 keep:∀i h h',tn i h->(∀b∈fp,∀o,h.get? b=some o->h'.get? b=some o)->tn i h'
 item:∀(X:Cx),X.prog=P->X.w=w->X.K=K->X.calm=true->∀(i:Nat) (pins:List (Addr×Obj)) (s:Shared) (σ:St) (H:Hp) (E:Value->Shared->Prop),Inv X pins σ H s->(∀b∈fp,jy X pins H b)->tn i s.heap->J.go i H->
  wpAny (model P w) X.A (pyNext (.ref it)) (fun r s1=>∃u,r=some u/\
   wpAny (model P w) X.A (letOwnedTupleGo tg (.ref it) u) (fun _ s2=>∃x H',Inv X pins σ H' s2/\RelV x u/\J.zZ i H x H'/\tn (i+1) s2.heap/\∀b∈fp,H' b=none) E s1) E s
 done:∀(X:Cx),X.prog=P->X.w=w->X.K=K->X.calm=true->∀(i:Nat) (pins:List (Addr×Obj)) (s:Shared) (σ:St) (H:Hp) (E:Value->Shared->Prop),Inv X pins σ H s->(∀b∈fp,jy X pins H b)->tn i s.heap->J.stop i H->
  wpAny (model P w) X.A (pyNext (.ref it)) (fun r s1=>r=none/\Inv X pins σ H s1) E s
 self:∀(A:Around) (i:Nat) (s:Shared) (Q:Value->Shared->Prop) (E:Value->Shared->Prop),tn i s.heap->Q (.ref it) s->wpAny (model P w) A (pyIter (.ref it)) Q E s
abbrev TI:=St->Hp->(It->Hp->Prop)->Prop
def Q2(X:Cx)(pins:List (Addr×Obj))(σ:St)(tg:Expr)(R:It->Hp->Prop)(Q3:Value)(s2:Shared):Prop:=
 ∃(it:Addr) (fp:List Addr) (tn:Nat->Heap->Prop) (J:It) (H':Hp),Q3=.ref it/\Inv X pins σ H' s2/\Turn X.prog X.w X.K tg J fp it tn/\tn 0 s2.heap/\(∀b∈fp,jy X pins H' b)/\R J H'
def PI(X:Cx)(tg iter:Expr)(wi:TI):Prop:=
 ∀(pins:List (Addr×Obj)) (s:Shared) (σ:St) (H:Hp) (R:It->Hp->Prop),Inv X pins σ H s->wi σ H R->
  wpAny (model X.prog X.w) X.A (eval iter X.env) (fun v s1=>wpAny (model X.prog X.w) X.A (pyIter v) (Q2 X pins σ tg R) X.xe s1) X.xe s
theorem wW{M:Model}{A:Around}{E:Value->Shared->Prop}{s:Shared}{tg:Expr}{it:Addr}{u:Value}{o:Obj}{n:String}{vs:Array Value}{Q:Unit->Shared->Prop}(ho:s.heap.get? it=some o)(hc:o.cls=.type n)(hd:o.data=.fields vs)
  (hn:["enumerate","zip","dict_itemiterator","dict_reverseitemiterator","odict_iterator","itertools.zip_longest","itertools.pairwise"].contains n=false) (hQ:Q () s):wpAny M A (letOwnedTupleGo tg (.ref it) u) Q E s:=by
 unfold letOwnedTupleGo;cases tg<;>first
  |exact ae hQ
  |(cases u<;>first
    |exact ae hQ
    |(refine aa (kA ho ?_)
      rw[hc,hd];show wpAny M A (if(["enumerate","zip","dict_itemiterator","dict_reverseitemiterator","odict_iterator","itertools.zip_longest","itertools.pairwise"].contains n&&vs[0]?==some (rawInt _))=true then _ else _) Q E s;rw[af (by intro h;rw[hn,Bool.false_and]at h;cases h)];exact ae hQ))
def Q4(K:PySem.W.Frag)(a:Addr):It:=
 ⟨fun i H=>∃xs x,iS K H a xs/\xs[i]?=some x,fun i H x H'=>H'=H/\∀xs,iS K H a xs->xs[i]?=some x,fun i H=>∃xs,iS K H a xs/\xs.length<=i⟩
def Sj(K:PySem.W.Frag)(a:Addr):It:=
 ⟨fun i H=>∃xs x,ir K H a xs/\xs[i]?=some x,fun i H x H'=>H'=H/\∀xs,ir K H a xs->xs[i]?=some x,fun i H=>∃xs,ir K H a xs/\xs.length<=i⟩
def Q5(lo:Int)(n:Nat):It:=⟨fun i _=>i<n,fun i H x H'=>H'=H/\x=.int (lo+i),fun i _=>n<=i⟩
theorem ux{P:Program}{w:World}{K:PySem.W.Frag}{tg:Expr}(a it:Addr):Turn P w K tg (Q4 K a) [it] it (fun i h=>h.IsListIter it a i) where
 mem:=by simp
 obj:=fun i h st b hb=>by
  have e:b=it:=by simpa using hb
  subst e;obtain⟨o,e,c,d⟩:=st;exact⟨o,e,fun v z=>by rw[d]at z;cases z⟩
 keep:=fun i h h' st k=>st.at fun o e=>k it (by simp) o e
 item:=by
  intro X hP hw hK hc i pins s σ H E I hf st hg;subst hP hw hK;obtain⟨xs,x,hq,hx⟩:=hg;obtain⟨aZ,rv,p,hz⟩:=I.list hq;obtain⟨u,hu,ru⟩:=rv.get hx;obtain⟨f0,f1,f2,f3,f4,f5⟩:=hf it (by simp);refine wpAny_pyNext_list_item st p.isList (x:=u) (by simpa using hu) fun h' uc sb=>?_
  have I1:Inv X pins σ H {s with heap:=h'}:=I.turned (t':=s.toks) (fun b o hb e=>(sb.2 b hb).trans e) f0 f1 f3 f4 f5;obtain⟨o,e,c,d⟩:=id uc;exact⟨u,rfl,wW (s:={s with heap:=h'}) e c d (by decide) ⟨x,H,I1,ru,⟨rfl,fun ys hy=>by rw[I.Dp hy hq];exact hx⟩,uc,fun b hb=>(hf b hb).1⟩⟩
 done:=by
  intro X hP hw hK hc i pins s σ H E I hf st hg;subst hP hw hK;obtain⟨xs,hq,hx⟩:=hg;obtain⟨aZ,rv,p,hz⟩:=I.list hq;obtain⟨f0,f1,f2,f3,f4,f5⟩:=hf it (by simp);have hl:=rv.length;exact wpAny_pyNext_list_end (I.ok.hd hc) st p.isList (by simp;omega) fun h' eb=>⟨rfl,I.turned (t':=s.toks) (fun b o hb e=>eb b o hb e) f0 f1 f3 f4 f5⟩
 self:=fun _ _ _ _ _ st h=>wpAny_pyIter_listiter st h
theorem rV{P:Program}{w:World}{K:PySem.W.Frag}{tg:Expr}(a it:Addr):Turn P w K tg (Sj K a) [it] it (fun i h=>h.IsTupleIter it a i) where
 mem:=by simp
 obj:=fun i h st b hb=>by
  have e:b=it:=by simpa using hb
  subst e;obtain⟨o,e,c,d⟩:=st;exact⟨o,e,fun v z=>by rw[d]at z;cases z⟩
 keep:=fun i h h' st k=>st.at fun o e=>k it (by simp) o e
 item:=by
  intro X hP hw hK hc i pins s σ H E I hf st hg;subst hP hw hK;obtain⟨xs,x,hq,hx⟩:=hg;obtain⟨aZ,rv,p,hz⟩:=I.tuple hq;obtain⟨u,hu,ru⟩:=rv.get hx;obtain⟨f0,f1,f2,f3,f4,f5⟩:=hf it (by simp);refine rb st (show s.heap.IsTuple a aZ.toArray from p) (x:=u) (by simpa using hu) fun h' uc sb=>?_
  have I1:Inv X pins σ H {s with heap:=h'}:=I.turned (t':=s.toks) (fun b o hb e=>(sb.2 b hb).trans e) f0 f1 f3 f4 f5;obtain⟨o,e,c,d⟩:=id uc;exact⟨u,rfl,wW (s:={s with heap:=h'}) e c d (by decide) ⟨x,H,I1,ru,⟨rfl,fun ys hy=>by rw[I.lJ hy hq];exact hx⟩,uc,fun b hb=>(hf b hb).1⟩⟩
 done:=by
  intro X hP hw hK hc i pins s σ H E I hf st hg;subst hP hw hK;obtain⟨xs,hq,hx⟩:=hg;obtain⟨aZ,rv,p,hz⟩:=I.tuple hq;obtain⟨f0,f1,f2,f3,f4,f5⟩:=hf it (by simp);have hl:=rv.length;exact wpAny_pyNext_tuple_end (I.ok.hd hc) st (show s.heap.IsTuple a aZ.toArray from p) (by simp;omega) fun h' eb=>⟨rfl,I.turned (t':=s.toks) (fun b o hb e=>eb b o hb e) f0 f1 f3 f4 f5⟩
 self:=fun _ _ _ _ _ st h=>wpAny_pyIter_tupleiter st h
theorem yK{P:Program}{w:World}{K:PySem.W.Frag}{tg:Expr}(it:Addr)(lo:Int)(n:Nat):Turn P w K tg (Q5 lo n) [it] it (fun i h=>IsRangeIter h it (lo+(i:Nat)*1) ((n:Int) - (i:Nat)) 1) where
 mem:=by simp
 obj:=fun i h st b hb=>by
  have e:b=it:=by simpa using hb
  subst e;exact⟨_,st,fun v z=>by
   have z':Data.fields _=Data.cell v:=z;cases z'⟩
 keep:=fun i h h' st k=>k it (by simp) _ st
 item:=by
  intro X hP hw hK hc i pins s σ H E I hf st hg;subst hP hw hK;obtain⟨f0,f1,f2,f3,f4,f5⟩:=hf it (by simp);have W:=Walks.range (prog:=X.prog) (w:=X.w) (I.ok.hd hc) it lo 1 n;refine W.item i s _ _ hg st fun v h' tk hv uc kk=>?_
  obtain⟨t,rfl⟩:=hv;have I1:Inv X pins σ H {s with heap:=h',toks:=tk}:=I.turned (fun b o hb e=>kk b o (by simpa using hb) e) f0 f1 f3 f4 f5;refine⟨_,rfl,wW (s:={s with heap:=h',toks:=tk}) (n:="range_iterator") uc rfl rfl (by decide) ⟨.int (lo+i),H,I1,⟨t,?_⟩,⟨rfl,rfl⟩,uc,fun b hb=>(hf b hb).1⟩⟩;rw[Int.mul_one]
 done:=by
  intro X hP hw hK hc i pins s σ H E I hf st hg;subst hP hw hK;obtain⟨f0,f1,f2,f3,f4,f5⟩:=hf it (by simp);exact wpAny_pyNext_range_end (I.ok.hd hc) st (by have:n<=i:=hg;omega) fun h' eb=>⟨rfl,I.turned (t':=s.toks) (fun b o hb e=>eb b o hb e) f0 f1 f3 f4 f5⟩
 self:=fun _ _ _ _ _ st h=>wpAny_pyIter_rangeiter st h
end L2
namespace L2
open PySem PySem.Spec PyProof.Rows
section
variable {X:Cx}{tg:Expr}
theorem Du{pins:List (Addr×Obj)}{σ:St}{H:Hp}{s:Shared}{R:It->Hp->Prop}{E:Value->Shared->Prop}{lo hi:Int}{t u v:Tok}{tk:Nat}(I:Inv X pins σ H s)(h1:-(2 ^62)<=lo)(h2:lo<2 ^62)(h3:-(2 ^62)<=hi)(h4:hi<2 ^62)
  (q:R (Q5 lo (hi - lo).toNat) H):wpAny (model X.prog X.w) X.A (pyIter (.ref s.heap.objs.size)) (Q2 X pins σ tg R) E {s with heap:=s.heap.push {cls:=.type "range",data:=.fields #[.int lo t,.int hi u,.int 1 v]},toks:=tk}:=by
 refine wpAny_pyIter_range (IsRange.new ..) (small_one h1 h2 h3 h4) ?_
 have I1:Inv X pins σ H {s with heap:=s.heap.push {cls:=.type "range",data:=.fields #[.int lo t,.int hi u,.int 1 v]},toks:=tk}:=I.kept fun b o e=>aC _ e;refine⟨(s.heap.push {cls:=.type "range",data:=.fields #[.int lo t,.int hi u,.int 1 v]}).objs.size,[(s.heap.push {cls:=.type "range",data:=.fields #[.int lo t,.int hi u,.int 1 v]}).objs.size],_,_,H,rfl,
  I1.kept (t':=tk) fun b o e=>aC _ e,yK _ lo (hi - lo).toNat,?_,fun b hb=>?_,q⟩
 ·have e1:lo+((0:Nat):Int)*1=lo:=by simp
  have e2:(((hi - lo).toNat:Nat):Int) - ((0:Nat):Int)=Builtin.Range.rangeSize lo hi 1:=by rw[rangeSize_one];split<;>omega
  show IsRangeIter _ _ (lo+((0:Nat):Int)*1) ((((hi - lo).toNat:Nat):Int) - ((0:Nat):Int)) 1;rw[e1,e2];exact aU _ rfl
 ·have e:b=(s.heap.push {cls:=.type "range",data:=.fields #[.int lo t,.int hi u,.int 1 v]}).objs.size:=by simpa using hb
  subst e;exact I1.ua (ak _) (I1.cp.fresh (ak _))
def M9(ta:TA):TI:=fun σ H R=>ta σ H fun vs H1=>∃j:Int,vs=[.int j]/\-(2 ^62)<=j/\j<2 ^62/\R (Q5 0 j.toNat) H1
theorem BF{a:Expr}{ta:TA}{p pos:Pos}(hg:Gl X "range")(hm:X.mg "range"=none)(ha:PA X [a] ta)(hs:starEach [a] X.env=[(false,eval a X.env)]:=by rfl):PI X tg (.Call (.Name "range" p) [a] [] pos) (M9 ta):=by
 intro pins s σ H R I h;refine Call_ (oW I hg hm boot_range (qT (eE (ha pos pins s σ H _ I h) fun us s1 ⟨vs,H1,I1,r1,q1⟩=>?_) hs rfl));obtain⟨j,e,q1,q2,q⟩:=q1;subst e;cases r1 with
 |cons r rr=>
  cases rr;obtain⟨t,rfl⟩:=r;exact call_range_1 (Du I1 (by omega) (by omega) q1 q2 (by simpa using q))
def Sk(wi:TI)(g:TG)(tb:TS):TS:=fun D σ H=>wi σ H fun J H1=>∃W:Nat->Nat->St->Hp->Prop,(∃m,W 0 m σ H1)/\∀i m σ H,W i m σ H->
 (J.stop i H/\D.nx σ H)\/(J.go i H/\∃N:St->Hp->Prop,(∀cf H',N cf H'->∃m',m'<m/\W (i+1) m' cf H')/\∀x H',J.zZ i H x H'->g x σ H' fun rX H2=>tb {D with nx:=N,ct:=N,bk:=D.nx} rX H2)
def rY(fp:List Addr)(h:Heap):List (Addr×Obj):=fp.filterMap fun b=>(h.get? b).map fun o=>(b,o)
theorem jz{fp:List Addr}{h:Heap}{b:Addr}{o:Obj}(hb:b∈fp)(e:h.get? b=some o):(b,o)∈rY fp h:=iW.mpr ⟨b,hb,by rw[e];rfl⟩
theorem BG{fp:List Addr}{h:Heap}{p:Addr×Obj}(hp:p∈rY fp h):p.1∈fp/\h.get? p.1=some p.2:=by
 obtain⟨b,hb,e⟩:=iW.mp hp;cases q:h.get? b with
 |none=>rw[q]at e;cases e
 |some o=>
  rw[q]at e;have e':(b,o)=p:=Option.some.inj e;subst e';exact⟨hb,q⟩
theorem Inv.pinned {pins:List (Addr×Obj)}{σ:St}{H:Hp}{s:Shared}{fp:List Addr}(I:Inv X pins σ H s)(hf:∀b∈fp,jy X pins H b)(ho:∀b∈fp,∃o,s.heap.get? b=some o/\∀v,o.data≠ .cell v):Inv X (pins++rY fp s.heap) σ H s:=
 I.zV fun p hp=>(bD.mp hp).elim (fun z=>I.pin p (fi _ z)) fun z=>by
   obtain⟨hb,e⟩:=BG z;obtain⟨f0,f1,f2,_⟩:=hf p.1 hb;obtain⟨o,e',d⟩:=ho p.1 hb;rw[e]at e';cases e';exact⟨e,f0,f1,f2,d⟩
theorem Inv.nQ {pins pl:List (Addr×Obj)}{σ:St}{H:Hp}{s:Shared}(I:Inv X (pins++pl) σ H s):Inv X pins σ H s:=I.zV fun p hp=>I.pin p (fi _ (j9 _ hp))
theorem yL{iter:Expr}{body:List Stmt}{wi:TI}{g:TG}{tb:TS}{pos:Pos}(hp:PassesOwn (model X.prog X.w) X.A X.env X.xe)(hc:X.calm=true)(hi:PI X tg iter wi)(hg:PG X tg g)(hb:kD X body tb)
  (hs:∀x,foldedSetIterable iter X.env x=pure x:=by intro _;rfl):PS X (.For tg iter body [] pos) (Sk wi g tb):=by
 intro pins s σ H D I h;refine wpAny_For (eE (hi pins s σ H _ I h) fun v s1 h1=>eE h1 fun Q3 s2 h2=>?_) hs;obtain⟨it,fp,tn,J,H2,e,I2,T,F6,f2,W,⟨m0,w0⟩,turn⟩:=h2;subst e;have yM:∀{H':Hp},(∀b∈fp,H' b=none)->∀b∈fp,jy X pins H' b:=fun hn b hb=>⟨hn b hb,(f2 b hb).2⟩;refine codeAny_forLoop_any (fun n s'=>∃i cf H',Inv X pins cf H' s'/\tn i s'.heap/\(∀b∈fp,H' b=none)/\W i n cf H') ?_ m0 ⟨0,σ,H2,I2,F6,fun b hb=>(f2 b hb).1,w0⟩
 rintro n s3 ⟨i,yJ,H3,I3,Vk,Vl,w3⟩
 rcases turn i n yJ H3 w3 with⟨stop,qn⟩|⟨go,N,hN,step⟩
 ·refine g0 hp (eE (T.done X rfl rfl rfl hc i pins s3 yJ H3 X.xe I3 (yM Vl) Vk stop) fun r s4 ⟨hr,I4⟩=>?_);subst hr;exact nu ⟨yJ,H3,I4,qn⟩
 ·refine g0 hp (eE (T.item X rfl rfl rfl hc i pins s3 yJ H3 X.xe I3 (yM Vl) Vk go) fun r s4 ⟨u,hr,h4⟩=>?_);subst hr;refine g0 hp (eE h4 fun _ s5 ⟨x,H5,I5,r5,y5,Mo,Q6⟩=>?_);have Wn:=I5.pinned (yM Q6) (T.obj _ _ Mo);refine g0 hp (eE (hg _ s5 yJ H5 x u _ Wn r5 (step x H5 y5)) fun _ s6 ⟨Wo,H6,I6,q6⟩=>?_);refine g0 hp (eE (hb _ s6 Wo H6 _ I6 q6) fun f s7 q7=>?_);have again:∀{Dv:St} {H7:Hp},Inv X (pins++rY fp s5.heap) Dv H7 s7->N Dv H7->∃m,m<n/\∃i cf H',Inv X pins cf H' s7/\tn i s7.heap/\(∀b∈fp,H' b=none)/\W i m cf H':=fun{Dv H7} I7 n7=>by
   obtain⟨m',hm,w7⟩:=hN Dv H7 n7;refine⟨m',hm,i+1,Dv,H7,I7.nQ,T.keep _ _ _ Mo fun b hb o e=>(I7.pin (b,o) (fi _ (fi _ (jz hb e)))).1,fun b hb=>?_,w7⟩;obtain⟨o,e,d⟩:=T.obj _ _ Mo b hb;exact(I7.pin (b,o) (fi _ (fi _ (jz hb e)))).2.1
  cases f with
  |next=>obtain⟨Dv,H7,I7,n7⟩:=q7;exact again I7 n7
  |cont=>obtain⟨Dv,H7,I7,n7⟩:=q7;exact again I7 n7
  |brk=>obtain⟨Dv,H7,I7,q7⟩:=q7;exact⟨Dv,H7,I7.nQ,q7⟩
  |ret v=>obtain⟨x7,Dv,H7,I7,r7,q7⟩:=q7;exact⟨x7,Dv,H7,I7.nQ,r7,q7⟩
end
end L2
namespace L2
open PySem PySem.Spec PyProof.Rows
abbrev R2:=V->V->Hp->VK->Prop
def t4(X:Cx)(f:Value->Value->Sem Value)(r:R2):Prop:=
 ∀(pins:List (Addr×Obj)) (s:Shared) (σ:St) (H:Hp) (x y:V) (v u:Value) (Q:VK),Inv X pins σ H s->RelV x v->RelV y u->r x y H Q->
  wpAny (model X.prog X.w) X.A (f v u) (EP X pins σ Q) X.xe s
def gm(X:Cx)(f:Value)(r:List V->Hp->VK->Prop):Prop:=
 ∀(pins:List (Addr×Obj)) (s:Shared) (σ:St) (H:Hp) (xs:List V) (us:List Value) (Q:VK),Inv X pins σ H s->Vals xs us->r xs H Q->
  wpAny (model X.prog X.w) X.A (call f us) (EP X pins σ Q) X.xe s
def Sl(X:Cx)(r:V->Hp->(Bool->Hp->Prop)->Prop):Prop:=
 ∀(pins:List (Addr×Obj)) (s:Shared) (σ:St) (H:Hp) (x:V) (v:Value) (Q:Bool->Hp->Prop),Inv X pins σ H s->RelV x v->r x H Q->
  wpAny (model X.prog X.w) X.A (truthy v) (TP X pins σ Q) X.xe s
def Mp(r:R2)(ta tb:TE):TE:=fun σ H Q=>ta σ H fun x H1=>tb σ H1 fun y H2=>r x y H2 Q
def rI(C:Int->Int->Prop)(g:Int->Int->V):R2:=fun x y H Q=>∃i j,x=.int i/\y=.int j/\C i j/\Q (g i j) H
def M_(g:Int->Int->V):R2:=fun x y H Q=>∃i j,x=.int i/\y=.int j/\Q (g i j) H
section
variable {X:Cx}{a b c:Expr}{ta tb tc:TE}{pos:Pos}
theorem JF(ha:PE X a ta)(hb:PE X b tb){pins:List (Addr×Obj)}{s:Shared}{σ:St}{H:Hp}{R:V->V->Hp->Prop}(I:Inv X pins σ H s)
  (h:ta σ H fun x H1=>tb σ H1 fun y H2=>R x y H2) {Q:Value->Shared->Prop} {f:Value->Value->Sem Value}
  (hf:∀v u s2 x y H2,Inv X pins σ H2 s2->RelV x v->RelV y u->R x y H2->wpAny (model X.prog X.w) X.A (f v u) Q X.xe s2):
  wpAny (model X.prog X.w) X.A (eval a X.env) (fun v cj=>wpAny (model X.prog X.w) X.A (eval b X.env) (fun u lT=>wpAny (model X.prog X.w) X.A (f v u) Q X.xe lT) X.xe cj) X.xe s:=by
 refine eE (ha pins s σ H _ I h) fun v s1 ⟨x,H1,I1,r1,q1⟩=>?_
 refine eE (hb pins s1 σ H1 _ I1 q1) fun u s2 ⟨y,H2,I2,r2,q2⟩=>?_
 exact hf v u s2 x y H2 I2 r1 r2 q2
theorem M'{op:Operator}{r:R2}(ho:t4 X (binaryOp op) r)(ha:PE X a ta)(hb:PE X b tb):PE X (.BinOp a op b pos) (Mp r ta tb):=by
 intro pins s σ H Q I h;exact wpAny_BinOp (JF ha hb I h fun v u s2 x y H2 I2 rx ry q=>ho pins s2 σ H2 x y v u Q I2 rx ry q)
theorem Vm{f:Value->Value->Sem Value}{C:Int->Int->Prop}{g:Int->Int->Int}
  (rule:∀(i j:Int) (t u:Tok) (s:Shared) (Q:Value->Shared->Prop) (E:Value->Shared->Prop),C i j->Q (.int (g i j) s.toks) {s with toks:=s.toks+1}->wpAny (model X.prog X.w) X.A (f (.int i t) (.int j u)) Q E s):
  t4 X f (rI C fun i j=>.int (g i j)):=by
 intro pins s σ H x y v u Q I rx ry h;obtain⟨i,j,rfl,rfl,hc,q⟩:=h;obtain⟨t,rfl⟩:=rx;obtain⟨t',rfl⟩:=ry;exact rule i j t t' s _ _ hc ⟨.int (g i j),H,I.tok _,⟨_,rfl⟩,q⟩
theorem Sm{f:Value->Value->Sem Value}{g:Int->Int->Int}
  (rule:∀(i j:Int) (t u:Tok) (s:Shared) (Q:Value->Shared->Prop) (E:Value->Shared->Prop),Q (.int (g i j) s.toks) {s with toks:=s.toks+1}->wpAny (model X.prog X.w) X.A (f (.int i t) (.int j u)) Q E s):
  t4 X f (M_ fun i j=>.int (g i j)):=by
 intro pins s σ H x y v u Q I rx ry h;obtain⟨i,j,rfl,rfl,q⟩:=h;obtain⟨t,rfl⟩:=rx;obtain⟨t',rfl⟩:=ry;exact rule i j t t' s _ _ ⟨.int (g i j),H,I.tok _,⟨_,rfl⟩,q⟩
theorem Na{f:Value->Value->Sem Value}{g:Int->Int->Bool}
  (rule:∀(i j:Int) (t u:Tok) (s:Shared) (Q:Value->Shared->Prop) (E:Value->Shared->Prop),Q (.bool (g i j)) s->wpAny (model X.prog X.w) X.A (f (.int i t) (.int j u)) Q E s):
  t4 X f (M_ fun i j=>.bl (g i j)):=by
 intro pins s σ H x y v u Q I rx ry h;obtain⟨i,j,rfl,rfl,q⟩:=h;obtain⟨t,rfl⟩:=rx;obtain⟨t',rfl⟩:=ry;exact rule i j t t' s _ _ ⟨.bl (g i j),H,I,rfl,q⟩
def Dw(i j:Int):Prop:=(-(2 ^64)<i/\i<2 ^64)\/(-(2 ^64)<j/\j<2 ^64)
theorem Dw.ok {i j:Int}(h:Dw i j):IntMulOk i j:=by
 rcases h with⟨h1,h2⟩|⟨h1,h2⟩
 ·exact .of_left (intBits_le_64 h1 h2)
 ·exact .of_right (intBits_le_64 h1 h2)
theorem JG:t4 X (binaryOp .Add) (M_ fun i j=>.int (i+j)):=Sm fun _ _ _ _ _ _ _ q=>add_int q
theorem JH:t4 X (binaryOp .Mult) (rI Dw fun i j=>.int (i*j)):=Vm fun _ _ _ _ _ _ _ hc q=>mul_int q hc.ok
theorem JI:t4 X (binaryOp .Mod) (rI (fun _ j=>0<j) fun i j=>.int (i % j)):=Vm fun i j _ _ _ _ _ hc q=>by
 have h1:(0:Int)<j:=hc;exact mod_int' (by omega) (by rw[Int.fmod_eq_emod_of_nonneg i (by omega)];exact q)
end
section
variable {X:Cx}{a b c:Expr}{ta tb tc:TE}{pos:Pos}
theorem yN{pins:List (Addr×Obj)}{σ:St}{H:Hp}{s:Shared}{Q:VK}{k k':Bool}(I:Inv X pins σ H s)(q:Q (.bl k) H)(e:k=k'):EP X pins σ Q (.bool k') s:=by
 subst e;exact⟨.bl k,H,I,rfl,q⟩
theorem Nb:t4 X (compareOp .Lt) (M_ fun i j=>.bl (decide (i<j))):=Na fun _ _ _ _ _ _ _ q=>lt_int q
theorem Nc:t4 X (compareOp .Gt) (M_ fun i j=>.bl (decide (j<i))):=Na fun _ _ _ _ _ _ _ q=>gt_int q
theorem BH:t4 X (compareOp .Lt) (fun x y H Q=>∃i j,x=.str i/\y=.str j/\Q (.bl (decide (i.cps.toList<j.cps.toList))) H):=by
 intro pins s σ H x y v u Q I rx ry h;obtain⟨i,j,rfl,rfl,q⟩:=h;obtain⟨t,rfl⟩:=rx;obtain⟨t',rfl⟩:=ry;exact lt_str (yN I q rfl)
theorem JJ:t4 X (compareOp .Is) (fun x y H Q=>y=.cD/\Q (.bl (decide (x=.cD))) H):=by
 intro pins s σ H x y v u Q I rx ry h;obtain⟨rfl,q⟩:=h;cases ry;refine is_none_gen (yN I q ?_);cases x<;>first
  |(cases rx;rfl)
  |(obtain⟨t,rfl⟩:=rx;rfl)
theorem kF(b:Expr){op:CmpOp}(h:op≠ .In:=by decide) (h2:op≠ .NotIn:=by decide):behindInMarks op b=false:=by
 have e1:(op==CmpOp.In)=false:=by cases op<;>first|rfl|exact absurd rfl h
 have e2:(op==CmpOp.NotIn)=false:=by cases op<;>first|rfl|exact absurd rfl h2
 cases b<;>simp[behindInMarks,e1,e2]
theorem z5{op:CmpOp}{r:R2}(ho:t4 X (compareOp op) r)(ha:PE X a ta)(hb:PE X b tb)(hm:behindInMarks op b=false):PE X (.Compare a [op] [b] pos) (Mp r ta tb):=by
 intro pins s σ H Q I h;exact wpAny_Compare1 (JF ha hb I h fun v u s2 x y H2 I2 rx ry q=>ho pins s2 σ H2 x y v u Q I2 rx ry q) hm
def Nd(t:TE):TT:=fun σ H Q=>t σ H fun x H'=>∃k,x=.bl k/\Q k H'
theorem z6{op:CmpOp}{r:R2}(ho:t4 X (compareOp op) r)(ha:PE X a ta)(hb:PE X b tb)(hm:behindInMarks op b=false):PT X (.Compare a [op] [b] pos) (Nd (Mp r ta tb)):=by
 intro pins s σ H Q I h;refine wpAny_isTrue_Compare1 (eE (ha pins s σ H _ I h) fun v s1 ⟨x,H1,I1,r1,q1⟩=>eE (hb pins s1 σ H1 _ I1 q1) fun u s2 ⟨y,H2,I2,r2,q2⟩=>
  eE (ho pins s2 σ H2 x y v u _ I2 r1 r2 q2) fun c s3 ⟨z,H3,I3,r3,k,e,q3⟩=>?_) hm
 subst e;cases r3;exact nc ⟨H3,I3,q3⟩
def F7(K:PySem.W.Frag)(x:V)(H:Hp)(k:Bool):Prop:=
 match x with
 |.cD=>k=false
 |.bl b=>k=b
 |.int i=>k=(i !=0)
 |.str y=>y.length<=sizeLine/\k=((y.length:Int) !=0)
 |.Jt y=>y.size<=sizeLine/\k=((y.size:Int) !=0)
 |.ref p=>(∃xs,iS K H p xs/\k=!xs.isEmpty)\/(∃xs,ir K H p xs/\k=!xs.isEmpty)\/∃aw,Rd H p (.dK aw)/\k=!aw.isEmpty
 |_=>False
theorem yO{κ:Type}{aw:List (κ×V)}{vs:List (κ×Value)}(r:KV aw vs):(!vs.isEmpty)=!aw.isEmpty:=by
 cases r<;>rfl
theorem rZ{xs:List V}{aZ:List Value}(r:Vals xs aZ):(!aZ.toArray.isEmpty)=!xs.isEmpty:=by
 cases r<;>simp
theorem r8:(sizeLine:Nat)<2 ^63:=by rw[bH];decide
theorem Dx:Sl X (fun x H Q=>∃k,F7 X.K x H k/\Q k H):=by
 intro pins s σ H x v Q I rx h;obtain⟨k,e,q⟩:=h;have hl:=r8;have hs:sizeLine=16777216:=bH;cases x with
 |cD=>
  cases rx;have e':k=false:=e;subst e';exact truthy_none ⟨H,I,q⟩
 |bl b=>
  cases rx;have e':k=b:=e;subst e';exact nc ⟨H,I,q⟩
 |int i=>
  obtain⟨t,rfl⟩:=rx;have e':k=(i !=0):=e;subst e';exact PySem.P.truthy_int ⟨H,I,q⟩
 |str y=>
  obtain⟨t,rfl⟩:=rx;obtain⟨hy,e'⟩:y.length<=sizeLine/\k=((y.length:Int) !=0):=e;subst e';exact PySem.P.truthy_str (by omega) ⟨H,I.tok _,q⟩
 |Jt y=>
  obtain⟨t,rfl⟩:=rx;obtain⟨hy,e'⟩:y.size<=sizeLine/\k=((y.size:Int) !=0):=e;subst e';exact PySem.W.truthy_bytes (by omega) ⟨H,I.tok _,q⟩
 |ref p=>
  cases rx;have e':(∃xs,iS X.K H p xs/\k=!xs.isEmpty)\/(∃xs,ir X.K H p xs/\k=!xs.isEmpty)\/∃aw,Rd H p (.dK aw)/\k=!aw.isEmpty:=e;rcases e' with⟨xs,hx,e'⟩|⟨xs,hx,e'⟩|⟨aw,hx,e'⟩
  ·subst e';obtain⟨aZ,r,pl,hz⟩:=I.list hx;have hlen:=r.length;exact wpAny_truthy_list pl.isList (by simp only[bf];omega) ⟨H,I.tok _,by rw[rZ r];exact q⟩
  ·subst e';obtain⟨aZ,r,pl,hz⟩:=I.tuple hx;have hlen:=r.length;exact truthy_tuple pl (by simp only[bf];omega) ⟨H,I.tok _,by rw[rZ r];exact q⟩
  ·subst e';obtain⟨hz,hS,vs,r,m⟩:aw.length<=sizeLine/\(p==sysModules)=false/\∃vs,KV aw vs/\s.heap.DictOf (ay X.prog X.w) p vs:=hx.ok I.cp;have hlen:aw.length=vs.length:=Paired.length r;exact wpAny_truthy_dict hS m (by omega) ⟨H,I.tok _,by rw[yO r];exact q⟩
 |_=>exact(show False from e).elim
theorem Dy(ha:PE X a ta)(he:∀whole,isTrue a X.env whole=(do let v<-whole;standAt a.pos;holding [v] (truthy v))):
  PT X a (fun σ H Q=>ta σ H fun x H'=>∃k,F7 X.K x H' k/\Q k H'):=by
 intro pins s σ H Q I h;exact isTrue_plain (eE (ha pins s σ H _ I h) fun v s1 ⟨x,H1,I1,r1,q1⟩=>Dx pins s1 σ H1 x v Q I1 r1 q1) (he _)
theorem yP:t4 X (binaryOp .Add) (fun x y H Q=>∃i j,x=.str i/\y=.str j/\i.length+j.length<=sizeLine/\Q (.str (i++j)) H):=by
 intro pins s σ H x y v u Q I rx ry h;obtain⟨i,j,rfl,rfl,hz,q⟩:=h;obtain⟨t,rfl⟩:=rx;obtain⟨t',rfl⟩:=ry;exact add_str (fun t' tk=>⟨.str (i++j),H,I.tok _,⟨_,rfl⟩,q⟩) hz
theorem vals1{x:V}{us:List Value}(r:Vals [x] us):∃u,us=[u]/\RelV x u:=by
 cases r with
 |cons r1 r2=>cases r2;exact⟨_,rfl,r1⟩
theorem vals2{x y:V}{us:List Value}(r:Vals [x,y] us):∃u w',us=[u,w']/\RelV x u/\RelV y w':=by
 cases r with
 |cons r1 r2=>
  cases r2 with
  |cons r3 r4=>cases r4;exact⟨_,_,rfl,r1,r3⟩
def So(K:PySem.W.Frag)(x:V)(H:Hp)(n:Nat):Prop:=
 match x with
 |.str y=>y.length<=sizeLine/\n=y.length
 |.Jt y=>y.size<=sizeLine/\n=y.size
 |.ref p=>(∃xs,iS K H p xs/\n=xs.length)\/∃xs,ir K H p xs/\n=xs.length
 |_=>False
theorem nR:gm X (.builtin "len") (fun xs H Q=>∃x n,xs=[x]/\So X.K x H n/\Q (.int n) H):=by
 intro pins s σ H xs us Q I r h;obtain⟨x,n,rfl,e,q⟩:=h;obtain⟨u,rfl,rx⟩:=vals1 r;have hl:=r8;have hs:sizeLine=16777216:=bH;cases x with
 |str y=>
  obtain⟨t,rfl⟩:=rx;obtain⟨hy,e'⟩:y.length<=sizeLine/\n=y.length:=e;subst e';exact len_str (by omega) ⟨.int _,H,I.tok _,⟨_,rfl⟩,q⟩
 |Jt y=>
  obtain⟨t,rfl⟩:=rx;obtain⟨hy,e'⟩:y.size<=sizeLine/\n=y.size:=e;subst e';exact PySem.W.len_bytes (by omega) ⟨.int _,H,I.tok _,⟨_,rfl⟩,q⟩
 |ref p=>
  cases rx;have e':(∃xs,iS X.K H p xs/\n=xs.length)\/∃xs,ir X.K H p xs/\n=xs.length:=e;rcases e' with⟨xs,hx,e'⟩|⟨xs,hx,e'⟩
  ·subst e';obtain⟨aZ,r',pl,hz⟩:=I.list hx;have hlen:=r'.length;exact Calls.call_len_list pl.isList (by simp only[bf];omega) ⟨.int xs.length,H,I.tok _,⟨_,by simp only[bf];rw[hlen]⟩,q⟩
  ·subst e';obtain⟨aZ,r',pl,hz⟩:=I.tuple hx;have hlen:=r'.length;exact len_tuple pl (by simp only[bf];omega) ⟨.int xs.length,H,I.tok _,⟨_,by simp only[bf];rw[hlen]⟩,q⟩
 |_=>exact(show False from e).elim
end
end L2
namespace L2
open PySem PySem.Spec PyProof.Rows
structure JK(h:Heap)(x dx C:Addr)(mA:Str->Option Value):Prop where
 obj:h.get? x=some (PySem.W.instObj C dx)
 ns:h.Ns1 dx mA
 ne:dx≠x
theorem BI{h:Heap}{dx:Addr}{mA:Str->Option Value}(n:h.Ns1 dx mA):∃od,h.get? dx=some od/\∀name,PySem.W.lookIn name od=some (mA name):=by
 obtain⟨o,es,ep,ho,hd,hk,_,hm⟩:=n;refine⟨o,ho,fun name=>?_⟩;have e:=hm name;unfold nsFind findBy at e;rw[<-Array.find?_toList]at e;unfold PySem.W.lookIn;rw[hd];dsimp only;split
 ·rename_i y q;rw[q]at e;exact bJ some e
 ·rename_i q;rw[q]at e;have a:es.toList.any (·.refKey)=false:=by
   rw[List.any_eq_false];intro y hy;obtain⟨z,t,F8⟩:=hk y (j_.mp hy);simp[DictEntry.refKey,F8]
  have a':¬es.toList.any (·.refKey)=true:=by rw[a];exact cP
  rw[af a'];exact bJ some e
theorem JK.look {h:Heap}{x dx C:Addr}{mA:Str->Option Value}(I:JK h x dx C mA):∃od,PySem.W.InstAt h x (PySem.W.instObj C dx) C (some od)/\∀name,PySem.W.lookIn name od=some (mA name):=
 let⟨od,ho,hl⟩:=BI I.ns
 ⟨od,⟨I.obj,rfl,rfl,ho⟩,hl⟩
theorem oV.some_of {v:V}{o:Option Value}(r:oV (some v) o):∃u,o=some u/\RelV v u:=by
 cases o with
 |none=>exact(show False from r).elim
 |some u=>exact⟨u,rfl,r⟩
section
variable {P:Program}{w:World}{H H':Hp}{h h':Heap}{a C dx:Addr}{fs BC:List (Str×V)}
theorem F9(cp:lZ P w H h)(e:H a=some (.ins C dx fs)):∃mA,JK h a dx C mA/\(∀f,oV (fs.lookup f) (mA f))/\PySem.Within mA (fs.map (·.1))/\fs.length<=1000/\H dx=some (.own a):=by
 obtain⟨d,z,ne,ob,mA,n,r,q⟩:=(show bQ P w H h a (.ins C dx fs)from cp a _ e);exact⟨mA,⟨ob,n,ne⟩,r,q,z,d⟩
end
structure Mq(K:PySem.W.Frag)(C:Addr):Prop where
 pg:PySem.W.plainGet K C Str.empty=true
 hd:PySem.W.hasDictIn K C=true
 po:PySem.W.plainOver K C=true
 sa:PySem.W.findIn K (.ref C) "__setattr__"=some (some (.builtin "object.__setattr__"))
theorem Mq.get {K:PySem.W.Frag}{C:Addr}(c:Mq K C)(f:Str):PySem.W.plainGet K C f=true:=c.pg
def JL(K:PySem.W.Frag)(C:Addr)(f:Str):Prop:=PySem.W.findIn K (.ref C) f=some none
structure Meth(K:PySem.W.Frag)(C:Addr)(m:Str)(f:Addr):Prop where
 at_:PySem.W.findIn K (.ref C) m=some (some (.ref f))
 fn:PySem.W.isFn K (.ref f)=true
 kp:PySem.W.keepIn K (.ref f)=true
def JM(X:Cx)(op:Operator)(rd:V->V->Hp->VK->Prop):Prop:=
 ∀(pins:List (Addr×Obj)) (s:Shared) (σ:St) (H:Hp) (x y:V) (u v:Value) (Q:VK),Inv X pins σ H s->RelV x u->RelV y v->rd x y H Q->wpAny (model X.prog X.w) X.A (inplaceOp op u v) (EP X pins σ Q) X.xe s
section
variable {X:Cx}{o e value:Expr}{f:Str}{pos pos' nT:Pos}{ta tv:TE}
def Sq:V->V->Hp->VK->Prop:=fun x y H Q=>∃i j,x=.int i/\y=.int j/\Q (.int (i+j)) H
def Sr:V->V->Hp->VK->Prop:=fun x y H Q=>∃i j,x=.int i/\y=.int j/\Q (.int (i - j)) H
theorem JN:JM X .Add Sq:=by
 rintro pins s σ H x y u v Q I rx ry ⟨i,j,rfl,rfl,q⟩
 obtain⟨t,rfl⟩:=(show∃t,u=Value.int i t from rx);obtain⟨t',rfl⟩:=(show∃t',v=Value.int j t' from ry);exact PyProof.Rows.iadd_int ⟨.int (i+j),H,I.tok _,⟨_,rfl⟩,q⟩
theorem JO:JM X .Sub Sr:=by
 rintro pins s σ H x y u v Q I rx ry ⟨i,j,rfl,rfl,q⟩
 obtain⟨t,rfl⟩:=(show∃t,u=Value.int i t from rx);obtain⟨t',rfl⟩:=(show∃t',v=Value.int j t' from ry);exact PyProof.Rows.isub_int ⟨.int (i - j),H,I.tok _,⟨_,rfl⟩,q⟩
end
section
variable {X:Cx}{pins:List (Addr×Obj)}{σ:St}{H:Hp}{s:Shared}{A:Around}{E:Value->Shared->Prop}{Q:Value->Shared->Prop}{c:Value}{b:Bool}
inductive nU(K:PySem.W.Frag)(H:Hp):V->Value->Prop where
 |cD:nU K H .cD (.type "NoneType")
 |bl (x:Bool):nU K H (.bl x) (.type "bool")
 |int (i:Int):nU K H (.int i) (.type "int")
 |str (x:Str):nU K H (.str x) (.type "str")
 |Ib (x:UInt64):nU K H (.Ib x) (.type "float")
 |lst {a:Addr} {xs:List V} (e:H a=some (.lst xs)):nU K H (.ref a) (.type "list")
 |gk {a:Addr} {o:Obj} {xs:List V} (e:H a=some (.gk o (.lst xs))):nU K H (.ref a) (.type "list")
 |tup {a:Addr} {xs:List V} (e:H a=some (.tup xs)):nU K H (.ref a) (.type "tuple")
 |dK {a:Addr} {aw:List (Key×V)} (e:H a=some (.dK aw)):nU K H (.ref a) (.type "dict")
 |dT {a:Addr} {aw:List (List Key×V)} (e:H a=some (.dT aw)):nU K H (.ref a) (.type "dict")
 |ins {a C dx:Addr} {fs:List (Str×V)} (e:H a=some (.ins C dx fs)) (cl:Mq K C) (ha:PySem.W.findIn K (.ref C) "__class__"=some (some (.builtin "object.__class__")))
   (hn:PySem.W.specialIn K (.builtin "object.__class__") "__get__"=some (some (.builtin "getset_descriptor.__get__"))) (Vn:PySem.W.takesIn K (.builtin "object.__class__")=some true)
   (hm:PySem.W.mroIn K C (.type "object")=some true):nU K H (.ref a) (.ref C)
theorem je{x:V}{u t:Value}(I:Inv X pins σ H s)(rx:RelV x u)(ty:nU X.K H x t)(e:PySem.W.kitOne X.K t c=some b)(h:∀tk,Q (.bool b) {s with toks:=tk}):
  wpAny (model X.prog X.w) A (call (.builtin "isinstance") [u,c]) Q E s:=by
 cases ty with
 |cD=>cases(show u=Value.none from rx);exact dr PySem.W.kitx_none I.qe True.intro e (fun z=>nomatch z) h
 |bl y=>cases(show u=Value.bool y from rx);exact dr PySem.W.kitx_bool I.qe True.intro e (fun z=>nomatch z) h
 |int i=>obtain⟨t,q⟩:=(show∃t,u=Value.int i t from rx);cases q;exact dr PySem.W.kitx_int I.qe True.intro e (fun z=>nomatch z) h
 |str y=>obtain⟨t,q⟩:=(show∃t,u=Value.str y t from rx);cases q;exact dr PySem.W.kitx_str I.qe True.intro e (fun z=>nomatch z) h
 |Ib y=>obtain⟨t,q⟩:=(show∃t,u=Value.float y t from rx);cases q;exact dr PySem.W.kitx_float I.qe True.intro e (fun z=>nomatch z) h
 |@lst a xs ea=>
  cases(show u=Value.ref a from rx);obtain⟨_,_,n,_,h1⟩:=(show bQ X.prog X.w H s.heap a (.lst xs)from I.cp a _ ea);exact dr rm I.qe ⟨_,h1,rfl⟩ e (fun z=>nomatch z) h
 |@gk a ob xs ea=>
  cases(show u=Value.ref a from rx);obtain⟨_,_,_,n,_,h1⟩:=(show bQ X.prog X.w H s.heap a (.gk ob (.lst xs))from I.cp a _ ea);exact dr rm I.qe ⟨_,h1,rfl⟩ e (fun z=>nomatch z) h
 |@tup a xs ea=>
  cases(show u=Value.ref a from rx);obtain⟨_,_,_,p⟩:=(show bQ X.prog X.w H s.heap a (.tup xs)from I.cp a _ ea);obtain⟨o,h1,h2,_⟩:=p;exact dr PySem.W.kitx_tuple I.qe ⟨o,h1,h2⟩ e (fun z=>nomatch z) h
 |@dK a aw ea=>
  cases(show u=Value.ref a from rx);obtain⟨_,_,vs,_,p⟩:=(show bQ X.prog X.w H s.heap a (.dK aw)from I.cp a _ ea);obtain⟨o,es,ep,h1,h2,_⟩:=p;exact dr m5 I.qe ⟨o,h1,h2.1⟩ e (fun z=>nomatch z) h
 |@dT a aw ea=>
  cases(show u=Value.ref a from rx);obtain⟨_,_,xs,_,o,es,ep,h1,h2,_⟩:=(show bQ X.prog X.w H s.heap a (.dT aw)from I.cp a _ ea);exact dr m5 I.qe ⟨o,h1,h2.1⟩ e (fun z=>nomatch z) h
 |@ins a C dx fs ea cl ha hn Vn hm=>
  cases(show u=Value.ref a from rx);obtain⟨mA,O,_⟩:=F9 I.cp ea;obtain⟨od,J,_⟩:=O.look;exact dr (PySem.W.kitx_own (cl.get _) cl.hd ha hn Vn hm) I.qe J e (fun z=>nomatch z) h
end
end L2
namespace L2
open PySem PySem.Spec PyProof.Rows
structure dE(k:Nat)(A:Around):Prop where
 hd:A.handled=none
 dp:A.depth+3*k+5<recursionLimit
 un:A.units+16*k+200<cLine
theorem dE.mono {j k:Nat}{A:Around}(r:dE k A)(h:j<=k):dE j A:=⟨r.hd,by have:=r.dp;omega,by have:=r.un;omega⟩
theorem dE.deeper {k:Nat}{A:Around}(r:dE (k+1) A)(env:Env):dE k (A.deeper env):=
 ⟨r.hd,by have:=r.dp;show A.depth+1+3*k+5<_;omega,by have:=r.un;show A.units+3+16*k+200<_;omega⟩
theorem dE.depth {k:Nat}{A:Around}(r:dE k A):A.depth<recursionLimit:=by have:=r.dp;omega
theorem dE.units {k:Nat}{A:Around}(r:dE k A):A.units+64<cLine:=by have:=r.un;omega
def Ss:TA:=fun _ H Q=>Q [] H
def Nf(ta:TE)(tr:TA):TA:=fun σ H Q=>ta σ H fun x H1=>tr σ H1 fun xs H2=>Q (x::xs) H2
section
variable {X:Cx}{e:Expr}{es:List Expr}{te:TE}{t:TA}{pos:Pos}
theorem kG:PA X [] Ss:=fun _ _ _ _ H Q I h=>rO ⟨[],H,I,.nil,h⟩
theorem iC(ha:PE X e te)(hr:PA X es t)(hs:starEach (e::es) X.env=(false,eval e X.env)::starEach es X.env:=by rfl):PA X (e::es) (Nf te t):=by
 intro pos pins s σ H Q I h;rw[hs];show wpAny _ _ (spliced ((false,eval e X.env)::backTo pos (starEach es X.env))) _ _ s;refine m7 (eE (ha pins s σ H _ I h) fun u s1 ⟨x,H1,I1,r1,q1⟩=>?_);exact eE (hr pos pins s1 σ H1 _ I1 q1) fun us s2 ⟨xs,H2,I2,r2,q2⟩=>⟨x::xs,H2,I2,.cons r1 r2,q2⟩
def Su(t:TA):TE:=fun σ H Q=>t σ H fun xs H1=>xs.length<=sizeLine/\∀p,H1 p=none->Q (.ref p) (upd H1 p (.tup xs))
def Sv(t:TA):TE:=fun σ H Q=>t σ H fun xs H1=>xs.length<=sizeLine/\∀p,H1 p=none->Q (.ref p) (upd H1 p (.lst xs))
theorem Dz{x1}(h:PA X es t):PE X (.Tuple es x1 pos) (Su t):=by
 intro pins s σ H Q I hq;refine wpAny_Tuple_spliced (eE (h pos pins s σ H _ I hq) fun us s1 ⟨xs,H1,I1,r,z,q⟩=>⟨by rw[<-r.length];exact z,?_⟩);have hf:H1 s1.heap.objs.size=none:=I1.cp.fresh (ak _);refine⟨.ref s1.heap.objs.size,upd H1 s1.heap.objs.size (.tup xs),I1.laid (t':=s1.toks) (fun b u e=>aC _ e) (ak _) ?_,rfl,q _ hf⟩;exact⟨z,us,r,⟨_,aU _ rfl,rfl,_,rfl,rfl⟩⟩
theorem DA(h:PA X es t):PE X (.List es pos) (Sv t):=by
 intro pins s σ H Q I hq;refine wpAny_List_spliced (eE (h pos pins s σ H _ I hq) fun us s1 ⟨xs,H1,I1,r,z,q⟩=>⟨by rw[<-r.length];exact z,?_⟩);have hf:H1 s1.heap.objs.size=none:=I1.cp.fresh (ak _);refine⟨.ref s1.heap.objs.size,upd H1 s1.heap.objs.size (.lst xs),I1.laid (t':=s1.toks) (fun b u e=>aC _ e) (ak _) ?_,rfl,q _ hf⟩;exact⟨z,us,0,r,aU _ rfl⟩
end
abbrev Sp:=List V->Hp->VK->XK->Prop
abbrev yQ:=List Env->Hp->Shared->XK->Value->Shared->Prop
structure F_(P:Program)(w:World)(K:PySem.W.Frag)(mg:Str->Option Value)(base:Heap)(A:Around)(outer:List Env)(s:Shared)(H:Hp):Prop where
 frames:A.frames=some outer
 mod:Mod K mg base
 bs:∀b o,base.get? b=some o->s.heap.get? b=some o/\H b=none
 Ic:base.objs.size<=s.heap.objs.size
 rS:s.heap.FunFrames base outer
 Ml:∀b∈nO outer,H b=none
 cp:lZ P w H s.heap
 bare:AllBare s.gens
def CE(outer:List Env)(P:Program)(w:World)(H:Hp)(s:Shared)(Q:VK)(u:Value)(s':Shared):Prop:=
 ∃v H',s'.os=s.os/\AllBare s'.gens/\Un (nO outer) [] H H' s.heap s'.heap/\lZ P w H' s'.heap/\RelV v u/\Q v H'
def CR(CX:yQ)(outer:List Env)(P:Program)(w:World)(H:Hp)(s:Shared)(Q:VK)(E:XK)(r:Result)(s':Shared):Prop:=
 match r with
 |.ok (.ret u)=>CE outer P w H s Q u s'
 |.ok _=>False
 |.error e=>CX outer H s E e s'
structure ia(P:Program)(w:World)(K:PySem.W.Frag)(mg:Str->Option Value)(base:Heap)(CX:yQ)(k:Nat)(f:Addr)(fd:FuncData)(ps:List Str)(sp:Sp):Prop where
 len:∀vs H Q E,sp vs H Q E->vs.length=ps.length
 run:∀(A:Around) (outer:List Env) (s:Shared) (H:Hp) (args:Args) (us:List Value) (vs:List V) (Q:VK) (E:XK),dE k A->F_ P w K mg base A outer s H->BindsTo s fd args (ps.zip us)->Vals vs us->sp vs H Q E->
  codeAny (model P w) A (.call (.ref f) args) (CR CX outer P w H s Q E) s
theorem ia.mono {P:Program}{w:World}{K:PySem.W.Frag}{mg:Str->Option Value}{base:Heap}{CX:yQ}{j k:Nat}{f:Addr}{fd:FuncData}{ps:List Str}{sp:Sp}(F:ia P w K mg base CX j f fd ps sp)(h:j<=k):
  ia P w K mg base CX k f fd ps sp:=⟨F.len,fun A outer s H args us vs Q E hr=>F.run A outer s H args us vs Q E (hr.mono h)⟩
section
variable {X:Cx}{pins:List (Addr×Obj)}{σ:St}{H:Hp}{s s':Shared}
theorem Inv.Sw (I:Inv X pins σ H s):F_ X.prog X.w X.K X.mg X.base X.A X.stack s H:=
 ⟨I.ok.frames,I.ok.mod,I.bs,bx I.ok.Ic I.sz,I.stack,I.vu,I.cp,I.bare⟩
theorem Inv.after {Q:VK}{u:Value}(I:Inv X pins σ H s)(h:CE X.stack X.prog X.w H s Q u s'):EP X pins σ Q u s':=by
 obtain⟨v,H',os,bare,un,cp,r,q⟩:=h;obtain⟨hh,g,d,t,Wq⟩:=s';obtain rfl:Wq=s.os:=os;exact⟨v,H',I.call (h':=hh) (g':=g) (d':=d) (t':=t) (ch:=[]) un cp bare (fun b z=>absurd z (by simp)),r,q⟩
end
def Ij(sp:Sp)(Ik:List V)(E:XK)(t:TA):TE:=fun σ H Q=>t σ H fun vs H1=>sp (vs++Ik) H1 Q E
def Binds(K:PySem.W.Frag)(fd:FuncData)(ps:List Str)(ds:List Value):Prop:=
 ∀(s:Shared) (us:List Value),K.In s.heap->(us++ds).length=ps.length->BindsTo s fd ⟨us,[]⟩ (ps.zip (us++ds))
theorem Binds.all {K:PySem.W.Frag}{fd:FuncData}{ps:List Str}(h:∀us:List Value,us.length=ps.length->bindArgs fd ⟨us,[]⟩=pure (ps.zip us)):Binds K fd ps []:=fun s us _ hl=>by
 rw[dW]at hl⊢;exact .of_eq (h us hl)
def Passes(CX:yQ)(X:Cx)(E:XK):Prop:=∀(pins:List (Addr×Obj)) (σ:St) (H:Hp) (s:Shared) (e:Value) (s':Shared),Inv X pins σ H s->CX X.stack H s E e s'->X.xe e s'
section
variable {X:Cx}{CX:yQ}{k:Nat}{f C:Addr}{fd:FuncData}{ps:List Str}{sp:Sp}{Ik:List V}{ds:List Value}{E:XK}{x m:Str}{p pos apos:Pos}{e o:Expr}{es:List Expr}{ta:TE}{t:TA}
theorem JP{pins:List (Addr×Obj)}{σ:St}{H:Hp}{s:Shared}{Q:VK}{us:List Value}{vs:List V}(F:ia X.prog X.w X.K X.mg X.base CX k f fd ps sp)(hr:dE k X.A)(hb:Binds X.K fd ps ds)(hd:Vals Ik ds)(hx:Passes CX X E)
  (I:Inv X pins σ H s) (r:Vals vs us) (h:sp (vs++Ik) H Q E):wpAny (model X.prog X.w) X.A (call (.ref f) us) (EP X pins σ Q) X.xe s:=by
 have r2:Vals (vs++Ik) (us++ds):=r.append hd;have hl:(us++ds).length=ps.length:=by rw[<-r2.length];exact F.len _ _ _ _ h
 refine wpAny_call (fq (F.run X.A X.stack s H ⟨us,[]⟩ (us++ds) (vs++Ik) Q E hr I.Sw (hb s us I.qe hl) r2 h) fun r s' hq=>?_);cases r with
 |error e=>exact hx pins σ H s e s' I hq
 |ok fl=>
  cases fl with
  |ret u=>exact I.after hq
  |next=>exact False.elim hq
  |brk=>exact False.elim hq
  |cont=>exact False.elim hq
theorem z7(F:ia X.prog X.w X.K X.mg X.base CX k f fd ps sp)(hr:dE k X.A)(hg:Gl X x)(hm:X.mg x=some (.ref f))(hk:PySem.W.keepIn X.K (.ref f)=true)(hb:Binds X.K fd ps ds)(hd:Vals Ik ds)(hx:Passes CX X E)
  (ha:PA X (e::es) t) (jA:(x==("__debug__":Str))=false:=by decide) (he:starEach (e::es) X.env=(false,eval e X.env)::starEach es X.env:=by rfl) (oX:(backTo pos (starEach es X.env)).any (·.1)=false:=by rfl):
  PE X (.Call (.Name x p) (e::es) [] pos) (Ij sp Ik E t):=by
 intro pins s σ H Q I h;refine m8 (F1 I hg hm ?_ jA);refine PySem.W.callWith_K (h₀:=X.base) I.ok.mod.MY hk (eE (ha pos pins s σ H _ I h) fun us s1 ⟨vs,H1,I1,r,q⟩=>⟨I1.qe,?_⟩) he oX;exact JP F hr hb hd hx I1 r q
structure Mk(K:PySem.W.Frag)(C f:Addr):Prop where
 makes:PySem.W.makesIn K C=true
 init:PySem.W.findIn K (.ref C) "__init__"=some (some (.ref f))
 fn:PySem.W.isFn K (.ref f)=true
 kp:PySem.W.keepIn K (.ref C)=true
end
structure d0(N P:List Str)(sc:Scope):Prop where
 kind:sc.kind=.function
 co:sc.isCoroutine=false
 gen:sc.isGenerator=false
 nd:N.Nodup
 pre:N.take P.length=P
 par:∀x∈P,sc.names.lookup x=some .local\/sc.names.lookup x=some .cell
 JQ:∀y∈sc.names,y.2≠ .free
theorem uy{kindOf:Str->Option NameKind}{x:Str}:∀{binds:List (Str×Value)} {m:Str->Option Value},(∀v,(x,v)∉binds)->bindL kindOf binds m x=m x
 |[],_,_=>rfl
 |(n,v)::r,m,h=>by
  unfold bindL;rw[uy fun w hw=>h w (aO _ hw)];split
  ·have:x≠n:=by rintro rfl;exact h v aS
   simp[this]
  ·rfl
theorem uz{kindOf:Str->Option NameKind}{x:Str}:∀{binds:List (Str×Value)} {m:Str->Option Value},(∀v,(x,v)∉binds)->bindC kindOf binds m x=m x
 |[],_,_=>rfl
 |(n,v)::r,m,h=>by
  unfold bindC;rw[uz fun w hw=>h w (aO _ hw)];split
  ·rfl
  ·have:x≠n:=by rintro rfl;exact h v aS
   simp[this]
theorem uA{kindOf:Str->Option NameKind}{x:Str}{v:Value}:∀{P:List Str} {vs:List Value} {i:Nat} {m:Str->Option Value},P.Nodup->P[i]?=some x->vs[i]?=some v->kindOf x=some .local->
  bindL kindOf (P.zip vs) m x=some v
 |[],_,_,_,_,h,_,_=>by simp at h
 |_::_,[],_,_,_,_,h,_=>by simp at h
 |p::P,w::vs,0,m,nd,h1,h2,hk=>by
  simp at h1 h2;subst h1;subst h2;show bindL kindOf ((p,w)::P.zip vs) m p=_;unfold bindL;rw[uy fun v hv=>(dX.mp nd).1 (rG hv).1,ab hk];simp
 |p::P,w::vs,i+1,m,nd,h1,h2,hk=>by
  show bindL kindOf ((p,w)::P.zip vs) m x=_;unfold bindL;exact uA (i:=i) (dX.mp nd).2 (by simpa using h1) (by simpa using h2) hk
theorem uB{kindOf:Str->Option NameKind}{x:Str}{v:Value}:∀{P:List Str} {vs:List Value} {i:Nat} {m:Str->Option Value},P.Nodup->P[i]?=some x->vs[i]?=some v->kindOf x≠some .local->
  bindC kindOf (P.zip vs) m x=some v
 |[],_,_,_,_,h,_,_=>by simp at h
 |_::_,[],_,_,_,_,h,_=>by simp at h
 |p::P,w::vs,0,m,nd,h1,h2,hk=>by
  simp at h1 h2;subst h1;subst h2;show bindC kindOf ((p,w)::P.zip vs) m p=_;unfold bindC;rw[uz fun v hv=>(dX.mp nd).1 (rG hv).1,af hk];simp
 |p::P,w::vs,i+1,m,nd,h1,h2,hk=>by
  show bindC kindOf ((p,w)::P.zip vs) m x=_;unfold bindC;exact uB (i:=i) (dX.mp nd).2 (by simpa using h1) (by simpa using h2) hk
def start(N:List Str)(vs:List V):St:=vs.map some++List.replicate (N.length - vs.length) none
def jZ(CX:yQ)(P:Program)(w:World)(K:PySem.W.Frag)(mg:Str->Option Value)(base:Heap)(N:List Str)(qual:Str)(scope:Scope)(f:Addr)(cd:Value)(A:Around)(outer:List Env)(s:Shared)(H:Hp)(E:XK):Cx where
 prog:=P
 w:=w
 K:=K
 mg:=mg
 base:=base
 A:=A.deeper (envOfC qual scope s.heap.objs.size f cd)
 N:=N
 fb:=s
 wQ:=H
 env:=envOfC qual scope s.heap.objs.size f cd
 outer:=outer
 stack:=envOfC qual scope s.heap.objs.size f cd::outer
 ex:=[]
 calm:=true
 fn:=fun _=>true
 pn:=[]
 xe:=fun e s'=>wpAny (model P w) (A.deeper (envOfC qual scope s.heap.objs.size f cd)) (leaving (envOfC qual scope s.heap.objs.size f cd) e) (fun _ FH=>CX outer H s E e FH) (fun e' FH=>CX outer H s E e' FH) s'
theorem wX{sc:Scope}{n:Nat}{x:Str}(h:sc.names.lookup x=some .cell):∃c,(cellsFrom n sc.names []).lookup x=some c:=by
 have q:=PySem.W.cellsFrom_some sc.names n [] (.inl h);exact qW.mp q
theorem BJ{CX:yQ}{P:Program}{w:World}{K:PySem.W.Frag}{mg:Str->Option Value}{base:Heap}{N ps:List Str}{qual:Str}{scope:Scope}{f:Addr}{cd:Value}{A:Around}{outer:List Env}{s s1:Shared}{H:Hp}{E:XK}{us:List Value}{vs:List V}
  (S:d0 N ps scope) (hd:A.handled=none) (e0:F_ P w K mg base A outer s H) (hl:vs.length=ps.length) (r:Vals vs us)
  (x:InCallC s s.heap.objs.size (bindL (envOfC qual scope s.heap.objs.size f cd).kindOf (ps.zip us) fun _=>none) (cellsFrom (s.heap.objs.size+1) scope.names []) (bindC (envOfC qual scope s.heap.objs.size f cd).kindOf (ps.zip us) fun _=>none) s1):
  Inv (jZ CX P w K mg base N qual scope f cd A outer s H E) [] (start N vs) H s1:=by
 have oX:ps.length<=N.length:=by have:=bJ List.length S.pre;rw[kb]at this;omega
 obtain⟨h1,tk,rfl,hk⟩:=x.done;have Mr:∀b:Addr,b∉(jZ CX P w K mg base N qual scope f cd A outer s H E).ex:=fun b z=>absurd (show b∈([]:List Addr)from z) (by simp);refine⟨⟨e0.mod,S.kind,rfl,rfl,ak _,fun y z c h1 h2=>?_,fun y hy=>?_,fun y c _ h=>?_,fun _=>hd,Around.frames_deeper e0.frames,.inr ⟨rfl,rfl⟩,fun b z=>absurd z (Mr b),e0.bs,e0.Ic,fun b _ _=>Mr b,fun b z=>absurd z (Mr b),e0.rS,e0.Ml⟩,
  rfl,e0.bare,Un.kept hk,⟨_,x.toInCall.ns,fun i y v h1 h2 h3=>?_⟩,fun y c h=>⟨_,x.cell y c h⟩,e0.cp.fresh (ak _),fun y c h=>?_,fun p hp=>absurd (show p∈([]:List (Addr×Obj))from hp) (by simp),e0.cp.kept hk,?_⟩
 ·exact name_of_addr x.apart (gI h1) (gI h2)
 ·have hy:scope.names.lookup y=some .cell\/scope.names.lookup y=some .free:=hy;rcases hy with hy|hy
  ·exact wX hy
  ·exact absurd rfl (S.JQ _ (gI hy))
 ·exact gf (x.above y c (gI h))
 ·have hi:i<vs.length:=by
   unfold start at h2;by_cases hi:i<vs.length
   ·exact hi
   ·rw[dI (by simpa using hi)]at h2;rw[mO]at h2;split at h2<;>cases h2
  have ha:vs[i]?=some v:=by
   unfold start at h2;rw[cq (by simpa using hi),aP]at h2;cases e:vs[i]? with
   |none=>rw[e]at h2;cases h2
   |some a=>rw[e]at h2;cases h2;rfl
  obtain⟨u,hu,rv⟩:=r.get ha;have hp:ps[i]?=some y:=by
   rw[<-S.pre,List.getElem?_take_of_lt (by omega)];exact h1
  have Vo:ps.Nodup:=by rw[<-S.pre];exact S.nd.sublist (List.take_sublist _ _)
  refine⟨u,rv,?_⟩;rcases S.par y (bw hp)with k|k
  ·exact .inl ⟨k,uA Vo hp hu k⟩
  ·obtain⟨c,e⟩:=wX (n:=s.heap.objs.size+1) k;refine .inr ⟨.inl k,c,e,?_⟩;have q:=x.cell y c e;rw[uB Vo hp hu (by show scope.names.lookup y≠_;rw[k];decide)]at q;exact q
 ·exact e0.cp.fresh (gf (x.above y c (gI h)))
 ·unfold start;show _=N.length;rw[aY,ah,mT];omega
theorem DB{CX:yQ}{P:Program}{w:World}{K:PySem.W.Frag}{mg:Str->Option Value}{base:Heap}{k:Nat}{f:Addr}{name qual:Str}{params:Arguments}{body:List Stmt}{scope:Scope}{dV kV doc pm du ct oc:Value}{an od:Option Addr}
  {z8:Array (Option Value)} {N ps:List Str} {sp:Sp} (lk:K.lookup f=some ⟨oc,od,.func (PySem.W.fnOf name qual params body scope dV kV doc pm an du ct),z8⟩) (qf:PySem.W.codeIn K du qual=true) (S:d0 N ps scope)
  (len:∀vs H Q E,sp vs H Q E->vs.length=ps.length)
  (ib:∀(A:Around) (outer:List Env) (s:Shared) (H:Hp) (vs:List V) (Q:VK) (E:XK),dE k (A.deeper (envOfC qual scope s.heap.objs.size f du))->sp vs H Q E->
   ∃t,kD (jZ CX P w K mg base N qual scope f du A outer s H E) body t/\t {nx:=fun _ H'=>Q .cD H',rt:=Q} (start N vs) H):
  ia P w K mg base CX (k+1) f (PySem.W.fnOf name qual params body scope dV kV doc pm an du ct) ps sp:=by
 refine⟨len,fun A outer s H args us vs Q E hr e0 hb r Il=>?_⟩;have hl:=len _ _ _ _ Il;have KX:K.In s.heap:=e0.mod.MY.keeps fun b o e=>(e0.bs b o e).1;have lim:s.heap.NoLimit:=e0.mod.nolimit.keeps fun b o e=>(e0.bs b o e).1;have Ng:∀y∈ps.zip us,scope.names.lookup y.1=some .local\/(scope.names.lookup y.1=some .cell/\((cellsFrom (s.heap.objs.size+1) scope.names []).lookup y.1).isSome=true):=fun⟨n,v⟩ hy=>by
  rcases S.par n (rG hy).1 with q|q
  ·exact .inl q
  ·exact .inr ⟨q,PySem.W.cellsFrom_some _ _ _ (.inl q)⟩
 refine codeAny_call_function hr.depth (KX _ _ lk) rfl S.co S.gen rfl (PySem.W.codeRec_of KX qf) (hb _ _ _ _ ?_);refine wpAny_newFunctionEnv_cells S.kind Ng fun env he s1 x=>?_
 subst he;refine⟨lim.keeps x.toInCall.keep,codeAny_func ?_⟩;obtain⟨t,ht,hq⟩:=ib A outer s H vs Q E (hr.deeper _) Il;have I:Inv (jZ CX P w K mg base N qual scope f du A outer s H E) [] (start N vs) H s1:=BJ S hr.hd e0 hl r x;refine c0 (ht [] s1 (start N vs) H _ I hq) (fun fl s' hs=>?_) fun e s' hs=>hs;have fin:∀{cf:St} {H':Hp} {v:V} {u:Value},Inv (jZ CX P w K mg base N qual scope f du A outer s H E) [] cf H' s'->RelV v u->Q v H'->CE outer P w H s Q u s':=
  fun{cf H' v u} J rv q=>⟨v,H',J.os,J.bare,J.base,J.cp,rv,q⟩
 cases fl with
 |ret u=>
  obtain⟨v,cf,H',J,rv,q⟩:=hs;exact fin J rv q
 |next=>
  obtain⟨cf,H',J,q⟩:=hs;exact fin (v:=V.cD) (u:=Value.none) J rfl q
 |brk=>
  obtain⟨_,_,_,q⟩:=hs;exact False.elim q
 |cont=>
  obtain⟨_,_,_,q⟩:=hs;exact False.elim q
end L2
namespace L2
open PySem PySem.Spec PyProof.Rows
section
variable {X:Cx}{x:Str}{p pos:Pos}{e:Expr}{es:List Expr}{t:TA}{id T:String}{r:List V->Hp->VK->Prop}
def Q7(r:List V->Hp->VK->Prop)(t:TA):TE:=fun σ H Q=>t σ H fun vs H1=>r vs H1 Q
theorem r9(hc:gm X (.builtin id) r)(hg:Gl X x)(hm:X.mg x=none)(hv:bootBuiltins x=some (.builtin id))(ha:PA X (e::es) t)(hn:x≠"__name__":=by decide) (jA:(x==("__debug__":Str))=false:=by decide)
  (he:starEach (e::es) X.env=(false,eval e X.env)::starEach es X.env:=by rfl) (oX:(backTo pos (starEach es X.env)).any (·.1)=false:=by rfl):PE X (.Call (.Name x p) (e::es) [] pos) (Q7 r t):=by
 intro pins s σ H Q I h;refine m8 (oW I hg hm hv ?_ hn jA);exact PyProof.Rows.callWith_builtin1 (eE (ha pos pins s σ H _ I h) fun us s1 ⟨vs,H1,I1,r1,q1⟩=>hc pins s1 σ H1 vs us Q I1 r1 q1) he oX
theorem gQ(hc:gm X (.type T) r)(hg:Gl X x)(hm:X.mg x=none)(hv:bootBuiltins x=some (.type T))(ha:PA X (e::es) t)(hn:x≠"__name__":=by decide) (jA:(x==("__debug__":Str))=false:=by decide)
  (he:starEach (e::es) X.env=(false,eval e X.env)::starEach es X.env:=by rfl) (oX:(backTo pos (starEach es X.env)).any (·.1)=false:=by rfl):PE X (.Call (.Name x p) (e::es) [] pos) (Q7 r t):=by
 intro pins s σ H Q I h;refine m8 (oW I hg hm hv ?_ hn jA);exact qT (eE (ha pos pins s σ H _ I h) fun us s1 ⟨vs,H1,I1,r1,q1⟩=>hc pins s1 σ H1 vs us Q I1 r1 q1) he oX
end
end L2
namespace HT
open PySem PyProof.Rows
def lexLt:List Int->List Int->Bool
 |[],[]=>false
 |[],_::_=>true
 |_::_,[]=>false
 |x::xs,y::ys=>if x=y then lexLt xs ys else decide (x<y)
theorem yR(x y:Int)(xs ys:List Int):lexLt (x::xs) (y::ys)=if x=y then lexLt xs ys else decide (x<y):=rfl
theorem ud:lexLt [] []=false:=rfl
theorem r_(y:Int)(ys:List Int):lexLt [] (y::ys)=true:=rfl
theorem se(x:Int)(xs:List Int):lexLt (x::xs) []=false:=rfl
theorem DC(A:Around)(s:Shared)(a:Int)(t:Tok)(c:Int)(u:Tok):∃e,SeqAt.EqAt A s (.int a t) (.int c u) e/\(e=true↔a=c):=
 ⟨(a==c),SeqAt.EqAt.int_int a t c u,by simp⟩
theorem DD(A:Around)(s:Shared)(a:Int)(t:Tok)(c:Int)(u:Tok)(prog:Program)(w:World)(E:Value->Shared->Prop)(Q:Value->Shared->Prop)(h:Q (.bool (decide (a<c))) s):
  wpAny (model prog w) A (richCompare .Lt (.int a t) (.int c u)) Q E s:=
 (PyProof.Rows.lt_int h:wpAny (model prog w) A (compareOp .Lt (.int a t) (.int c u)) Q E s)
section
open PySem.SeqAt
open PySem.AutoSeq1 (wpAny_loadPart')
open PySem.MeetsSeq PySem.MeetsSeq2 PySem.MeetsSeq3
theorem ue(l b:Addr)(items iL:Array Value)(n n2:Nat)(dd FI:Option Addr)(sl Im:Array (Option Value))(ns ms:List Int)(hi:IntsAre items.toList ns)(hj:IntsAre iL.toList ms):
  Meets (Builtin.«tuple.__lt__» ⟨[.ref l,.ref b],[]⟩)
   (fun _ R s=>s.heap.get? l=some {cls:=.type "tuple",dict:=dd,data:=.seq items n,slots:=sl}/\s.heap.get? b=some {cls:=.type "tuple",dict:=FI,data:=.seq iL n2,slots:=Im}/\
    R (.ok (.ret (.bool (lexLt ns ms)))) s):=
 .of_wp fun prog w A R s h=>by
  obtain⟨hp,g,d,tk,os⟩:=s;obtain⟨hl,hb,h⟩:=h;have f2:=AutoSeq1.sub_tuple_tuple;have z1:items.size=ns.length:=by rw[<-hi.length];simp
  have z2:iL.size=ms.length:=by rw[<-hj.length];simp
  wp_walk using wpAny_loadPart' hl,wpAny_loadPart' hb,fY _ (fun rest b s'=>b.1=none/\s'=⟨hp,g,d,tk,os⟩/\∃(vs ws:List Value) (Ms Mt:List Int),rest=vs.zip ws/\
   IntsAre vs Ms/\IntsAre ws Mt/\Ms.length+iL.size=Mt.length+items.size/\R (.ok (.ret (.bool (lexLt Ms Mt)))) ⟨hp,g,d,tk,os⟩) _
  case turn=>
   rintro ⟨y,x⟩ rest b s' ⟨lK,rfl,vs,ws,Ms,Mt,hz,Sz,Q8,hlen,hR⟩
   cases Sz with
   |nil=>rw[List.zip_nil_left]at hz;cases hz
   |cons a t SA=>
    cases Q8 with
    |nil=>rw[List.zip_nil_right]at hz;cases hz
    |cons c u SD=>
     rw[rh]at hz;injection hz with Wr Nh
     injection Wr with hy hx
     subst hy hx;rw[yR]at hR;simp only[br]at hlen;obtain⟨e,he,Ni⟩:=DC A.in1 ⟨hp,g,d,tk,os⟩ a t c u;refine aa (he prog w _ _ ?_);cases e with
     |true=>
      rw[ab (Ni.mp rfl)]at hR
      wp_walk
      exact⟨rfl,rfl,_,_,_,_,Nh,SA,SD,by omega,hR⟩
     |false=>
      rw[af (fun q=>absurd (Ni.mpr q) cP)]at hR;have Ws:=DD A.in1 ⟨hp,g,d,tk,os⟩ a t c u prog w
      wp_walk using Ws
      exact⟨_,rfl,by simpa using hR⟩
  case fin=>
   rintro ⟨b1,b2⟩ s' ⟨lK,rfl,vs,ws,Ms,Mt,hz,Sz,Q8,hlen,hR⟩
   simp only at lK;subst lK;have hv:lexLt Ms Mt=decide (items.size<iL.size):=by
    cases Sz with
    |nil=>
     cases Q8 with
     |nil=>
      simp only[eO]at hlen;rw[ud];exact(bg (by omega)).symm
     |cons c u hw=>
      simp only[eO,br]at hlen;rw[r_];exact(bF (by omega)).symm
    |cons a t hv=>
     cases Q8 with
     |nil=>
      simp only[eO,br]at hlen;rw[se];exact(bg (by omega)).symm
     |cons c u hw=>
      rw[rh]at hz;cases hz
   rw[hv]at hR
   wp_walk
   exact⟨_,rfl,by simpa[Builtin.Tuple.tupleCompareSizes]using hR⟩
  case h=>
   exact⟨rfl,rfl,items.toList,iL.toList,ns,ms,rfl,hi,hj,by omega,h⟩
end
section
variable {prog:Program}{w:World}{A:Around}{E:Value->Shared->Prop}{s:Shared}
theorem sf{l b:Addr}{items iL:Array Value}{ns ms:List Int}{Q:Value->Shared->Prop}(hl:IsTup s.heap l items)(hb:IsTup s.heap b iL)(hi:IntsAre items.toList ns)(hj:IntsAre iL.toList ms)
  (hu:A.units<cLine) (h:Q (.bool (lexLt ns ms)) s):wpAny (model prog w) A (compareOp .Lt (.ref l) (.ref b)) Q E s:=by
 obtain⟨⟨cls,dd,data,sl⟩,ho,hc,n,hd⟩:=id hl;obtain⟨⟨SE,FI,data2,Im⟩,JR,Nj,n2,hd2⟩:=id hb;simp only at hc hd Nj hd2;subst hc hd Nj hd2;exact richCompare_meets_room (op:=.Lt) ⟨_,ho,rfl⟩ ⟨_,JR,rfl⟩ PySem.F.slot_tuple_lt PySem.F.entry_tuple_lt (PySem.F.args_tuple_lt_2 _ _) (ue l b items iL n n2 dd FI sl Im ns ms hi hj)
  ⟨ho,JR,show Value.bool (lexLt ns ms)≠Value.notImplemented/\Q (.bool (lexLt ns ms)) s from⟨(fun x=>nomatch x),h⟩⟩ hu
theorem Ga{t b:Addr}{vs ws:List Value}{Q:Value->Shared->Prop}(ht:IsTup s.heap t vs.toArray)(hb:IsTup s.heap b ws.toArray)(hv:vs≠[])
  (h1:ws=[]->Q (.ref t) s) (h2:ws≠[]->Q (.ref s.heap.objs.size) {s with heap:=s.heap.push {cls:=.type "tuple",data:=.seq (vs++ws).toArray}})
  (hsz:vs.length+ws.length<=sizeLine):wpAny (model prog w) A (binaryOp .Add (.ref t) (.ref b)) Q E s:=by
 obtain⟨⟨cls,dd,data,sl⟩,ho,hc,n,hd⟩:=id ht;obtain⟨⟨SE,FI,data2,Im⟩,JR,Nj,n2,hd2⟩:=id hb;simp only at hc hd Nj hd2;subst hc hd Nj hd2;have e:vs.toArray++ws.toArray=(vs++ws).toArray:=by simp
 by_cases hw:ws=[]
 ·exact concat_meets ⟨_,ho,rfl⟩ ⟨_,JR,rfl⟩ noFill_tuple_add seq_tuple_add qZ qY (qX _ _)
   (tuple_addW1 t b vs.toArray ws.toArray n n2 dd FI sl Im (by simpa using hv) (by simp[hw])) ⟨ho,JR,h1 hw⟩
 ·refine concat_meets ⟨_,ho,rfl⟩ ⟨_,JR,rfl⟩ noFill_tuple_add seq_tuple_add qZ qY (qX _ _)
   (tuple_addW2 t b vs.toArray ws.toArray n n2 dd FI sl Im (by simpa using hv) (by simpa using hw) (by rw[bf,bf];exact hsz)) ⟨ho,JR,?_⟩
  rw[e];exact h2 hw
end
end HT
namespace L2
open PySem PySem.Spec PyProof.Rows
section
variable {X:Cx}{e:Expr}{te:TE}{lo hi:Option Expr}{tl th:TO}{pos p2:Pos}
def Nk(K:PySem.W.Frag):R2:=fun x y H Q=>∃a b xs ys,x=.ref a/\y=.ref b/\ir K H a xs/\ir K H b ys/\xs≠[]/\xs.length+ys.length<=sizeLine/\
 (ys=[]->Q (.ref a) H)/\(ys≠[]->∀p,H p=none->Q (.ref p) (upd H p (.tup (xs++ys))))
theorem Vals.vz {xs:List V}{us:List Value}(r:Vals xs us):us=[]↔xs=[]:=by
 cases r with
 |nil=>simp
 |cons _ _=>simp
theorem Gb:t4 X (binaryOp .Add) (Nk X.K):=by
 intro pins s σ H x y v u Q I rx ry h;obtain⟨a,b,xs,ys,rfl,rfl,ha,hb,hx,hz,q1,q2⟩:=h;cases rx;cases ry;obtain⟨aZ,r1,p1,_⟩:=I.tuple ha;obtain⟨wY,r2,p2,_⟩:=I.tuple hb;refine HT.Ga p1 p2 (fun z=>hx (r1.vz.mp z)) (fun z=>⟨.ref a,H,I,rfl,q1 (r2.vz.mp z)⟩) (fun z=>?_) (by rw[<-r1.length,<-r2.length];exact hz);refine⟨.ref s.heap.objs.size,_,I.laid (t':=s.toks) (o:=.tup (xs++ys)) (fun b ob q=>aC _ q) (ak _) ?_,rfl,q2 (fun w=>z (r2.vz.mpr w)) _ (I.cp.fresh (ak _))⟩;exact⟨by rw[aY];exact hz,_,r1.append r2,l_.new _ _⟩
end
end L2
namespace L2
open PySem PySem.Spec PyProof.Rows
def Io(n:Nat)(i:Int):Option Nat:=if 0<=i then(if i<n then some i.toNat else none)else if-(n:Int)<=i then some (i+n).toNat else none
def t6{α:Type}(xs:List α)(i:Int):Option α:=(Io xs.length i).bind fun j=>xs[j]?
theorem Gd{n:Nat}{i:Int}{j:Nat}(h:Io n i=some j):seqIndex? i n=some j/\j<n/\-(n:Int)<=i/\i<n:=by
 unfold Io at h;by_cases h0:0<=i
 ·rw[ab h0]at h;by_cases h1:i<n
  ·rw[ab h1]at h;have e:i.toNat=j:=Option.some.inj h;exact⟨by rw[seqIndex_of h0 h1,e],by omega,by omega,h1⟩
  ·rw[af h1]at h;cases h
 ·rw[af h0]at h;by_cases h1:-(n:Int)<=i
  ·rw[ab h1]at h;have e:(i+n).toNat=j:=Option.some.inj h;exact⟨by rw[seqIndex_neg (by omega) h1,e],by omega,h1,by omega⟩
  ·rw[af h1]at h;cases h
theorem vA{α:Type}{xs:List α}{i:Int}{v:α}(h:t6 xs i=some v):∃j,seqIndex? i xs.length=some j/\xs[j]?=some v/\j<xs.length/\-(xs.length:Int)<=i/\i<xs.length:=by
 unfold t6 at h;cases e:Io xs.length i with
 |none=>rw[e]at h;cases h
 |some j=>
  rw[e]at h;obtain⟨h1,h2,h3,h4⟩:=Gd e;exact⟨j,h1,h,h2,h3,h4⟩
theorem Ge{α:Type}{xs:List α}{j:Nat}{v:α}(h:xs[j]?=some v):t6 xs (j:Int)=some v:=by
 have hj:j<xs.length:=(b_.mp h).1;have e:Io xs.length (j:Int)=some j:=by
  unfold Io;rw[ab (by omega),ab (by omega)];simp
 unfold t6;rw[e];exact h
def qF(b:Expr):Prop:=∀o i,subscripted b false o i=operate [o,i] (getItem o i)
def Mu(X:Cx)(r:R2):Prop:=
 ∀(value slice:Expr) (pins:List (Addr×Obj)) (s:Shared) (σ:St) (H:Hp) (x y:V) (v u:Value) (Q:VK),Inv X pins σ H s->RelV x v->RelV y u->r x y H Q->
  subscripted slice false v u=operate [v,u] (getItem v u)->wpAny (model X.prog X.w) X.A (subscriptTail value slice v u) (EP X pins σ Q) X.xe s
def Wt(X:Cx)(id:String)(r:V->List V->Hp->VK->Prop):Prop:=
 ∀(pins:List (Addr×Obj)) (s:Shared) (σ:St) (H:Hp) (x:V) (xs:List V) (v:Value) (us:List Value) (Q:VK),Inv X pins σ H s->RelV x v->Vals xs us->r x xs H Q->
  wpAny (model X.prog X.w) X.A (call (.builtin id) (v::us)) (EP X pins σ Q) X.xe s
section
variable {X:Cx}{a b:Expr}{ta tb:TE}{pos:Pos}
theorem Ip{r:R2}(hr:Mu X r)(ha:PE X a ta)(hb:PE X b tb)(hs:qF b):PE X (.Subscript a b pos) (Mp r ta tb):=by
 intro pins s σ H Q I h;exact Subscript_ (JF ha hb I h fun v u s2 x y H2 I2 rx ry q=>hr a b pins s2 σ H2 x y v u Q I2 rx ry q (hs _ _))
def SF(K:PySem.W.Frag):R2:=fun x y H Q=>∃p xs i v,x=.ref p/\y=.int i/\iS K H p xs/\t6 xs i=some v/\Q v H
def SG(K:PySem.W.Frag):R2:=fun x y H Q=>∃p xs i v,x=.ref p/\y=.int i/\ir K H p xs/\t6 xs i=some v/\Q v H
def SH:R2:=fun x y H Q=>∃z i c,x=.str z/\y=.int i/\z.length<=sizeLine/\t6 z.cps.toList i=some c/\Q (.str ⟨#[c]⟩) H
theorem z9:Mu X (SF X.K):=by
 intro value slice pins s σ H x y v u Q I rx ry h hs;obtain⟨p,xs,i,z,rfl,rfl,hq,he,q⟩:=h;cases rx;obtain⟨t,rfl⟩:=ry;obtain⟨aZ,r,pl,hz⟩:=I.list hq;obtain⟨j,h1,h2,h3,h4,h5⟩:=vA he;obtain⟨w,ew,md⟩:=r.get h2;have hl:=r.length;have hn:=r8;have fin:EP X pins σ Q w s:=⟨z,H,I,md,q⟩;by_cases h0:0<=i
 ·have hj:i.toNat=j:=by
   rw[seqIndex_of h0 h5]at h1;exact Option.some.inj h1
  exact item_listR pl.isList h0 (by omega) (by rw[hj];simpa using ew) fin hs
 ·have hj:(i+(aZ.toArray.size:Int)).toNat=j:=by
   rw[seqIndex_neg (by omega) h4]at h1;rw[bf,<-hl];exact Option.some.inj h1
  exact subscriptTail_builtinR (x:=w) pl.isList.typeIs slot_list_getitem.lookup
   (wpAny_getItem_list_neg (Q:=fun r s'=>r=w/\EP X pins σ Q r s') pl.isList (by omega) (by rw[bf]<;>omega) (by omega) (by rw[hj];simpa using ew) ⟨rfl,fin⟩) hs
theorem JS:Mu X (SG X.K):=by
 intro value slice pins s σ H x y v u Q I rx ry h hs;obtain⟨p,xs,i,z,rfl,rfl,hq,he,q⟩:=h;cases rx;obtain⟨t,rfl⟩:=ry;obtain⟨aZ,r,pl,hz⟩:=I.tuple hq;obtain⟨j,h1,h2,h3,h4,h5⟩:=vA he;obtain⟨w,ew,md⟩:=r.get h2;have hl:=r.length;have hn:=r8;have fin:EP X pins σ Q w s:=⟨z,H,I,md,q⟩;exact subscriptTail_builtinR (x:=w) pl.typeIs slot_tuple_getitem.lookup
  (getItem_tuple (j:=j) (Q:=fun r s'=>r=w/\EP X pins σ Q r s') pl (by omega) (by omega) (by rw[bf,<-hl];exact h1) (by simpa using ew) ⟨rfl,fin⟩) hs
theorem JT:Mu X SH:=by
 intro value slice pins s σ H x y v u Q I rx ry h hs;obtain⟨z,i,c,rfl,rfl,hz,he,q⟩:=h;obtain⟨t,rfl⟩:=rx;obtain⟨t',rfl⟩:=ry;obtain⟨j,h1,h2,h3,h4,h5⟩:=vA he;have hl:z.cps.toList.length=z.length:=by simp[Str.length]
 rw[hl]at h1 h4 h5;have hn:=r8;exact tail_any (typeIs_str s z t) slot_str_getitem.lookup (getItem_str (c:=c) (by
  have e1:decide (i< -(2 ^63:Int))=false:=bg (by omega);have e2:decide (i>=2 ^63)=false:=bg (by omega);rw[e1,e2,nv]) (by rw[h1];simpa using h2) ⟨.str ⟨#[c]⟩,H,I.tok _,⟨_,rfl⟩,q⟩) hs
theorem Inv.lst {pins:List (Addr×Obj)}{σ:St}{H:Hp}{s:Shared}{p:Addr}{xs:List V}(I:Inv X pins σ H s)(h:H p=some (.lst xs)):
  ∃(aZ:List Value) (n:Nat),Vals xs aZ/\s.heap.get? p=some {cls:=.type "list",data:=.seq aZ.toArray n}/\xs.length<=sizeLine:=by
 obtain⟨z,aZ,n,r,e⟩:=I.cp p _ h;exact⟨aZ,n,r,e,z⟩
def Iq:V->Bool
 |.cD=>true
 |.bl _=>true
 |.int _=>true
 |.str _=>true
 |_=>false
theorem nV:gm X (.type "list") (fun xs H Q=>∃p ys,xs=[.ref p]/\(iS X.K H p ys\/ir X.K H p ys)/\∀l,H l=none->Q (.ref l) (upd H l (.lst ys))):=by
 intro pins s σ H xs us Q I r h;obtain⟨p,ys,rfl,hq,q⟩:=h;obtain⟨u,rfl,rx⟩:=vals1 r;cases rx;have fin:∀(aZ:List Value),Vals ys aZ->ys.length<=sizeLine->∀(h':Heap) (c':Nat),(∀b o',s.heap.get? b=some o'->h'.get? b=some o')->
   h'.get? s.heap.objs.size=some {cls:=.type "list",dict:=none,data:=.seq aZ.toArray c',slots:=#[]}->EP X pins σ Q (.ref s.heap.objs.size) {s with heap:=h'}:=fun aZ r' hz h' c' kp e=>
  ⟨.ref s.heap.objs.size,_,I.laid (t':=s.toks) kp (ak _) (show bQ X.prog X.w _ h' _ (.lst ys)from⟨hz,aZ,c',r',e⟩),rfl,q _ (I.cp.fresh (ak _))⟩
 rcases hq with hq|hq
 ·obtain⟨aZ,r',pl,hz⟩:=I.list hq;have hlen:=r'.length;obtain⟨o,ho,hc,n,hd⟩:=pl.isList;exact call_list_seq p (.inl rfl) ho hc hd (fun h' c' kp e=>fin aZ r' hz h' c' kp e) (by simp only[bf]<;>omega)
 ·obtain⟨aZ,r',pl,hz⟩:=I.tuple hq;have hlen:=r'.length;obtain⟨o,ho,hc,n,hd⟩:=pl;exact call_list_seq p (.inr rfl) ho hc hd (fun h' c' kp e=>fin aZ r' hz h' c' kp e) (by simp only[bf]<;>omega)
theorem l4:gm X (.type "tuple") (fun xs H Q=>∃p ys,xs=[.ref p]/\((iS X.K H p ys/\∀l,H l=none->Q (.ref l) (upd H l (.tup ys)))\/(ir X.K H p ys/\Q (.ref p) H))):=by
 intro pins s σ H xs us Q I r h;obtain⟨p,ys,rfl,h⟩:=h;obtain⟨u,rfl,rx⟩:=vals1 r;cases rx;rcases h with⟨hq,q⟩|⟨hq,q⟩
 ·obtain⟨aZ,r',pl,hz⟩:=I.list hq;have hlen:=r'.length;refine call_tuple_list pl.isList (fun h' kp=>?_) (by simp only[bf]<;>omega);have I1:Inv X pins σ H {s with heap:=h'}:=I.kept (t':=s.toks) kp;have I2:Inv X pins σ (upd H h'.objs.size (.tup ys)) {s with heap:=h'.push {cls:=.type "tuple",data:=.seq aZ.toArray}}:=
   I1.laid (t':=s.toks) (fun b o e=>aC _ e) (ak _) (show bQ X.prog X.w _ _ _ (.tup ys)from⟨hz,aZ,r',l_.new _ _⟩)
  exact⟨.ref h'.objs.size,_,I2,rfl,q _ (I1.cp.fresh (ak _))⟩
 ·obtain⟨aZ,r',pl,hz⟩:=I.tuple hq;exact call_tuple_same pl ⟨.ref p,H,I,rfl,q⟩
def Vp(K:PySem.W.Frag)(T:String)(x:V)(H:Hp):Prop:=match x with
 |.str _=>T="str"
 |.int _=>T="int"
 |.ref p=>(T="list"/\∃xs,iS K H p xs)\/(T="tuple"/\∃o,K.lookup p=some o/\o.cls=.type "tuple"/\o.dict=none)\/
   (T="dict"/\((∃aw,H p=some (.dK aw))\/∃aw,H p=some (.dT aw)))\/(T="set"/\∃S n,H p=some (.set S n))
 |_=>False
theorem JU{pins:List (Addr×Obj)}{σ:St}{H:Hp}{s:Shared}{T:String}{x:V}{v:Value}(I:Inv X pins σ H s)(r:RelV x v)(ty:Vp X.K T x H):
  s.TypeIs v T/\∀a,v=.ref a->∃ob,s.heap.get? a=some ob/\ob.dict=none:=by
 cases x with
 |str z=>
  obtain⟨t,rfl⟩:=r;cases(show T="str"from ty);exact⟨typeIs_str s z t,fun _ e=>nomatch e⟩
 |int i=>
  obtain⟨t,rfl⟩:=r;cases(show T="int"from ty);exact⟨typeIs_int s i t,fun _ e=>nomatch e⟩
 |ref p=>
  cases r;rcases ty with⟨rfl,xs,hq⟩|⟨rfl,o,hk,hc,hd⟩|⟨rfl,hk⟩|⟨rfl,S,n,hk⟩
  ·obtain⟨aZ,_,pl,_⟩:=I.list hq;refine⟨pl.isList.typeIs,fun a e=>?_⟩;cases e;obtain⟨o,n,e,c,hd,_⟩:=pl;exact⟨o,e,hd⟩
  ·refine⟨⟨o,I.qe p o hk,hc⟩,fun a e=>?_⟩;cases e;exact⟨o,I.qe _ o hk,hd⟩
  ·have z:∃o,s.heap.get? p=some o/\o.ExactDict:=by
    rcases hk with⟨aw,hk⟩|⟨aw,hk⟩
    ·obtain⟨_,_,_,_,o,_,_,e,ex,_⟩:=I.cp p _ hk;exact⟨o,e,ex⟩
    ·obtain⟨_,_,_,_,o,_,_,e,ex,_⟩:=I.cp p _ hk;exact⟨o,e,ex⟩
   obtain⟨o,e,ex⟩:=z;refine⟨⟨o,e,ex.1⟩,fun a e2=>?_⟩;cases e2;exact⟨o,e,ex.2.1⟩
  ·obtain⟨o,_,_,_,e,ex,_⟩:=I.cp p _ hk;refine⟨⟨o,e,ex.1⟩,fun a e2=>?_⟩;cases e2;exact⟨o,e,ex.2.1⟩
 |_=>exact False.elim ty
def Wu(K:PySem.W.Frag)(T:String)(r:V->List V->Hp->VK->Prop)(to:TE)(t:TA):TE:=fun σ H Q=>to σ H fun x H1=>Vp K T x H1/\t σ H1 fun xs H2=>r x xs H2 Q
variable {o e:Expr}{es:List Expr}{to:TE}{t:TA}{name:Str}{apos jB:Pos}{T id:String}{r:V->List V->Hp->VK->Prop}
theorem Nl(pa:PlainAttrs T)(slot:Slot T name id)(Nm:typeOf (.builtin id)=pure (.type "method_descriptor"))(hm:Wt X id r)(ho:PE X o to)(ha:PA X (e::es) t)
  (wZ:attributeBase o name X.env (eval o X.env)=eval o X.env:=by rfl)
  (SI:((backTo jB (starEach (e::es) X.env)).all (fun x=>!x.1)&&(backToKw jB (keywordEach [] X.env)).all (fun x=>x.1.isSome)
   &&decide ((e::es).length+([]:List Keyword).length+(if([]:List Keyword).isEmpty then 0 else 1)<30))=true:=by rfl)
  (w4:(apos.endLine==jB.line)=true:=by rfl) (hs:starEach (e::es) X.env=(false,eval e X.env)::starEach es X.env:=by rfl) (JV:(backTo jB (starEach es X.env)).any (·.1)=false:=by rfl):
  PE X (.Call (.Attribute o name apos) (e::es) [] jB) (Wu X.K T r to t):=by
 intro pins s σ H Q I h;refine wpAny_Call_method_late wZ SI w4 rfl (eE (ho pins s σ H _ I h) fun v s1 ⟨x,H1,I1,r1,ty,q1⟩=>?_);obtain⟨h1,h2⟩:=JU I1 r1 ty;refine⟨T,id,pa,slot,Nm,h1,h2,?_⟩;have hA:=ha jB pins s1 σ H1 _ I1 q1;rw[hs]at hA⊢;refine Calls.callWith_builtin (by show(false||(backTo jB (starEach es X.env)).any (·.1))=false;rw[JV]<;>rfl) (Calls.evalArgs_plain ?_);exact eE hA fun us s2 ⟨vs,H2,I2,r2,q2⟩=>hm pins s2 σ H2 x vs v us Q I2 r1 r2 q2
end
end L2
namespace L2
open PySem PySem.Spec PyProof.Rows
def Q9(X:Cx)(id:String)(r:V->List V->Hp->VK->Prop):Prop:=
 ∀(pins:List (Addr×Obj)) (s:Shared) (σ:St) (H:Hp) (x:V) (xs:List V) (v:Value) (us:List Value) (Q:VK),Inv X pins σ H s->RelV x v->Vals xs us->r x xs H Q->
  wpAny (model X.prog X.w) X.A (call (.builtin id) (v::us)) (EP X pins σ Q) X.xe s
theorem Vals.one:∀{x:V} {us:List Value},Vals [x] us->∃u,us=[u]/\RelV x u
 |_,_,.cons r .nil=>⟨_,rfl,r⟩
theorem Vals.eraseIdx:∀{xs:List V} {us:List Value} (i:Nat),Vals xs us->Vals (xs.eraseIdx i) (us.eraseIdx i)
 |_,_,_,.nil=>.nil
 |_,_,0,.cons _ t=>t
 |_,_,i+1,.cons r t=>.cons r (Vals.eraseIdx i t)
theorem Vals.rep {xs:List V}{us:List Value}(h:Vals xs us):∀k:Nat,Vals (List.replicate k xs).flatten (List.replicate k us).flatten
 |0=>.nil
 |k+1=>by
  rw[gV,gV,iX,iX];exact Vals.append h (Vals.rep h k)
theorem uC{α:Type}:∀(l:List α) (i:Nat),(l.eraseIdx i).length<=l.length
 |[],_=>ak _
 |_::_,0=>hZ _
 |_::r,i+1=>Nat.succ_le_succ (uC r i)
theorem foldl_rep(aZ:List Value):∀(k:Nat) (acc:List Value),
  List.foldl (fun x1 x2=>x1++x2) acc.toArray (List.replicate k aZ.toArray)=(acc++(List.replicate k aZ).flatten).toArray
 |0,acc=>by simp
 |k+1,acc=>by
  have e:acc.toArray++aZ.toArray=(acc++aZ).toArray:=by simp
  have e2:(acc++aZ)++(List.replicate k aZ).flatten=acc++(List.replicate (k+1) aZ).flatten:=by
   rw[gV,iX,fV]
  rw[<-e2,<-foldl_rep aZ k (acc++aZ),<-e,gV,gb]
section
variable {X:Cx}{pins:List (Addr×Obj)}{σ:St}{H:Hp}{s:Shared}{l b:Addr}{xs ys zs:List V}
theorem Inv.Nn {aZ vx:List Value}{n:Nat}{f:Array Value->Array Value}{t':Nat}(I:Inv X pins σ H s)(hH:H l=some (.lst xs))
  (e:s.heap.get? l=some {cls:=.type "list",data:=.seq aZ.toArray n}) (hf:f aZ.toArray=vx.toArray) (hv:Vals ys vx) (hz:ys.length<=sizeLine):
  Inv X pins σ (upd H l (.lst ys)) {s with heap:=s.heap.update l (Obj.mapSeq f),toks:=t'}:=by
 have q:=PySem.IsL.update e f;rw[hf]at q;refine I.write (x:=l) (e:=l) (by rw[hH];exact trivial) (.inl rfl) (fun b' u hb hu=>(j8 s.heap (Obj.mapSeq f) (cv hb)).trans hu) ⟨_,q⟩ ?_
 exact⟨hz,vx,_,hv,q⟩
theorem Inv.JW {aZ:List Value}{t':Nat}(I:Inv X pins σ H s)(hv:Vals ys aZ)(hz:ys.length<=sizeLine):
  Inv X pins σ (upd H s.heap.objs.size (.lst ys)) {s with heap:=s.heap.push {cls:=.type "list",data:=.seq aZ.toArray},toks:=t'}:=
 I.laid (fun _ _ q=>aC _ q) (ak _) ⟨hz,aZ,0,hv,aU _ rfl⟩
theorem Inv.fresh (I:Inv X pins σ H s):H s.heap.objs.size=none:=I.cp.fresh (ak _)
theorem Inv.DE (I:Inv X pins σ H s)(hH:H l=some (.lst xs)):xs.length<=sizeLine/\∃(aZ:List Value) (n:Nat),Vals xs aZ/\xs.length=aZ.length/\s.heap.get? l=some {cls:=.type "list",data:=.seq aZ.toArray n}:=by
 obtain⟨z,aZ,n,r,e⟩:=I.cp l _ hH;exact⟨z,aZ,n,r,r.length,e⟩
theorem DF{n:Nat}(h:n<=sizeLine):Builtin.List.listTooLong n=false:=by
 unfold Builtin.List.listTooLong;exact bg (by omega)
end
section
variable {X:Cx}
def z_:V->List V->Hp->VK->Prop:=fun x vs H Q=>∃l xs y,x=.ref l/\vs=[y]/\H l=some (.lst xs)/\xs.length<sizeLine/\Q .cD (upd H l (.lst (xs++[y])))
theorem eX:Q9 X "list.append" z_:=by
 intro pins s σ H x vs v us Q I rx rv h;obtain⟨l,xs,y,rfl,rfl,hH,hz,q⟩:=h;cases rx;obtain⟨u,rfl,ru⟩:=rv.one;obtain⟨z,aZ,n,r,hl,e⟩:=I.DE hH;refine jd iy ⟨_,e,rfl⟩ F.entry_list_append (F.args_list_append_2 _ _) (PySem.list_append l aZ.toArray n u (by rw[bf];omega)) ⟨e,?_⟩;refine⟨.cD,_,I.Nn (vx:=aZ++[u]) hH e (by simp) (r.append (.cons ru .nil)) ?_,rfl,q⟩;rw[aY,fS];omega
def DG:V->List V->Hp->VK->Prop:=fun x vs H Q=>∃l xs i k y,x=.ref l/\vs=[.int i]/\H l=some (.lst xs)/\-(2 ^63)<=i/\i<2 ^63/\seqIndex? i xs.length=some k/\xs[k]?=some y/\Q y (upd H l (.lst (xs.eraseIdx k)))
theorem DH:Q9 X "list.pop" DG:=by
 intro pins s σ H x vs v us Q I rx rv h;obtain⟨l,xs,i,k,y,rfl,rfl,hH,h1,h2,hk,hy,q⟩:=h;cases rx;obtain⟨u,rfl,ru⟩:=rv.one;obtain⟨t,rfl⟩:=ru;obtain⟨z,aZ,n,r,hl,e⟩:=I.DE hH;obtain⟨w,hw,md⟩:=r.get hy;refine jd F.slot_list_pop ⟨_,e,rfl⟩ F.entry_list_pop (F.args_list_pop_2 _ _)
  (MeetsSeq.list_pop_at l aZ.toArray n i t k w (fitsIndex_both h1 h2) (by rw[bf,<-hl];exact hk) (by rw[<-cu];exact hw) (by rw[bf];omega)) ⟨e,?_⟩
 refine⟨y,_,I.Nn (vx:=aZ.eraseIdx k) hH e ?_ (r.eraseIdx k) ?_,md,q⟩
 ·show aZ.toArray.eraseIdxIfInBounds k=(aZ.eraseIdx k).toArray;rw[List.eraseIdxIfInBounds_toArray]
 ·have:=uC xs k;omega
def SJ:R2:=fun x y H Q=>∃l b xs zs,x=.ref l/\y=.ref b/\H l=some (.lst xs)/\H b=some (.lst zs)/\xs.length+zs.length<=sizeLine/\∀p,H p=none->Q (.ref p) (upd H p (.lst (xs++zs)))
theorem JX:t4 X (binaryOp .Add) SJ:=by
 intro pins s σ H x y v u Q I rx ry h;obtain⟨l,b,xs,zs,rfl,rfl,hH,hB,hz,q⟩:=h;cases rx;cases ry;obtain⟨z,aZ,n,r,hl,e⟩:=I.DE hH;obtain⟨z2,wY,n2,r2,C9,e2⟩:=I.DE hB;refine PySem.P.add_list e e2 ?_ (by rw[bf,bf];omega)
 have ea:aZ.toArray++wY.toArray=(aZ++wY).toArray:=by simp
 rw[ea];exact⟨.ref _,_,I.JW (t':=s.toks) (r.append r2) (by rw[aY];omega),rfl,q _ I.fresh⟩
def SK:R2:=fun x y H Q=>∃l k xs,x=.ref l/\y=.int k/\H l=some (.lst xs)/\-(2 ^63)<=k/\k<2 ^63/\xs.length*k.toNat<=sizeLine/\
 ∀p,H p=none->Q (.ref p) (upd H p (.lst (List.replicate k.toNat xs).flatten))
theorem len_rep{α:Type}(xs:List α)(k:Nat):(List.replicate k xs).flatten.length=k*xs.length:=by
 induction k with
 |zero=>simp
 |succ k ih=>rw[gV,iX,aY,ih,Nat.succ_mul,Nat.add_comm]
theorem JY:t4 X (binaryOp .Mult) SK:=by
 intro pins s σ H x y v u Q I rx ry h;obtain⟨l,k,xs,rfl,rfl,hH,h1,h2,hz,q⟩:=h;cases rx;obtain⟨t,rfl⟩:=ry;obtain⟨z,aZ,n,r,hl,e⟩:=I.DE hH;have hlen:aZ.toArray.size*k.toNat<=sizeLine:=by rw[bf,<-hl];exact hz
 have SM:¬aZ.toArray.size*k.toNat>(2 ^63 - 1)/8:=by
  have:(sizeLine:Nat)<=(2 ^63 - 1)/8:=by decide
  omega
 have SN:¬(!Builtin.List.listFitsIndex k)=true:=by
  rw[fitsIndex_both h1 h2];exact cP
 have Np:¬Builtin.List.listTooLong (aZ.toArray.size*k.toNat)=true:=by
  rw[DF hlen];exact cP
 have Gf:List.foldl (fun x1 x2=>x1++x2) #[] (List.replicate (if aZ.toArray.isEmpty=true then 0 else k.toNat) aZ.toArray)=(List.replicate k.toNat aZ).flatten.toArray:=by
  have f0:∀m:Nat,List.foldl (fun x1 x2=>x1++x2) #[] (List.replicate m aZ.toArray)=(List.replicate m aZ).flatten.toArray:=fun m=>by
   have:=foldl_rep aZ m [];rw[kh]at this;exact this
  rw[f0];cases aZ with
  |nil=>simp
  |cons a r'=>rw[af (by simp)]
 refine wpAny_binaryOp_repeat_ref (T:="list") (U:="int") (by decide) ⟨_,e,rfl⟩ (fun s'=>typeIs_int s' k t) noFill_list_mul F.fills_int_mul F.slot_int_rmul repeat_list F.slot_int_index.lookup
  (jd F.slot_int_rmul (typeIs_int s k t) F.entry_int_rmul (F.args_int_rmul_2 _ _) (int___rmul___int_list k t l aZ.toArray n)
   ⟨e,rfl,⟨_,e,rfl⟩,jd F.slot_list_mul ⟨_,e,rfl⟩ F.entry_list_mul (F.args_list_mul_2 _ _) (AutoListH.list___mul___list_int_3 l aZ.toArray n k t SN SM Np) ⟨e,?_⟩⟩)
 rw[Gf];exact⟨.ref _,_,I.JW (t':=s.toks) (r.rep k.toNat) (by rw[len_rep,Nat.mul_comm];exact hz),rfl,q _ I.fresh⟩
end
end L2
namespace L2
open PySem PySem.Spec PyProof.Rows
section
variable {κ:Type}[DecidableEq κ]
def lU(aw:List (κ×V))(k:κ):Option V:=(aw.find? fun kv=>decide (kv.1=k)).map (·.2)
def putK(aw:List (κ×V))(k:κ)(v:V):List (κ×V):=
 if(aw.any fun kv=>decide (kv.1=k))=true then aw.map (fun kv=>if kv.1=k then(kv.1,v)else kv)else aw++[(k,v)]
def Ir(aw:List (κ×V))(k:κ):List (κ×V):=aw.filter fun kv=>decide (kv.1≠k)
theorem kH{p:κ×V}{r:List (κ×V)}{k:κ}(e:p.1=k):lU (p::r) k=some p.2:=by simp[lU,dY,e]
theorem kI{p:κ×V}{r:List (κ×V)}{k:κ}(e:¬p.1=k):lU (p::r) k=lU r k:=by simp[lU,dY,e]
theorem w6(k:κ):∀aw:List (κ×V),(aw.any fun kv=>decide (kv.1=k))=(lU aw k).isSome
 |[]=>rfl
 |p::r=>by
  rw[g_];by_cases e:p.1=k
  ·simp only[kH e,bF e,nF,Option.isSome_some]
  ·rw[kI e,bg e,ny];exact w6 k r
theorem kJ(aw:List (κ×V))(k:κ)(v:V):(putK aw k v).length<=aw.length+1:=by
 unfold putK;split
 ·rw[ah];omega
 ·rw[aY,br,eO];omega
theorem oV.oY {o:Option V}{u:Option Value}(r:oV o u):o.isSome=u.isSome:=by
 cases o with
 |none=>cases u with
  |none=>rfl
  |some _=>exact(show False from r).elim
 |some _=>cases u with
  |none=>exact(show False from r).elim
  |some _=>rfl
theorem oV.getD {o:Option V}{u:Option Value}{d:V}{d':Value}(r:oV o u)(rd:RelV d d'):RelV (o.getD d) (u.getD d'):=by
 cases o with
 |none=>cases u with
  |none=>exact rd
  |some _=>exact(show False from r).elim
 |some _=>cases u with
  |none=>exact(show False from r).elim
  |some _=>exact r
theorem KV.val {aw:List (κ×V)}{vs:List (κ×Value)}(r:KV aw vs)(k:κ):oV (lU aw k) (valueAt vs k):=by
 unfold KV at r
 induction r with
 |nil=>exact True.intro
 |@cons p q ps qs h t ih=>
  obtain⟨h1,h2⟩:=h;by_cases e:p.1=k
  ·have e':q.1=k:=h1.symm.trans e;have b:valueAt (q::qs) k=some q.2:=by simp[valueAt,dY,e']
   rw[kH e,b];exact h2
  ·have e':¬q.1=k:=fun z=>e (h1.trans z);have b:valueAt (q::qs) k=valueAt qs k:=by simp[valueAt,dY,e']
   rw[kI e,b];exact ih
theorem KV.any {aw:List (κ×V)}{vs:List (κ×Value)}(r:KV aw vs)(k:κ):(aw.any fun kv=>decide (kv.1=k))=vs.any fun kv=>decide (kv.1=k):=by
 unfold KV at r
 induction r with
 |nil=>rfl
 |cons h t ih=>rw[g_,g_,ih,h.1]
theorem KV.JZ {aw:List (κ×V)}{vs:List (κ×Value)}(r:KV aw vs)(k:κ){y:V}{u:Value}(ry:RelV y u):
  KV (aw.map fun kv=>if kv.1=k then(kv.1,y)else kv) (vs.map fun kv=>if kv.1=k then(kv.1,u)else kv):=by
 unfold KV at r⊢
 induction r with
 |nil=>exact .nil
 |@cons p q ps qs h t ih=>
  rw[aA,aA];refine .cons ?_ ih
  obtain⟨h1,h2⟩:=h;by_cases e:p.1=k
  ·rw[ab e,ab (h1.symm.trans e)];exact⟨h1,ry⟩
  ·rw[af e,af (fun z=>e (h1.trans z))];exact⟨h1,h2⟩
theorem KV.put {aw:List (κ×V)}{vs:List (κ×Value)}(r:KV aw vs)(k:κ){y:V}{u:Value}(ry:RelV y u):KV (putK aw k y) (stored vs k u):=by
 unfold putK stored;rw[r.any k];by_cases e:(vs.any fun kv=>decide (kv.1=k))=true
 ·rw[ab e,ab e];exact r.JZ k ry
 ·rw[af e,af e];exact Paired.snoc r ⟨rfl,ry⟩
theorem KV.drop {aw:List (κ×V)}{vs:List (κ×Value)}(r:KV aw vs)(k:κ):KV (Ir aw k) (without vs k):=by
 unfold KV at r⊢;unfold Ir without
 induction r with
 |nil=>exact .nil
 |@cons p q ps qs h t ih=>
  obtain⟨h1,h2⟩:=h;rw[fm,fm];by_cases e:p.1=k
  ·have a:¬decide (p.1≠k)=true:=by simp[e]
   have b:¬decide (q.1≠k)=true:=by simp[h1.symm.trans e]
   rw[af a,af b];exact ih
  ·have e':¬q.1=k:=fun z=>e (h1.trans z);have a:decide (p.1≠k)=true:=by simp[e]
   have b:decide (q.1≠k)=true:=by simp[e']
   rw[ab a,ab b];exact .cons ⟨h1,h2⟩ ih
theorem KV.keys {aw:List (κ×V)}{vs:List (κ×Value)}(r:KV aw vs):aw.map (·.1)=vs.map (·.1):=by
 unfold KV at r
 induction r with
 |nil=>rfl
 |cons h t ih=>rw[aA,aA,ih,h.1]
theorem KV.length {aw:List (κ×V)}{vs:List (κ×Value)}(r:KV aw vs):aw.length=vs.length:=Paired.length r
end
theorem Aa{P:Program}{w:World}{k:Key}{u:Value}(r:RelV (kV k) u):(ay P w).is k u=true:=by
 cases k with
 |inl i=>obtain⟨t,e⟩:=(show∃t,u=Value.int i t from r);subst e;exact wN P w i t
 |inr x=>obtain⟨t,e⟩:=(show∃t,u=Value.str x t from r);subst e;exact wO P w x t
theorem uD{P:Program}{w:World}:∀{ks:List Key} {us:List Value},Vals (ks.map kV) us->ItemsAre (ay P w) ks us
 |[],_,r=>by rw[nG]at r;cases r;exact .nil
 |k::ks,_,r=>by
  rw[aA]at r;cases r with
  |cons h t=>exact .cons (Aa h) (uD t)
abbrev KT(H:Hp):List (List Key×V)->List (List Key×Addr×Value)->Prop:=Paired fun p q=>p.1=q.1/\H q.2.1=some (.tup (p.1.map kV))/\RelV p.2 q.2.2
theorem KT.val {H:Hp}{aw:List (List Key×V)}{xs:List (List Key×Addr×Value)}(r:KT H aw xs)(k:List Key):oV (lU aw k) ((atKey xs k).map (·.2)):=by
 induction r with
 |nil=>exact True.intro
 |@cons p q ps qs h t ih=>
  obtain⟨h1,_,h2⟩:=h;by_cases e:p.1=k
  ·have e':q.1=k:=h1.symm.trans e;have b:atKey (q::qs) k=some q.2:=by simp[atKey,dY,e']
   rw[kH e,b];exact h2
  ·have e':¬q.1=k:=fun z=>e (h1.trans z);have b:atKey (q::qs) k=atKey qs k:=by simp[atKey,dY,e']
   rw[kI e,b];exact ih
theorem KT.JZ {H:Hp}{aw:List (List Key×V)}{xs:List (List Key×Addr×Value)}(r:KT H aw xs)(k:List Key){y:V}{u:Value}(ry:RelV y u):
  KT H (aw.map fun kv=>if kv.1=k then(kv.1,y)else kv) (xs.map (putAt k u)):=by
 induction r with
 |nil=>exact .nil
 |@cons p q ps qs h t ih=>
  rw[aA,aA];refine .cons ?_ ih
  obtain⟨h1,h2,h3⟩:=h;unfold putAt;by_cases e:p.1=k
  ·rw[ab e,ab (h1.symm.trans e)];exact⟨h1,h2,ry⟩
  ·rw[af e,af (fun z=>e (h1.trans z))];exact⟨h1,h2,h3⟩
theorem KT.put {H:Hp}{aw:List (List Key×V)}{xs:List (List Key×Addr×Value)}(r:KT H aw xs)(k:List Key){b:Addr}{y:V}{u:Value}(hb:H b=some (.tup (k.map kV)))(ry:RelV y u):
  KT H (putK aw k y) (storedH xs k b u):=by
 have e:(aw.any fun kv=>decide (kv.1=k))=(atKey xs k).isSome:=by
  rw[w6,(r.val k).oY,Option.isSome_map]
 unfold putK storedH;rw[e];by_cases q:(atKey xs k).isSome=true
 ·rw[ab q,ab q];exact r.JZ k ry
 ·rw[af q,af q];exact Paired.snoc r ⟨rfl,hb,ry⟩
theorem KT.keeps {H H':Hp}{aw:List (List Key×V)}{xs:List (List Key×Addr×Value)}(r:KT H aw xs)(ht:∀b ys,H b=some (.tup ys)->H' b=some (.tup ys)):KT H' aw xs:=
 Paired.Ju r fun _ _ z=>⟨z.1,ht _ _ z.2.1,z.2.2⟩
section
variable {P:Program}{w:World}{H:Hp}{h:Heap}{a:Addr}
theorem DI{u:HO}(ok:lZ P w H h)(e:Rd H a u):bQ P w H h a u:=e.ok ok
theorem w8{aw:List (Key×V)}(ok:lZ P w H h)(e:Rd H a (.dK aw)):aw.length<=sizeLine/\(a==sysModules)=false/\∃vs,KV aw vs/\h.DictOf (ay P w) a vs:=
 show bQ P w H h a (.dK aw)from DI ok e
theorem Nq{aw:List (Key×V)}(ok:lZ P w H h)(e:H a=some (.dK aw)):aw.length<=sizeLine/\(a==sysModules)=false/\∃vs,KV aw vs/\h.DictOf (ay P w) a vs:=w8 ok (.inl e)
theorem mf{ks:List Key}(ok:lZ P w H h)(e:H a=some (.tup (ks.map kV))):(tupleKind (ay P w)).is h ks a:=by
 obtain⟨_,aZ,r,o,h1,h2,n,h3,_⟩:=(show bQ P w H h a (.tup (ks.map kV))from ok a _ e);exact⟨o,aZ.toArray,n,h1,h2,h3,by simpa using uD r⟩
theorem w_{aw:List (List Key×V)}(ok:lZ P w H h)(e:Rd H a (.dT aw)):aw.length<=sizeLine/\(a==sysModules)=false/\
  ∃xs,KT H aw xs/\h.DictOfH (tupleKind (ay P w)) a xs:=by
 obtain⟨z,y,xs,r,o,es,ep,h1,h2,h3,h4,h5⟩:=(show bQ P w H h a (.dT aw)from DI ok e);refine⟨z,y,xs,r,o,es,ep,h1,h2,h3,h4,fun x hx=>?_,h5⟩;have all:∀{l:List (List Key×V)} {m:List (List Key×Addr×Value)},KT H l m->∀x∈m,(tupleKind (ay P w)).is h x.1 x.2.1:=by
  intro l m q
  induction q with
  |nil=>intro x hx;exact nomatch hx
  |@cons p q ps qs hq t ih=>
   intro x hx;rcases aN.mp hx with e|hx
   ·subst e;exact mf ok (by rw[<-hq.1];exact hq.2.1)
   ·exact ih x hx
 exact all r x hx
theorem Nr{aw:List (List Key×V)}(ok:lZ P w H h)(e:H a=some (.dT aw)):aw.length<=sizeLine/\(a==sysModules)=false/\
  ∃xs,KT H aw xs/\h.DictOfH (tupleKind (ay P w)) a xs:=w_ ok (.inl e)
end
def sg(H:Hp)(a:Addr)(y:V)(r:Option V):Prop:=
 (∃aw k,Rd H a (.dK aw)/\y=kV k/\r=lU aw k)\/∃aw k b,Rd H a (.dT aw)/\y=.ref b/\H b=some (.tup (k.map kV))/\r=lU aw k
def vB(H:Hp)(a:Addr)(y v:V)(H':Hp):Prop:=
 (∃aw k,H a=some (.dK aw)/\y=kV k/\aw.length<sizeLine/\H'=upd H a (.dK (putK aw k v)))\/
 ∃aw k b,H a=some (.dT aw)/\y=.ref b/\H b=some (.tup (k.map kV))/\aw.length<sizeLine/\H'=upd H a (.dT (putK aw k v))
theorem sg.k {H:Hp}{a:Addr}{aw:List (Key×V)}{k:Key}(e:H a=some (.dK aw)):sg H a (kV k) (lU aw k):=.inl ⟨aw,k,.inl e,rfl,rfl⟩
theorem sg.t {H:Hp}{a b:Addr}{aw:List (List Key×V)}{k:List Key}(e:H a=some (.dT aw))(eb:H b=some (.tup (k.map kV))):sg H a (.ref b) (lU aw k):=.inr ⟨aw,k,b,.inl e,rfl,eb,rfl⟩
theorem vB.k {H:Hp}{a:Addr}{aw:List (Key×V)}{k:Key}{v:V}(e:H a=some (.dK aw))(hl:aw.length<sizeLine):vB H a (kV k) v (upd H a (.dK (putK aw k v))):=.inl ⟨aw,k,e,rfl,hl,rfl⟩
theorem vB.t {H:Hp}{a b:Addr}{aw:List (List Key×V)}{k:List Key}{v:V}(e:H a=some (.dT aw))(eb:H b=some (.tup (k.map kV)))(hl:aw.length<sizeLine):
  vB H a (.ref b) v (upd H a (.dT (putK aw k v))):=.inr ⟨aw,k,b,e,rfl,eb,hl,rfl⟩
section
variable {X:Cx}{pins:List (Addr×Obj)}{σ:St}{H:Hp}{s:Shared}{a:Addr}{y v:V}{u r:Value}{o:Option V}{A:Around}{E:Value->Shared->Prop}
theorem Inv.big (I:Inv X pins σ H s):sysModules<s.heap.objs.size:=by
 have h:mainGlobals<s.heap.objs.size:=(I.mod.glob.keeps I.bk).lt;exact kr (by decide) h
theorem oZ{Q:Value->Shared->Prop}(hu:A.units+1<cLine)(I:Inv X pins σ H s)(g:sg H a y (some v))(ry:RelV y u)(h:∀w' s',Inv X pins σ H s'->RelV v w'->Q w' s'):
  wpAny (model X.prog X.w) A (getItem (.ref a) u) Q E s:=by
 rcases g with⟨aw,k,e,ey,l⟩|⟨aw,k,b,e,ey,eb,l⟩
 ·subst ey;obtain⟨z,hd,vs,rel,dd⟩:=w8 I.cp e;obtain⟨w',hw,md⟩:=oV.some_of (v:=v) (o:=valueAt vs k) (by rw[l];exact rel.val k);exact wpAny_getItem_of (Aa ry) dd.mapOf hw (h w' _ (I.tok _) md)
 ·subst ey;cases(show u=Value.ref b from ry);obtain⟨z,hd,xs,rel,dd⟩:=w_ I.cp e;obtain⟨w',hw,md⟩:=oV.some_of (v:=v) (o:=(atKey xs k).map (·.2)) (by rw[l];exact rel.val k);obtain⟨p,hp,BK⟩:=Option.map_eq_some_iff.mp hw;refine wpAny_getItem_heap (i3 hu) (mf I.cp eb) dd hp ?_
  rw[BK];exact h w' _ (I.tok _) md
theorem SO{Q:Value->Shared->Prop}(hu:A.units+1<cLine)(I:Inv X pins σ H s)(g:sg H a y o)(ry:RelV y u)(h:∀s',Inv X pins σ H s'->Q (.bool o.isSome) s'):
  wpAny (model X.prog X.w) A (compareOp .In u (.ref a)) Q E s:=by
 rcases g with⟨aw,k,e,ey,l⟩|⟨aw,k,b,e,ey,eb,l⟩
 ·subst ey;obtain⟨z,hd,vs,rel,dd⟩:=w8 I.cp e;refine wpAny_in_of (Aa ry) hd dd.mapOf ?_
  rw[<-(rel.val k).oY,<-l];exact h _ (I.tok _)
 ·subst ey;cases(show u=Value.ref b from ry);obtain⟨z,hd,xs,rel,dd⟩:=w_ I.cp e;refine wpAny_in_heap (i3 hu) (mf I.cp eb) hd dd ?_
  have q:=(rel.val k).oY;rw[Option.isSome_map]at q;rw[<-q,<-l];exact h _ (I.tok _)
theorem Ac{h':Heap}{t':Nat}{ob:HO}(I:Inv X pins σ H s)(mu:MW (H a))(hs:Heap.SameBut a s.heap h')(he:∃q,h'.get? a=some q)(new:bQ X.prog X.w (upd H a ob) h' a ob):
  Inv X pins σ (upd H a ob) {s with heap:=h',toks:=t'}:=
 I.write (x:=a) (e:=a) mu (.inl rfl) (fun b q hb z=>(hs.2 b hb).trans z) he new
theorem J0{P:Program}{w:World}{H':Hp}{h':Heap}{aw:List (Key×V)}{vs:List (Key×Value)}(z:aw.length<=sizeLine)(hd:(a==sysModules)=false)(rel:KV aw vs)(dd:h'.DictOf (ay P w) a vs):
  bQ P w H' h' a (.dK aw):=⟨z,hd,vs,rel,dd⟩
theorem uE{H':Hp}{Q:Unit->Shared->Prop}(hu:A.units+1<cLine)(I:Inv X pins σ H s)(g:vB H a y v H')(ry:RelV y u)(rv:RelV v r)(h:∀s',Inv X pins σ H' s'->Q () s'):
  wpAny (model X.prog X.w) A (setItem (.ref a) u r) Q E s:=by
 rcases g with⟨aw,k,e,ey,l,eH⟩|⟨aw,k,b,e,ey,eb,l,eH⟩
 ·subst ey eH;obtain⟨z,hd,vs,rel,dd⟩:=Nq I.cp e;have hz:vs.length<=sizeLine:=by rw[<-rel.length];exact z
  have hl:(putK aw k v).length<=sizeLine:=by have:=kJ aw k v;omega
  refine wpAny_setItem_pairs (hsz:=hz) (Aa ry) dd fun h' Iu hs=>h _ ?_
  have he:∃q,h'.get? a=some q:=let⟨q,_,_,hq,_⟩:=Iu;⟨q,hq⟩
  exact Ac I (by rw[e];exact True.intro) hs he (J0 hl hd (rel.put k rv) Iu)
 ·subst ey eH;cases(show u=Value.ref b from ry);obtain⟨z,hd,xs,rel,dd⟩:=Nr I.cp e;have hz:xs.length<=sizeLine:=by rw[<-Paired.length rel];exact z
  have hl:(putK aw k v).length<=sizeLine:=by have:=kJ aw k v;omega
  refine wpAny_setItem_heap (hsz:=hz) (i3 hu) (mf I.cp eb) dd fun h' Iu hs=>h _ ?_
  obtain⟨q,es,ep,hq,h2,h3,h4,_,h5⟩:=Iu;refine Ac I (by rw[e];exact True.intro) hs ⟨q,hq⟩ ⟨hl,hd,_,(rel.put k eb rv).keeps fun c ys ec=>?_,q,es,ep,hq,h2,h3,h4,h5⟩;rw[aj (MT ec e (fun z=>nomatch z))];exact ec
end
section
variable {X:Cx}{pins:List (Addr×Obj)}{σ:St}{H:Hp}{s:Shared}{a:Addr}{aw:List (Key×V)}{k:Key}{u:Value}{A:Around}{E:Value->Shared->Prop}
theorem Nt{Q:Value->Shared->Prop}(I:Inv X pins σ H s)(e:Rd H a (.dK aw))(h:∀t s',Inv X pins σ H s'->Q (.int aw.length t) s'):wpAny (model X.prog X.w) A (call (.builtin "len") [.ref a]) Q E s:=by
 obtain⟨z,hd,vs,rel,dd⟩:=w8 I.cp e;refine call_len_dict hd dd (by rw[<-rel.length];rw[bH]at z;omega) ?_
 rw[<-rel.length];exact h _ _ (I.tok _)
end
theorem pN{X:Cx}{pins:List (Addr×Obj)}{σ:St}{H:Hp}{s:Shared}{a:Addr}{y:V}{o:Option V}(I:Inv X pins σ H s)(g:sg H a y o):s.TypeIs (.ref a) "dict":=by
 rcases g with⟨aw,k,e,_,_⟩|⟨aw,k,b,e,_,_,_⟩
 ·obtain⟨_,_,vs,_,dd⟩:=w8 I.cp e;exact dd.typeIs
 ·obtain⟨_,_,xs,_,dd⟩:=w_ I.cp e;exact dd.typeIs
def Nu(td ty tv:TE):TS:=fun D σ H=>tv σ H fun v H1=>td σ H1 fun x H2=>ty σ H2 fun y H3=>∃a H4,x=.ref a/\vB H3 a y v H4/\D.nx σ H4
def Nv(td ty tv:TE)(rd:V->V->Hp->VK->Prop):TS:=fun D σ H=>td σ H fun x H1=>ty σ H1 fun y H2=>∃a v,x=.ref a/\sg H2 a y (some v)/\
 tv σ H2 fun y2 H3=>rd v y2 H3 fun z H4=>∃H5,vB H4 a y z H5/\D.nx σ H5
section
variable {X:Cx}{o i e value:Expr}{pos pos' nT:Pos}{td ty tv:TE}
theorem Gg(hu:X.A.units+1<cLine)(ho:PE X o td)(hi:PE X i ty)(hv:PE X value tv)(hs:swapsWith value (some (.Subscript o i pos')) pos.line X.env=pure false):
  PS X (.Assign [.Subscript o i pos'] value pos) (Nu td ty tv):=by
 intro pins s σ H D I h;refine wpAny_Assign_Subscript (eE (hv pins s σ H _ I h) fun r s1 ⟨v,H1,I1,rv,q1⟩=>eE (ho pins s1 σ H1 _ I1 q1) fun u s2 ⟨x,H2,I2,rx,q2⟩=>eE (hi pins s2 σ H2 _ I2 q2) fun iv s3 ⟨y,H3,I3,ry,a,H4,ex,g,q3⟩=>?_) hs;subst ex;obtain rfl:u=Value.ref a:=rx;exact uE hu I3 g ry rv fun s4 I4=>⟨σ,H4,I4,q3⟩
theorem Gh{op:Operator}{rd:V->V->Hp->VK->Prop}(hu:X.A.units+1<cLine)(ho:PE X o td)(hi:PE X i ty)(hv:PE X value tv)(Wv:JM X op rd)
  (ha:∀ov iv new,augStore i ov iv new=(do holding [new,ov,iv] (setItem ov iv new);release [new,ov,iv] [];pure .next)):PS X (.AugAssign (.Subscript o i nT) op value pos) (Nv td ty tv rd):=by
 intro pins s σ H D I h;refine wpAny_AugAssign_SubscriptAny (eE (ho pins s σ H _ I h) fun u s1 ⟨x,H1,I1,rx,q1⟩=>eE (hi pins s1 σ H1 _ I1 q1) fun iv s2 ⟨y,H2,I2,ry,a,v,ex,g,q2⟩=>?_) ha;subst ex;obtain rfl:u=Value.ref a:=rx;refine oZ hu I2 g ry fun w' s3 I3 md=>eE (hv pins s3 σ H2 _ I3 q2) fun w2 s4 ⟨y2,H3,I4,Ww,q3⟩=>eE (Wv pins s4 σ H3 v y2 w' w2 _ I4 md Ww q3) fun w3 s5 ⟨z,H4,I5,rz,H5,g5,q4⟩=>?_
 exact uE hu I5 g5 ry rz fun s6 I6=>⟨σ,H5,I6,q4⟩
end
theorem DJ{P:Program}{w:World}{H:Hp}(h:Heap)(hb:sysModules<h.objs.size):bQ P w H (h.push {cls:=.type "dict",data:=.dict #[]}) h.objs.size (.dT []):=
 ⟨bP _,beq_eq_false_iff_ne.mpr (cv (aM hb)),[],.nil,_,#[],0,aU _ rfl,⟨rfl,rfl,rfl⟩,rfl,rfl,f6⟩
def J1:TE:=fun _ H Q=>∀p,H p=none->Q (.ref p) (upd H p (.dT []))
section
variable {X:Cx}{pos:Pos}
theorem DK:PE X (.Dict [] [] pos) J1:=fun pins s σ H Q I h=>
 wpAny_Dict_empty ⟨.ref s.heap.objs.size,_,I.laid (a:=s.heap.objs.size) (o:=.dT []) (t':=s.toks) (fun _ _ q=>aC _ q) (ak _) (DJ s.heap I.big),rfl,h _ (I.cp.fresh (ak _))⟩
end
end L2
namespace Vq
open PySem PySem.W PySem.Calls PyProof.Rows
theorem qg{P:Params}{h:Heap}:∀(ns:List Int) (vs:List Value),WellAll P h vs (ns.map WData.int)->IntsAre vs ns:=by
 intro ns
 induction ns with
 |nil=>
  intro vs w;rw[nG]at w;cases w;exact .nil
 |cons n ns ih=>
  intro vs w;rw[aA]at w;cases w with
  |cons a b=>
   cases a;exact .cons _ _ (ih _ b)
theorem BL{l:OpenLaw}{n:Nat}(hn:l.most=some n){P:Params}{h:Heap}{args:List WData}{vals:List Value}
  (Gi:l.row.toRowW.claim.pre args=true) (SQ:WellAll P h vals args):
  ∃a vs ns,vals=[Value.ref a]/\args=[WData.list (ns.map WData.int)]/\h.get? a=some {cls:=.type "list",data:=.seq vs.toArray}/\IntsAre vs ns/\ns.length<=n:=by
 have Wx:WShape.hasAll [] args [.list .int]=true:=(pre_splitW Gi).1;have hc:l.pre.holds [] {args:=args}=true:=(pre_splitW Gi).2;obtain⟨d,r,rfl,h1,h2⟩:=hasAllW_cons Wx;obtain rfl:=hasAllW_nil h2;obtain⟨xs,rfl,h3⟩:=hasW_list h1;obtain⟨ns,rfl⟩:=items_int h3;have hlen:ns.length<=n:=by
  unfold OpenLaw.pre at hc;have h4:(WTm.not (.lt (.lit (.int (n:Int))) (.len (.arg 0)))).holds [] {args:=[.list (ns.map .int)]}=true:=by
   have h4:=(holds_andW hc).1;rw[hn]at h4;exact h4
  have h5:=condW_of h4 (w_not (w_lt w_lit (w_len_list (w_arg rfl))));rw[ah]at h5;refine rA fun q=>?_
  have q':(n:Int)<((ns.length:Nat):Int):=by omega
  first
   |(rw[bF q']at h5;exact absurd h5 (by decide))
   |(simp at h5;omega)
 cases SQ with
 |cons w1 w2=>
  cases w2;cases w1 with
  |list ho fO=>exact⟨_,_,ns,rfl,rfl,ho,qg ns _ fO,hlen⟩
theorem BM(l:OpenLaw)(args:List WData):l.row.toRowW.claim.post args (.bool true) args=true:=
 postW_of (r:=l.row.toRowW) (X:=(true==true))
  (show WShape.has [] (.bool true) .bool=true by first|rfl|decide|simp[WShape.has,WShape.arms,WShape.armsAll])
  (show(WTm.eq .res (.lit (.bool true))).value [] {args:=args,res:=some (.bool true),after:=args}=some (.bool (true==true))from w_eq_bool (w_res rfl) w_lit) rfl
theorem xa{l:OpenLaw}{n:Nat}{q:Program}{loose:List Str}{XP:(Str->Option Value)->Heap->Prop}{YP:World->Heap->Prop}{d:DefRec}
  (hn:l.most=some n) (Nw:d.params.defaults=[])
  (call:∀(w:World) (fb cj:Shared) (mg mb:Str->Option Value) (fa:Addr) (o:Obj) (pm cd doc:Value) (a:Addr) (vs:List Value) (ns:List Int),
   Ground q loose [] XP w fb mg mb cj.heap->YP w cj.heap->
   cj.heap.get? fa=some o->o.data=.func (docDef d.name d.params d.body d.scope pm cd doc)->cj.heap.CodeRec cd d.name->mg d.name=some (.ref fa)->
   cj.heap.get? a=some {cls:=.type "list",data:=.seq vs.toArray}->IntsAre vs ns->ns.length<=n->cj.gens=#[]->
   codeAny (model l.prog w) callerA (.call (.ref fa) ⟨[.ref a],[]⟩) (fun r s'=>r=.ok (.ret (.bool true))/\OldK cj.heap s'.heap/\s'.os=cj.os/\AllBare s'.gens) cj):
  WalkO q loose XP YP l.row.toRowW d [] (fun f vs=>PySem.call f vs):=by
 intro w fb cj mg mb G Y fa o pm cd doc dV kV ho hd qf hD Nx hg args vals as Gi Wy YL SQ YM;obtain rfl:dV=.none:=Dflts.none hD Nw;obtain rfl:kV=.none:=Dflts.noKw hD;obtain⟨a,vs,ns,rfl,rfl,J2,hints,hlen⟩:=BL hn Gi SQ;refine enter_call (fq (call w fb cj mg mb fa o pm cd doc a vs ns G Y ho (fd_plain hd) qf Nx J2 hints hlen hg) fun r s' hq=>?_);obtain⟨rfl,h2,h3,h4⟩:=hq;exact⟨.inl ⟨.bool true,.bool true,[],rfl,fun _=>rfl,.bool true,BM l _,fun _=>⟨List.Pairwise.nil,fun _ hm=>(nomatch hm)⟩⟩,h2,h3,h4⟩
end Vq
namespace L2
open PySem PySem.Spec PyProof.Rows
theorem uF:∀{vs:List Value} {ns:List Int},IntsAre vs ns->Vals (ns.map V.int) vs
 |_,_,.nil=>.nil
 |_,_,.cons n t h=>.cons ⟨t,rfl⟩ (uF h)
theorem DL{P:Program}{w:World}{K:PySem.W.Frag}{mg mb:Str->Option Value}{CX:yQ}{k:Nat}{fa a:Addr}{fd:FuncData}{x:Str}{sp:Sp}{cj:Shared}{vs:List Value}{ns:List Int}{tc tP:Addr}{tq:Str}
  (KX:K.In cj.heap) (uG:cj.heap.Ns mainGlobals mg) (hb:cj.heap.Ns builtinsNs mb) (Ny:∀x:Str,x≠"__name__"->mb x=bootBuiltins x) (J3:cj.heap.NoLimit) (hg:cj.gens=#[])
  (Nz:∃bm ob,mg "__builtins__"=some (.ref bm)/\bm≠builtinsNs/\bm≠mainGlobals/\cj.heap.get? bm=some ob/\ob.cls=.type "module"/\ob.dict=some builtinsNs/\ob.data=.plain) (hC:PySem.W.CodeHd cj.heap tc tP) (hP:cj.heap.get? tP=some (PySem.W.tabObj #[])) (J4:K.lookup tP=none)
  (ha:cj.heap.get? a=some {cls:=.type "list",data:=.seq vs.toArray}) (hi:IntsAre vs ns) (hl:ns.length<=sizeLine) (hr:dE k callerA)
  (F:∀base:Heap,K.In base->base.Ns mainGlobals mg->ia P w K mg base CX k fa fd [x] sp) (xb:∀(s:Shared) (u:Value),BindsTo s fd ⟨[u],[]⟩ [(x,u)])
  (Il:∀H:Hp,H tP=some (.wB #[.str tq 0])->iS K H a (ns.map V.int)->sp [.ref a] H (fun v _=>v=.bl true) fun _ _ _=>False)
  (SR:∀H e s',CX [] H cj (fun _ _ _=>False) e s'->False):
  codeAny (model P w) callerA (.call (.ref fa) ⟨[.ref a],[]⟩) (fun r s'=>r=.ok (.ret (.bool true))/\OldK cj.heap s'.heap/\s'.os=cj.os/\AllBare s'.gens) cj:=by
 have rv:=uF hi;have SS:=hi.length;have SU:a≠tP:=fun z=>by rw[z,hP]at ha;cases ha
 have NA:∀H:Hp,bQ P w H cj.heap tP (.wB #[.str tq 0]):=fun H=>⟨#[],hP,trivial,fun pos v e=>by cases e⟩;have core:∀H:Hp,H tP=some (.wB #[.str tq 0])->iS K H a (ns.map V.int)->lZ P w H cj.heap->(∀b,H b≠none->b=a\/b=tP)->(H a≠none->K.lookup a=none)->(∀u,H a=some u->∃o xs,u=.gk o (.lst xs))->
   codeAny (model P w) callerA (.call (.ref fa) ⟨[.ref a],[]⟩) (fun r s'=>r=.ok (.ret (.bool true))/\OldK cj.heap s'.heap/\s'.os=cj.os/\AllBare s'.gens) cj:=by
  intro H hT hS cp hA hK hF;have vC:∀{b:Addr} {o:Obj},cj.heap.get? b=some o->H b=none->(vt cj.heap H).get? b=some o:=fun e n=>Dh e n;have Mr:∀{b:Addr} {o:Obj},cj.heap.get? b=some o->(∀xs n,o.data≠ .seq xs n)->(∀xs,o.data≠ .fields xs)->H b=none:=fun{b o} e d1 d2=>by
   cases q:H b with
   |none=>rfl
   |some u=>
    rcases hA b (by rw[q];simp)with e'|e'
    ·subst e';rw[ha]at e;cases e;exact absurd rfl (d1 _ _)
    ·subst e';rw[hP]at e;cases e;exact absurd rfl (d2 _)
  have Q_:∀{b:Addr} {m:Str->Option Value},cj.heap.Ns b m->(vt cj.heap H).Ns b m:=fun{b m} ⟨o,es,ep,e,d,r⟩=>⟨o,es,ep,vC e (Mr e (fun _ _ z=>by rw[d]at z;cases z) fun _ z=>by rw[d]at z;cases z),d,r⟩;have Vr:K.In (vt cj.heap H):=fun b o e=>vC (KX b o e) (by
   cases q:H b with
   |none=>rfl
   |some u=>
    rcases hA b (by rw[q];simp)with e'|e'
    ·subst e';rw[hK (by rw[q];simp)]at e;cases e
    ·subst e';rw[J4]at e;cases e)
  have hM:Mod K mg (vt cj.heap H):=⟨Vr,Q_ uG,⟨mb,Q_ hb,Ny⟩,(let⟨mc,h1,h2⟩:=J3;⟨mc,Q_ h1,h2⟩),(let⟨bm,ob,b1,b2,b3,b4,b5,b6,b7⟩:=Nz;⟨bm,ob,b1,b2,b3,vC b4 (Mr b4 (fun _ _ z=>by rw[b7]at z;cases z) fun _ z=>by rw[b7]at z;cases z),b5,b6,b7⟩)⟩;have e0:F_ P w K mg (vt cj.heap H) callerA [] cj H:=⟨rfl,hM,fun b o e=>FW e,Nat.le_of_eq (BD _ _),trivial,fun b hb=>absurd (show b∈([]:List Addr)from hb) (by simp),cp,.of_eq hg⟩;refine fq ((F _ Vr (Q_ uG)).run callerA [] cj H ⟨[.ref a],[]⟩ [.ref a] [.ref a] _ _ hr e0 (xb cj (.ref a)) (.cons rfl .nil) (Il H hT hS)) fun r s' h=>?_
  cases r with
  |error e=>exact(SR H e s' h).elim
  |ok fl=>
   cases fl with
   |next=>exact False.elim h
   |brk=>exact False.elim h
   |cont=>exact False.elim h
   |ret u=>
    obtain⟨v,H',os,bare,un,NC,r',q⟩:=h;have q':v=.bl true:=q;subst q';obtain rfl:u=Value.bool true:=r';have keep:∀b o,b≠tP->cj.heap.get? b=some o->s'.heap.get? b=some o:=fun b o nb e=>by
     cases q:H b with
     |none=>exact un.keep b o e q (by intro z;exact absurd (show b∈([]:List Addr)from z) (by simp)) (by simp)
     |some u=>
      rcases hA b (by rw[q];simp)with e'|e'
      ·subst e';obtain⟨ob,xs,z⟩:=hF u q;subst z;have z2:=un.jY b ob _ q;obtain⟨e1,_⟩:=cp b _ q;obtain⟨e2,_⟩:=NC b _ z2;rw[e]at e1;cases e1;exact e2
      ·exact absurd e' nb
    obtain⟨more,BN⟩:=un.kC tP _ hT;obtain⟨qs,hq,_⟩:=NC tP _ BN;refine⟨rfl,⟨fun b o e=>?_,fun b o e=>?_⟩,os,bare⟩
    ·by_cases nb:b=tP
     ·subst nb;rw[hP]at e;cases e;exact .inr (.inl ⟨(hC.tab hP).isCodeTable,rfl,#[],qs,rfl,by rw[Array.empty_append];exact hq⟩)
     ·exact .inl (keep b o nb e)
    ·by_cases nb:b=tP
     ·subst nb;exact⟨_,hq⟩
     ·exact⟨o,keep b o nb e⟩
 cases hk:K.lookup a with
 |some o=>
  have e:=KX a o hk;rw[ha]at e;cases e;refine core (fun b=>if b=tP then some (.wB #[.str tq 0])else none) (ab rfl) (.inr ⟨_,vs.toArray,_,hk,rfl,rfl,rfl,by rw[bf,SS];exact hl,by simpa using rv⟩) (fun b u z=>?_) (fun b z=>?_) (fun z=>absurd (af SU) z) fun u z=>by rw[af SU]at z;cases z
  ·by_cases hb:b=tP
   ·have z':=(ab hb).symm.trans z;cases z';rw[hb];exact NA _
   ·have z':=(af hb).symm.trans z;cases z'
  ·by_cases hb:b=tP
   ·exact .inr hb
   ·exact absurd (af hb) z
 |none=>
  refine core (fun b=>if b=a then some (.gk {cls:=.type "list",data:=.seq vs.toArray} (.lst (ns.map V.int)))else if b=tP then some (.wB #[.str tq 0])else none) ((af (cv SU)).trans (ab rfl)) (.inl (.inr ⟨{cls:=.type "list",data:=.seq vs.toArray},ab rfl⟩)) (fun b u z=>?_) (fun b z=>?_) (fun _=>hk) fun u z=>?_
  ·by_cases hb:b=a
   ·have z':=(ab hb).symm.trans z;cases z';subst hb;exact⟨ha,by rw[ah];exact hl,vs,_,rv,ha⟩
   ·have z':=(af hb).symm.trans z;by_cases C_:b=tP
    ·have z2:=(ab C_).symm.trans z';cases z2;rw[C_];exact NA _
    ·have z2:=(af C_).symm.trans z';cases z2
  ·by_cases hb:b=a
   ·exact .inl hb
   ·by_cases C_:b=tP
    ·exact .inr C_
    ·exact absurd ((af hb).trans (af C_)) z
  ·have z':=(ab rfl).symm.trans z;cases z';exact⟨_,_,rfl⟩
end L2
namespace L2
open PySem PySem.Spec PyProof.Rows
theorem Gj{l:PySem.W.OpenLaw}{n k:Nat}{q:Program}{loose:List Str}{XP:(Str->Option Value)->Heap->Prop}{YP:World->Heap->Prop}{d:DefRec}{K:Params->PySem.W.Frag}{CX:World->yQ}{sp:World->Sp}{x:Str}{tc tP:Addr}{tq:Str}
  (hn:l.most=some n) (Ra:n<=sizeLine) (Nw:d.params.defaults=[]) (hr:dE k callerA)
  (hY:∀(w:World) (h:Heap),YP w h->(K w.params).In h) (hC:∀(w:World) (h:Heap),YP w h->PySem.W.CodeHd h tc tP) (hP:∀(w:World) (h:Heap),YP w h->h.get? tP=some (PySem.W.tabObj #[])) (J4:∀w:World,(K w.params).lookup tP=none)
  (F:∀(w:World) (mg:Str->Option Value) (fa:Addr) (h:Heap),(K w.params).In h->h.Ns mainGlobals mg->mg d.name=some (.ref fa)->
   ∃fd:FuncData,(∀(s:Shared) (u:Value),BindsTo s fd ⟨[u],[]⟩ [(x,u)])/\
    ∀base:Heap,(K w.params).In base->base.Ns mainGlobals mg->ia l.prog w (K w.params) mg base (CX w) k fa fd [x] (sp w))
  (Il:∀(w:World) (H:Hp) (a:Addr) (ns:List Int),ns.length<=n->H tP=some (.wB #[.str tq 0])->iS (K w.params) H a (ns.map V.int)->sp w [.ref a] H (fun v _=>v=.bl true) fun _ _ _=>False)
  (SR:∀(w:World) (H:Hp) (s:Shared) (e:Value) (s':Shared),CX w [] H s (fun _ _ _=>False) e s'->False):
  PySem.W.WalkO q loose XP YP l.row.toRowW d [] (fun f vs=>PySem.call f vs):=by
 refine Vq.xa hn Nw fun w fb cj mg mb fa o pm cd doc a vs ns G Y ho hd qf Nx J2 hints hlen hg=>?_
 have KX:=hY w _ Y;obtain⟨fd,hb,hF⟩:=F w mg fa _ KX G.T.g Nx;have Nz:∃bm ob,mg "__builtins__"=some (.ref bm)/\bm≠builtinsNs/\bm≠mainGlobals/\cj.heap.get? bm=some ob/\ob.cls=.type "module"/\ob.dict=some builtinsNs/\ob.data=.plain:=by
  obtain⟨bm,ob,b1,b2,b3,b4,b5,b6⟩:=G.T.bmain;refine⟨bm,ob,b1,b2,fun z=>?_,b3,b4,b5,b6⟩;obtain⟨o,es,ep,e,hd,_⟩:=G.T.g;rw[z,e]at b3;cases b3;rw[hd]at b6;cases b6
 exact DL KX G.T.g G.T.b G.T.builtins G.T.nolimit hg Nz (hC w _ Y) (hP w _ Y) (J4 w) J2 hints (bx hlen Ra) hr hF hb (fun H hO hS=>Il w H a ns hlen hO hS) fun H e s'=>SR w H cj e s'
end L2
namespace L2
open PySem PySem.Spec PyProof.Rows
def qG(s:Stmt):Arguments:=match s with
 |.FunctionDef _ a _ _ _ _ _ _ _ _=>a
 |_=>{posonlyargs:=[],args:=[],vararg:=none,kwonlyargs:=[],kw_defaults:=[],kwarg:=none,defaults:=[]}
def dv(s:Stmt):List Stmt:=match s with
 |.FunctionDef _ _ b _ _ _ _ _ _ _=>b
 |_=>[]
def aF(s:Stmt):Scope:=match s with
 |.FunctionDef _ _ _ _ _ _ sc _ _ _=>sc
 |_=>{kind:=.function,names:=[],isGenerator:=false,isCoroutine:=false}
abbrev oS:yQ:=fun _ _ _ _ _ _=>False
abbrev E0:XK:=fun _ _ _=>False
theorem ND{X:Cx}:Passes oS X E0:=fun _ _ _ _ _ _ _ h=>h.elim
structure uf(K:PySem.W.Frag)(x qual:Str)(st:Stmt)(f:Addr)(fd:FuncData):Prop where
 ex:∃(oc:Value) (od:Option Addr) (kV doc pm:Value) (an:Option Addr) (du ct:Value) (z8:Array (Option Value)),
  fd=PySem.W.fnOf x qual (qG st) (dv st) (aF st) .none kV doc pm an du ct/\K.lookup f=some ⟨oc,od,.func fd,z8⟩/\PySem.W.codeIn K du qual=true
 kp:PySem.W.keepIn K (.ref f)=true
section
variable {P:Program}{w:World}{K:PySem.W.Frag}{mg:Str->Option Value}{base:Heap}
theorem uf.ok {x qual:Str}{st:Stmt}{f:Addr}{fd:FuncData}{N ps:List Str}{k:Nat}{sp:Sp}(F:uf K x qual st f fd)(S:d0 N ps (aF st))(len:∀vs H Q E,sp vs H Q E->vs.length=ps.length)
  (ib:∀(du:Value) (A:Around) (outer:List Env) (s:Shared) (H:Hp) (vs:List V) (Q:VK) (E:XK),dE k (A.deeper (envOfC qual (aF st) s.heap.objs.size f du))->sp vs H Q E->
   ∃t,kD (jZ oS P w K mg base N qual (aF st) f du A outer s H E).C8 (dv st) t/\t {nx:=fun _ H'=>Q .cD H',rt:=Q} (start N vs) H):ia P w K mg base oS (k+1) f fd ps sp:=by
 obtain⟨oc,od,kV,doc,pm,an,du,ct,z8,rfl,lk,qf⟩:=F.ex;refine DB lk qf S len fun A outer s H vs Q E hr Il=>?_
 obtain⟨t,h,q⟩:=ib du A outer s H vs Q E hr Il;exact⟨t,h.C8,q⟩
theorem uf.binds {x qual:Str}{st:Stmt}{f:Addr}{fd:FuncData}{ps:List Str}(F:uf K x qual st f fd)
  (h:∀(kV doc pm:Value) (an:Option Addr) (du ct:Value) (us:List Value),us.length=ps.length->bindArgs (PySem.W.fnOf x qual (qG st) (dv st) (aF st) .none kV doc pm an du ct) ⟨us,[]⟩=pure (ps.zip us)):Binds K fd ps []:=by
 obtain⟨oc,od,kV,doc,pm,an,du,ct,z8,rfl,lk,qf⟩:=F.ex;exact .all (h kV doc pm an du ct)
end
theorem gE{A:Around}{k:Nat}(hr:dE k A):A.units+1<cLine:=Nat.lt_of_le_of_lt (Nat.add_le_add_left (by decide:1<=64) _) hr.units
theorem J5{A B:Prop}(h:B):if false=true then A else B:=by
 rw[af cP];exact h
theorem J7{A B:Prop}(h:A):if true=true then A else B:=by
 rw[ab rfl];exact h
def ax(H H':Hp):Prop:=∀b o,H b=some o->H' b=some o
theorem ax.refl (H:Hp):ax H H:=fun _ _ h=>h
theorem ax.trans {H H1 H2:Hp}(a:ax H H1)(b:ax H1 H2):ax H H2:=fun c o h=>b c o (a c o h)
theorem ax.free {H H':Hp}(e:ax H H'){l:Addr}(h:H' l=Option.none):H l=Option.none:=by
 cases q:H l with
 |none=>rfl
 |some o=>
  rw[e l o q]at h;cases h
theorem ax.seq {K:PySem.W.Frag}{H H':Hp}{a:Addr}{xs:List V}(e:ax H H')(h:iS K H a xs):iS K H' a xs:=by
 rcases h with(h|⟨o,h⟩)|h
 ·exact .inl (.inl (e _ _ h))
 ·exact .inl (.inr ⟨o,e _ _ h⟩)
 ·exact .inr h
end L2
namespace L2
open PySem PySem.Spec PyProof.Rows
theorem sj{α β:Type}{f:α->β->Sem (ForInStep β)}{g:β->α->β}:∀(l:List α) (c:β),(∀x∈l,∀c,f x c=pure (.yield (g c x)))->forIn l c f=(pure (l.foldl g c):Sem β)
 |[],c,_=>rfl
 |x::l,c,h=>by
  rw[rH,h x aS,pure_bind];exact sj l _ fun y hy=>h y (aO _ hy)
def iM(env:Env)(cs:List (Str×Addr))(x:Str×NameKind):List (Str×Addr):=if x.2== .free then(x.1,(env.cells.lookup x.1).getD 0)::cs else cs
def vD(scope:Scope)(env:Env):List (Str×Addr):=scope.names.foldl (iM env) []
theorem jC{scope:Scope}{env:Env}(h:∀x∈scope.names,x.2=.free->∃c,env.cells.lookup x.1=some c):closureFor scope env=pure (vD scope env):=by
 simp only[closureFor];rw[sj (g:=iM env) scope.names [] (fun x hx c=>by
  obtain⟨n,k⟩:=x;by_cases hk:k=.free
  ·subst hk;obtain⟨a,ha⟩:=h _ hx rfl;have dQ:env.cells.lookup n=some a:=ha;simp[cellOf,dQ,iM]
  ·have e:(k==NameKind.free)=false:=by simpa using hk
   simp[e,iM])]
 rfl
theorem mh{env:Env}:∀(names:List (Str×NameKind)) (acc:List (Str×Addr)),(∀x∈names,x.2=.free->∃c,env.cells.lookup x.1=some c)->(∀x c,acc.lookup x=some c->env.cells.lookup x=some c)->
  ∀x c,(names.foldl (iM env) acc).lookup x=some c->env.cells.lookup x=some c
 |[],_,_,ha,x,c,e=>ha x c e
 |(n,k)::r,acc,hf,ha,x,c,e=>by
  refine mh r (iM env acc (n,k)) (fun y hy=>hf y (aO _ hy)) (fun y d ed=>?_) x c e;unfold iM at ed;by_cases hk:k=.free
  ·subst hk;obtain⟨a,hn⟩:=hf (n,.free) aS rfl;have Ig:env.cells.lookup n=some a:=hn;simp only[bB,dC,Ig,Option.getD_some,dq]at ed;split at ed
   ·rename_i hy;have:y=n:=by simpa using hy
    subst this;rw[Ig];exact ed
   ·exact ha y d ed
  ·have e:(k==NameKind.free)=false:=by simpa using hk
   simp only[e,aV,aR]at ed;exact ha y d ed
theorem mi{env:Env}:∀(names:List (Str×NameKind)) (acc:List (Str×Addr)) (x:Str),((acc.lookup x).isSome=true\/(x,NameKind.free)∈names)->((names.foldl (iM env) acc).lookup x).isSome=true
 |[],_,_,h=>h.elim (fun z=>z) fun z=>absurd z (by simp)
 |(n,k)::r,acc,x,h=>by
  refine mi r (iM env acc (n,k)) x ?_
  unfold iM;rcases h with h|h
  ·left;split
   ·rw[dq];split<;>simp_all
   ·exact h
  ·rcases aN.mp h with h|h
   ·left;cases h;simp[dq]
   ·exact .inr h
theorem mj{env:Env}:∀{names:List (Str×NameKind)} {x:Str} {k:NameKind},(names.map fun(n,k)=>if(k==NameKind.free&&env.scope.kind== .function&&env.kindOf n==some .cell)then(n,NameKind.cell)else(n,k)).lookup x=some k->
  names.lookup x=some k\/names.lookup x=some .free
 |[],_,_,h=>by simp at h
 |(n,j)::r,x,k,h=>by
  simp only[aA]at h;by_cases hx:x=n
  ·subst hx;by_cases hc:(j==NameKind.free&&env.scope.kind== .function&&env.kindOf x==some .cell)=true
   ·rw[ab hc]at h;simp only[aJ,h9]at hc;right;rw[dq,bB,hc.1.1]
   ·rw[af hc]at h;left;rw[dq,bB]at h⊢;exact h
  ·have e:(x==n)=false:=by simpa using hx
   have h':(r.map fun(n,k)=>if(k==NameKind.free&&env.scope.kind== .function&&env.kindOf n==some .cell)then(n,NameKind.cell)else(n,k)).lookup x=some k:=by
    split at h<;>(rw[dq,e]at h;exact h)
   rcases mj h' with z|z
   ·left;rw[dq,e];exact z
   ·right;rw[dq,e];exact z
theorem nW{env:Env}:∀{names:List (Str×NameKind)} {x:Str},names.lookup x=some .free->
  (names.map fun(n,k)=>if(k==NameKind.free&&env.scope.kind== .function&&env.kindOf n==some .cell)then(n,NameKind.cell)else(n,k)).lookup x=some .cell\/
  (names.map fun(n,k)=>if(k==NameKind.free&&env.scope.kind== .function&&env.kindOf n==some .cell)then(n,NameKind.cell)else(n,k)).lookup x=some .free
 |[],_,h=>by simp at h
 |(n,j)::r,x,h=>by
  simp only[aA];by_cases hx:x=n
  ·subst hx;rw[dq,bB]at h;have hj:j=.free:=Option.some.inj h;by_cases hc:(j==NameKind.free&&env.scope.kind== .function&&env.kindOf x==some .cell)=true
   ·left;rw[ab hc,dq,bB]
   ·right;rw[af hc,dq,bB,hj]
  ·have e:(x==n)=false:=by simpa using hx
   rw[dq,e]at h;rcases nW (env:=env) h with z|z
   ·left;split<;>(rw[dq,e];exact z)
   ·right;split<;>(rw[dq,e];exact z)
def mG(X:Cx)(scope:Scope)(N:List Str)(s:Shared)(H:Hp)(ex:List Addr):Cx where
 prog:=X.prog
 w:=X.w
 K:=X.K
 mg:=X.mg
 base:=X.base
 A:=X.A
 N:=N
 fb:=s
 wQ:=H
 env:=compEnvC scope (vD scope X.env) s.heap.objs.size X.env
 outer:=X.stack
 stack:=X.stack
 ex:=ex
 fn:=fun _=>false
 calm:=X.calm
 pn:=[]
 xe:=fun _ _=>False
def NF(N N':List Str)(ix:List (Option Nat))(sc scope:Scope):Bool:=
 decide (N'.length=ix.length)&&(N'.zip ix).all (fun p=>match p.2 with
  |none=>true
  |some j=>decide (N[j]?=some p.1)&&decide (scope.names.lookup p.1=some .free))&&
 scope.names.all (fun y=>y.2 != .cell&&(y.2 != .free||decide (sc.names.lookup y.1=some .cell))&&(y.2 != .local||decide (scope.names.lookup y.1=some .local)))&&(scope.kind== .function)
structure fL(X:Cx)(N':List Str)(ix:List (Option Nat))(scope:Scope):Prop where
 len:N'.length=ix.length
 free:∀(i:Nat) (x:Str) (j:Nat),N'[i]?=some x->ix[i]?=some (some j)->X.N[j]?=some x/\scope.names.lookup x=some .free
 vE:∀y∈scope.names,y.2≠ .cell
 cell:∀y∈scope.names,y.2=.free->X.env.scope.names.lookup y.1=some .cell
 loc:∀y∈scope.names,y.2=.local->scope.names.lookup y.1=some .local
 kind:scope.kind=.function
theorem fL.of {X:Cx}{N N':List Str}{ix:List (Option Nat)}{sc scope:Scope}(hN:X.N=N)(hs:X.env.scope=sc)(h:NF N N' ix sc scope=true):fL X N' ix scope:=by
 unfold NF at h;simp only[aJ,ck,bG]at h;obtain⟨⟨⟨h1,h2⟩,h3⟩,h4⟩:=h;refine⟨h1,fun i x j e1 e2=>?_,fun y hy z=>?_,fun y hy z=>?_,fun y hy z=>?_,by simpa using h4⟩
 ·have m:(x,some j)∈N'.zip ix:=bw (i:=i) (by rw[lH];exact⟨e1,e2⟩);have q:=h2 _ m;simp only[aJ,ck]at q;rw[hN];exact q
 ·have q:=(h3 y hy).1.1;rw[z]at q;simp at q
 ·have q:=(h3 y hy).1.2;rw[z]at q;simp only[gW,ny,ck]at q;rw[hs];exact q
 ·have q:=(h3 y hy).2;rw[z]at q;simp only[gW,ny,ck]at q;exact q
def fw(ix:List (Option Nat))(σ:St):St:=ix.map fun o=>o.bind fun j=>(σ[j]?).join
theorem yS{X:Cx}{N':List Str}{ix:List (Option Nat)}{scope:Scope}{pins:List (Addr×Obj)}{σ:St}{H:Hp}{s:Shared}{dP:Heap}{fp:List Addr}{tk:Nat}(L:fL X N' ix scope)(I:Inv X pins σ H s)
  (uG:dP.Ns s.heap.objs.size (fun _=>none)) (DM:∀b o,s.heap.get? b=some o->dP.get? b=some o)
  (hf:∀b∈fp,jy X pins H b) (NG:∀b∈fp,b<s.heap.objs.size):Inv (mG X scope N' s H fp) [] (fw ix σ) H {s with heap:=dP,toks:=tk}:=by
 have kK:∀y∈scope.names,y.2=.free->∃c,X.env.cells.lookup y.1=some c:=fun y hy z=>I.ok.has y.1 (.inl (L.cell y hy z));have sub:∀x c,(vD scope X.env).lookup x=some c->X.env.cells.lookup x=some c:=mh scope.names [] kK (fun x c e=>by simp at e);have has:∀x,scope.names.lookup x=some .free->∃c,(vD scope X.env).lookup x=some c:=fun x e=>
  qW.mp (mi scope.names [] x (.inr (gI e)))
 have Mj:∀b∈fp,b∉nO X.stack:=fun b hb z=>by
  obtain⟨_,f1,f2,_⟩:=hf b hb;rcases aN.mp (I.yG b z)with q|q
  ·exact f1 q
  ·exact f2 q
 refine⟨⟨I.ok.mod,L.kind,I.ok.glob,I.ok.blt,ak _,fun x y c e1 e2=>I.ok.inj x y c (sub x c e1) (sub y c e2),fun x hx=>?_,fun x c z=>absurd (show false=true from z) cP,I.ok.hd,I.ok.frames,.inl rfl,
   fun b hb=>⟨aM (NG b hb),fun x c e=>(hf b hb).2.2.2.2.1 x c (sub x c e)⟩,I.bs,bx I.ok.Ic I.sz,fun b o e hb=>?_,Mj,I.stack,I.vu⟩,
  rfl,I.bare,Un.kept DM,⟨_,uG,fun i x v e1 e2 e3=>?_⟩,fun x c e=>?_,I.fresh,fun x c e=>I.gD x c (sub x c e),fun p hp=>absurd (show p∈([]:List (Addr×Obj))from hp) (by simp),I.cp.kept DM,?_⟩
 ·have hx:(relabel scope X.env).names.lookup x=some .cell\/(relabel scope X.env).names.lookup x=some .free:=hx;have zW:scope.names.lookup x=some .free:=by
   rcases hx with z|z
   ·rcases mj z with q|q
    ·exact absurd rfl (L.vE _ (gI q))
    ·exact q
   ·rcases mj z with q|q
    ·exact q
    ·exact q
  exact has x zW
 ·obtain⟨_,_,_,q,_⟩:=hf b hb;rcases q with q|q
  ·exact I.ok.BE b o e q
  ·exact absurd (bN (ar (I.ok.bs b o e).1) q) (cX _)
 ·
  unfold fw at e2;rw[aP]at e2;cases eo:ix[i]? with
  |none=>rw[eo]at e2;cases e2
  |some o=>
   rw[eo]at e2;cases o with
   |none=>exact absurd (show(some none:Option (Option V))=some (some v)from e2) (by simp)
   |some j=>
    obtain⟨n1,n2⟩:=L.free i x j e1 eo;have Rb:(σ[j]?).join=some v:=Option.some.inj (show some ((σ[j]?).join)=some (some v)from e2);have e4:σ[j]?=some (some v):=by
     cases q:σ[j]? with
     |none=>rw[q]at Rb;cases Rb
     |some z=>
      rw[q]at Rb;have:z=some v:=Rb;rw[this]
    have wC:X.env.scope.names.lookup x=some .cell:=L.cell _ (gI n2) rfl;obtain⟨m,hn,hl⟩:=I.loc;obtain⟨u,r,l⟩:=hl j x v n1 e4 (.inr (.inl wC));refine⟨u,r,?_⟩;rcases l with⟨k,_⟩|⟨k,c,ec,z⟩
    ·have k':X.env.scope.names.lookup x=some .local:=k;rw[wC]at k';cases k'
    ·obtain⟨c',M1⟩:=has x n2;have Wz:c'=c:=by
      have q:=sub x c' M1;rw[ec]at q;exact(Option.some.inj q).symm
     subst Wz;refine .inr ⟨?_,c',M1,?_⟩
     ·exact nW n2
     ·obtain⟨o',wR,Dl⟩:=z;exact⟨o',DM _ _ wR,Dl⟩
 ·obtain⟨v,o,ho,hd⟩:=I.cell x c (sub x c e);exact⟨v,o,DM _ _ ho,hd⟩
 ·show(fw ix σ).length=N'.length;unfold fw;rw[ah];exact L.len.symm
end L2
namespace L2
open PySem PySem.Spec PyProof.Rows
abbrev Ad(ifs:List Expr)(env:Env):Sem Bool:=forIn ifs true fun c r=>if r=true then do let ok<-isTrue c env (eval c env);pure (ForInStep.yield ok)else pure (ForInStep.yield r)
section
variable {prog:Program}{w:World}{A:Around}{R:Result->Shared->Prop}{s:Shared}
theorem Gk{elt target iter:Expr}{ifs:List Expr}{scope:Scope}{pos:Pos}{it acc:Value}{env:Env}(I:Nat->Shared->Prop)
  (turn:∀n s,I n s->wpAny (model prog w) A (pyNext it) (fun r cj=>match r with
   |none=>R (.ok .next) cj
   |some v=>wpAny (model prog w) A (letOwnedTupleGo target it v) (fun _ Iv=>wpAny (model prog w) A (assign target env v) (fun _ lT=>
     wpAny (model prog w) A (Ad ifs env) (fun ok yI=>
      if ok=true then wpAny (model prog w) A (eval elt env) (fun x Gm=>
       wpAny (model prog w) A (call (.builtin "list.append") [acc,x]) (fun _ NH=>∃m,m<n/\I m NH) (fun _ _=>False) Gm) (fun _ _=>False) yI
      else∃m,m<n/\I m yI) (fun _ _=>False) lT) (fun _ _=>False) Iv) (fun _ _=>False) cj) (fun _ _=>False) s)
  (n:Nat) (h:I n s):codeAny (model prog w) A (.compLoop (.ListComp elt [⟨target,iter,ifs,0⟩] scope pos) 0 it acc env) R s:=by
 refine codeAny_loop rfl I (fun n s hI=>?_) n h;show wpAny _ A ((compTurn (.ListComp elt [⟨target,iter,ifs,0⟩] scope pos) 0 it acc env).onRaise (fun x=>do noteFrame x env;theTreesLotGoes x)) _ _ s;refine wpAny_noted ?_
 rw[compTurn_list];refine aa (wpAny_standAt (aa (c0 (turn n s hI) (fun r cj dP=>?_) fun _ _ f=>f.elim)));cases r with
 |none=>exact ae dP
 |some v=>
  refine aa (c0 dP (fun _ Iv NI=>?_) fun _ _ f=>f.elim);refine aa (c0 NI (fun _ lT kL=>aa (c0 kL (fun ok yI xf=>?_) fun _ _ f=>f.elim)) fun _ _ f=>f.elim);cases ok with
  |false=>exact ae ⟨rfl,xf⟩
  |true=>exact aa (aa (c0 xf (fun x Gm J8=>aa (c0 J8 (fun _ NH lV=>ae (ae ⟨rfl,lV⟩)) fun _ _ f=>f.elim)) fun _ _ f=>f.elim))
end
def PF(X:Cx)(ifs:List Expr)(t:TT):Prop:=
 ∀(pins:List (Addr×Obj)) (s:Shared) (σ:St) (H:Hp) (Q:Bool->Hp->Prop),Inv X pins σ H s->t σ H Q->wpAny (model X.prog X.w) X.A (Ad ifs X.env) (TP X pins σ Q) X.xe s
theorem DN{X:Cx}:PF X [] (fun _ H Q=>Q true H):=fun _ _ _ H _ I h=>wpAny_tests_nil ⟨H,I,h⟩
theorem J9{X:Cx}{c:Expr}{t:TT}(h:PT X c t):PF X [c] t:=fun pins s σ H Q I q=>wpAny_tests_one (h pins s σ H Q I q)
def SV(J:It)(D:Addr)(Rc:St)(H0:Hp)(g:TG)(tc:TT)(te:TE)(Q:Hp->Prop):Prop:=
 ∃W:Nat->Nat->St->Hp->Prop,(∃m,W 0 m Rc H0)/\∀i m σ H,W i m σ H->(J.stop i H/\Q H)\/
  (J.go i H/\∃N:St->Hp->Prop,(∀cf H',N cf H'->∃m',m'<m/\W (i+1) m' cf H')/\∀x H',J.zZ i H x H'->g x σ H' fun rX H2=>tc rX H2 fun b H3=>
    if b=true then te rX H3 fun y H4=>∃ys,H4 D=some (.lst ys)/\ys.length<sizeLine/\N rX (upd H4 D (.lst (ys++[y])))else N rX H3)
def J_(wi:TI)(ix:List (Option Nat))(g:TG)(tc:TT)(te:TE):TE:=fun σ H Q=>wi σ H fun J H1=>∀D,H1 D=none->SV J D (fw ix σ) (upd H1 D (.lst [])) g tc te fun H'=>Q (.ref D) H'
section
variable {X:Cx}{scope:Scope}{N':List Str}{ix:List (Option Nat)}{tg iter elt:Expr}{ifs:List Expr}{pos:Pos}{g:TG}{tc:TT}{te:TE}
theorem Ae{use:Option (Value->Sem Unit)}{Qf:Value->Shared->Prop}{QD:Addr->Hp->Prop}{pins:List (Addr×Obj)}{s2:Shared}{σ:St}{H2:Hp}{it:Addr}{fp:List Addr}{tn:Nat->Heap->Prop}{J:It}
  (L:fL X N' ix scope) (hc:X.calm=true) (j1:∀s H ex,PG (mG X scope N' s H ex) tg g/\PF (mG X scope N' s H ex) ifs tc/\PE (mG X scope N' s H ex) elt te)
  (I2:Inv X pins σ H2 s2) (T:Turn X.prog X.w X.K tg J fp it tn) (F6:tn 0 s2.heap) (f2:∀b∈fp,jy X pins H2 b)
  (hw:∀D,H2 D=none->SV J D (fw ix σ) (upd H2 D (.lst [])) g tc te (QD D))
  (SW:∀D C H' s' m,Inv X pins σ H' s'->jy X pins H' C->s'.heap.Ns C m->QD D H'->compPost (model X.prog X.w) X.A X.xe use Qf (.ref D) C (.ok .next) s'):
  wpAny (model X.prog X.w) X.A (newList []) (fun acc yI=>wpAny (model X.prog X.w) X.A (newFunctionEnv scope X.env.globals (vD scope X.env) [] X.env.qual none .none (some X.env)) (fun NJ Gm=>
   codeAny (model X.prog X.w) X.A (.compStart (.ListComp elt [⟨tg,iter,ifs,0⟩] scope pos) 0 (.ref it) acc {NJ with scope:=relabel scope X.env}) (compPost (model X.prog X.w) X.A X.xe use Qf acc NJ.locals) Gm) X.xe yI) X.xe s2:=by
 refine fX (wpAny_newFunctionEnv L.vE (by intro y hy;simp at hy) (fun dP yT yU=>?_) L.kind);dsimp only at yT yU⊢;have hD:H2 s2.heap.objs.size=none:=I2.fresh;have I3:Inv X pins σ (upd H2 s2.heap.objs.size (.lst [])) {s2 with heap:=s2.heap.push {cls:=.type "list",data:=.seq ([]:List Value).toArray},toks:=s2.toks}:=I2.JW (aZ:=[]) .nil (bP _);generalize WA:({s2 with heap:=s2.heap.push {cls:=.type "list",data:=.seq ([]:List Value).toArray},toks:=s2.toks}:Shared)=s3 at I3;have e3:({s2 with heap:=s2.heap.push {cls:=.type "list",dict:=none,data:=.seq ([]:List Value).toArray}}:Shared)=s3:=WA;have eh:s2.heap.push {cls:=.type "list",dict:=none,data:=.seq ([]:List Value).toArray}=s3.heap:=bJ Shared.heap e3;have WB:s3.os=s2.os:=by rw[<-e3]
 have ek:∀b o,s2.heap.get? b=some o->s3.heap.get? b=some o:=fun b o e=>by rw[<-eh];exact aC _ e
 have J':s2.heap.objs.size<=s3.heap.objs.size:=by rw[<-eh,gc];exact hZ _
 rw[eh]at yT yU⊢;have f3:∀b∈fp,jy X pins (upd H2 s2.heap.objs.size (.lst [])) b:=fun b hb=>by
  obtain⟨o,eo,_⟩:=T.obj _ _ F6 b hb;refine⟨?_,(f2 b hb).2⟩;rw[aj (aM (ar eo))];exact(f2 b hb).1
 have Ib:∀b∈fp,b<s3.heap.objs.size:=fun b hb=>by
  obtain⟨o,eo,_⟩:=T.obj _ _ F6 b hb;exact bN (ar eo) J'
 have k4:∀b o,s3.heap.get? b=some o->dP.get? b=some o:=fun b o e=>yU.extBut b o (aM (ar e)) (aC _ e);have Vs:tn 0 dP:=T.keep _ _ _ F6 fun b _ o e=>k4 b o (ek b o e);obtain⟨W,⟨m0,w0⟩,turn⟩:=hw s2.heap.objs.size hD;have I4:∀tk,Inv (mG X scope N' s3 (upd H2 s2.heap.objs.size (.lst [])) fp) [] (fw ix σ) (upd H2 s2.heap.objs.size (.lst [])) {s3 with heap:=dP,toks:=tk}:=fun tk=>
  yS L I3 yT k4 f3 Ib
 obtain⟨hg,hf,he⟩:=j1 s3 (upd H2 s2.heap.objs.size (.lst [])) fp;have yM:∀{H':Hp},(∀b∈fp,H' b=none)->∀b∈fp,jy (mG X scope N' s3 (upd H2 s2.heap.objs.size (.lst [])) fp) [] H' b:=fun{H'} hn b hb=>by
  have ok:=(I4 0).ok;obtain⟨x1,x2⟩:=ok.R1 b hb;exact⟨hn b hb,x1,ok.Di b hb,.inl hb,x2,fun p hp=>absurd (show p∈([]:List (Addr×Obj))from hp) (by simp)⟩
 have loop:∀tk,codeAny (model X.prog X.w) X.A (.compLoop (.ListComp elt [⟨tg,iter,ifs,0⟩] scope pos) 0 (.ref it) (.ref s2.heap.objs.size) (compEnvC scope (vD scope X.env) s3.heap.objs.size X.env))
   (compPost (model X.prog X.w) X.A X.xe use Qf (.ref s2.heap.objs.size) s3.heap.objs.size) {s3 with heap:=dP,toks:=tk}:=fun tk=>by
  refine Gk (fun n s'=>∃i cf H',Inv (mG X scope N' s3 (upd H2 s2.heap.objs.size (.lst [])) fp) [] cf H' s'/\tn i s'.heap/\(∀b∈fp,H' b=none)/\W i n cf H') ?_ m0
   ⟨0,_,_,I4 tk,Vs,fun b hb=>(f3 b hb).1,w0⟩
  rintro n s5 ⟨i,Rf,H5,I5,Mo,Q6,w5⟩
  rcases turn i n Rf H5 w5 with⟨stop,qn⟩|⟨go,N,hN,step⟩
  ·refine eE (T.done (mG X scope N' s3 (upd H2 s2.heap.objs.size (.lst [])) fp) rfl rfl rfl hc i [] s5 Rf H5 _ I5 (yM Q6) Mo stop) fun r s6 ⟨hr,I6⟩=>?_
   subst hr;have u:Un (nO X.stack) fp H2 H5 s2.heap s6.heap:=(Un.laid (o:=.lst []) ek (ak _) hD).trans I6.base;have J6:Inv X pins σ H5 s6:=I2.M3 (ch:=fp) (I6.os.trans WB) u I6.cp I6.bare fun b hb=>by
    obtain⟨_,x1,_,x3,x4,x5⟩:=f2 b hb;exact⟨x3,x1,x4,x5⟩
   obtain⟨m,hm,_⟩:=I6.loc;exact SW _ _ H5 s6 m J6 (I2.ua J' I6.free) hm qn
  ·refine eE (T.item (mG X scope N' s3 (upd H2 s2.heap.objs.size (.lst [])) fp) rfl rfl rfl hc i [] s5 Rf H5 _ I5 (yM Q6) Mo go) fun r s6 ⟨v,hr,h6⟩=>?_
   subst hr;refine eE h6 fun _ s7 ⟨x,H7,I7,r7,y7,SX,WC⟩=>?_
   have WD:=I7.pinned (yM WC) (T.obj _ _ SX);refine eE (hg _ s7 Rf H7 x v _ WD r7 (step x H7 y7)) fun _ s8 ⟨Rg,H8,I8,q8⟩=>?_
   have again:∀{NK:St} {H9:Hp} {s9:Shared},Inv (mG X scope N' s3 (upd H2 s2.heap.objs.size (.lst [])) fp) ([]++rY fp s7.heap) NK H9 s9->N NK H9->
     ∃m,m<n/\∃i cf H',Inv (mG X scope N' s3 (upd H2 s2.heap.objs.size (.lst [])) fp) [] cf H' s9/\tn i s9.heap/\(∀b∈fp,H' b=none)/\W i m cf H':=fun{NK H9 s9} I9 n9=>by
    obtain⟨m',hm,w9⟩:=hN NK H9 n9;refine⟨m',hm,i+1,NK,H9,I9.nQ,T.keep _ _ _ SX fun b hb o e=>(I9.pin (b,o) (fi _ (fi _ (jz hb e)))).1,fun b hb=>?_,w9⟩;obtain⟨o,e,d⟩:=T.obj _ _ SX b hb;exact(I9.pin (b,o) (fi _ (fi _ (jz hb e)))).2.1
   refine eE (hf _ s8 Rg H8 _ I8 q8) fun ok s9 ⟨H9,I9,q9⟩=>?_
   cases ok with
   |false=>exact again I9 q9
   |true=>
    refine eE (he _ s9 Rg H9 _ I9 q9) fun y SY ⟨v10,WE,WG,WH,ys,hy,hz,WI⟩=>?_
    refine eE (eX _ SY Rg WE (.ref s2.heap.objs.size) [v10] (.ref s2.heap.objs.size) [y] (fun _ H'=>N Rg H') WG rfl (.cons WH .nil) ⟨_,ys,v10,rfl,rfl,hy,hz,WI⟩) fun _ YN ⟨_,YO,WJ,_,WK⟩=>?_
    exact again WJ WK
 have es:∀tk,({s2 with heap:=dP,toks:=tk}:Shared)={s3 with heap:=dP,toks:=tk}:=fun tk=>by rw[<-e3]
 have Iw:∀tk,codeAny (model X.prog X.w) X.A (.compLoop (.ListComp elt [⟨tg,iter,ifs,0⟩] scope pos) 0 (.ref it) (.ref s2.heap.objs.size) (compEnvC scope (vD scope X.env) s3.heap.objs.size X.env))
   (compPost (model X.prog X.w) X.A X.xe use Qf (.ref s2.heap.objs.size) s3.heap.objs.size) {s2 with heap:=dP,toks:=tk}:=fun tk=>by
  rw[es tk];exact loop tk
 exact codeAny_compStart_list (Iw _) (T.self _ 0 _ _ _ Vs (Iw _))
theorem Af{wi:TI}(L:fL X N' ix scope)(hc:X.calm=true)(hi:PI X tg iter wi)(j1:∀s H ex,PG (mG X scope N' s H ex) tg g/\PF (mG X scope N' s H ex) ifs tc/\PE (mG X scope N' s H ex) elt te)
  (hs:∀x,foldedSetIterable iter X.env x=pure x:=by intro _;rfl):PE X (.ListComp elt [⟨tg,iter,ifs,0⟩] scope pos) (J_ wi ix g tc te):=by
 intro pins s σ H Q I h;have kK:∀y∈scope.names,y.2=.free->∃c,X.env.cells.lookup y.1=some c:=fun y hy z=>I.ok.has y.1 (.inl (L.cell y hy z));rw[eval_ListComp];refine wpAny_comprehension_free (use:=none) rfl hs (jC kK) L.kind L.loc (eE (hi pins s σ H _ I h) fun v s1 h1=>eE h1 fun Q3 s2 h2=>?_);obtain⟨it,fp,tn,J,H2,e,I2,T,F6,f2,hw⟩:=h2;subst e;refine Ae (QD:=fun D H'=>Q (.ref D) H') L hc j1 I2 T F6 f2 hw fun D C H' s' m I' fC hm q=>⟨m,hm,fun h' DM=>?_⟩;obtain⟨x0,x1,x2,x3,x4,x5⟩:=fC;exact⟨.ref D,H',I'.turned (t':=s'.toks) (fun b o hb e=>(DM.2 b hb).trans e) x0 x1 x3 x4 x5,rfl,q⟩
theorem sk{wi:TI}{i:Nat}{x:Str}{px jf:Pos}(L:fL X N' ix scope)(hc:X.calm=true)(hN:X.N.Nodup)(hi:X.N[i]?=some x)(hx:Loc X.env.scope x)(hit:PI X tg iter wi)
  (j1:∀s H ex,PG (mG X scope N' s H ex) tg g/\PF (mG X scope N' s H ex) ifs tc/\PE (mG X scope N' s H ex) elt te)
  (BO:swapsWith (.ListComp elt [⟨tg,iter,ifs,0⟩] scope pos) (some (.Name x px)) jf.line X.env=pure true:=by rfl)
  (hs:∀x,foldedSetIterable iter X.env x=pure x:=by intro _;rfl) (hf:X.fn x=true\/X.env.scope.names.lookup x=some .local:=by first|exact .inl rfl|exact .inr rfl|assumption):
  PS X (.Assign [.Name x px] (.ListComp elt [⟨tg,iter,ifs,0⟩] scope pos) jf) (fun D σ H=>J_ wi ix g tc te σ H fun v H'=>D.nx (σ.set i (some v)) H'):=by
 intro pins s σ H D I h;have kK:∀y∈scope.names,y.2=.free->∃c,X.env.cells.lookup y.1=some c:=fun y hy z=>I.ok.has y.1 (.inl (L.cell y hy z));rw[exec_Assign_Name_used _ _ _ _ BO];refine aa (wpAny_standAt (aa ?_));show wpAny _ X.A (do let _<-comprehension (.ListComp elt [⟨tg,iter,ifs,0⟩] scope pos) scope X.env _ (newList []) false (eval iter X.env) (some (assign (.Name x px) X.env))) _ _ s;refine aa (c0 (wpAny_comprehension_free (use:=some (assign (.Name x px) X.env)) (Q:=fun _ s'=>SP X pins D .next s') rfl hs (jC kK) L.kind L.loc
  (eE (hit pins s σ H _ I h) fun v s1 h1=>eE h1 fun Q3 s2 h2=>?_)) (fun _ s' hq=>ae (ae hq)) fun _ _ e=>e)
 obtain⟨it,fp,tn,J,H2,e,I2,T,F6,f2,hw⟩:=h2;subst e;refine Ae (QD:=fun Dd H'=>D.nx (σ.set i (some (.ref Dd))) H') L hc j1 I2 T F6 f2 hw fun Dd C H' s' m I' fC hm q=>?_
 obtain⟨x0,x1,x2,x3,x4,x5⟩:=fC;show wpAny _ X.A (assign (.Name x px) X.env (.ref Dd)) _ _ _;refine wpAny_assign_Name (uw I' hN hi hx (v:=.ref Dd) rfl (fun FH WL uv=>?_) hf);obtain⟨a,DM,ha⟩:=uv;have WM:C≠a:=by
  rcases ha with ha|ha
  ·rw[ha];exact x1
  ·exact fun z=>x4 _ _ ha z.symm
 refine⟨m,hm.sameBut DM WM,fun h' S0=>?_⟩;exact⟨_,H',WL.turned (t':=FH.toks) (fun b o hb e=>(S0.2 b hb).trans e) x0 x1 x3 x4 x5,q⟩
end
end L2
namespace L2
open PySem PySem.Spec PyProof.Rows
def Rh(z:Str):It:=⟨fun i _=>i<z.cps.size,fun i H x H'=>H'=H/\∃c,z.cps[i]?=some c/\x=.str ⟨#[c]⟩,fun i _=>i=z.cps.size⟩
theorem xg{P:Program}{w:World}{K:PySem.W.Frag}{tg:Expr}{z:Str}{t:Tok}{it:Addr}{n:String}(hn:["enumerate","zip","dict_itemiterator","dict_reverseitemiterator","odict_iterator","itertools.zip_longest","itertools.pairwise"].contains n=false)
  (W:∀A':Around,A'.handled=none->Walks P w A' it [it] [it] z.cps.size (SignAt z) (fun i h=>h.IsStrIter it n z t i))
  (self:∀(A:Around) (i:Nat) (s:Shared) (Q:Value->Shared->Prop) (E:Value->Shared->Prop),s.heap.IsStrIter it n z t i->Q (.ref it) s->wpAny (model P w) A (pyIter (.ref it)) Q E s):
  Turn P w K tg (Rh z) [it] it (fun i h=>h.IsStrIter it n z t i) where
 mem:=by simp
 obj:=fun i h st b hb=>by
  have e:b=it:=by simpa using hb
  subst e;obtain⟨o,e,c,d⟩:=st;exact⟨o,e,fun v q=>by rw[d]at q;cases q⟩
 keep:=fun i h h' st k=>by
  obtain⟨o,e,c,d⟩:=st;exact⟨o,k it (by simp) o e,c,d⟩
 item:=by
  intro X hP hw hK hc i pins s σ H E I hf st hg;subst hP hw hK;obtain⟨f0,f1,f2,f3,f4,f5⟩:=hf it (by simp);refine(W X.A (I.ok.hd hc)).item i s _ _ hg st fun v h' tk hv uc kk=>?_
  obtain⟨c,u,WN,rfl⟩:=hv;have I1:Inv X pins σ H {s with heap:=h',toks:=tk}:=I.turned (fun b o hb e=>kk b o (by simpa using hb) e) f0 f1 f3 f4 f5;obtain⟨o,e,cl,d⟩:=id uc;exact⟨_,rfl,wW (s:={s with heap:=h',toks:=tk}) e cl d hn ⟨.str ⟨#[c]⟩,H,I1,⟨u,rfl⟩,⟨rfl,c,WN,rfl⟩,uc,fun b hb=>(hf b hb).1⟩⟩
 done:=by
  intro X hP hw hK hc i pins s σ H E I hf st hg;subst hP hw hK;obtain⟨f0,f1,f2,f3,f4,f5⟩:=hf it (by simp);have e:i=z.cps.size:=hg;subst e;exact(W X.A (I.ok.hd hc)).done s _ _ st fun h' tk kk=>⟨rfl,I.turned (fun b o hb e=>kk b o (by simpa using hb) e) f0 f1 f3 f4 f5⟩
 self:=self
theorem iS.upd {K:PySem.W.Frag}{H:Hp}{D a:Addr}{xs:List V}{o:HO}(hD:H D=none)(h:iS K H a xs):iS K (upd H D o) a xs:=by
 rcases h with(h|⟨ob,h⟩)|h
 ·exact .inl (.inl (by rw[aj (aQ h hD)];exact h))
 ·exact .inl (.inr ⟨ob,by rw[aj (aQ h hD)];exact h⟩)
 ·exact .inr h
theorem ir.upd {K:PySem.W.Frag}{H:Hp}{D a:Addr}{xs:List V}{o:HO}(hD:H D=none)(h:ir K H a xs):ir K (upd H D o) a xs:=by
 rcases h with(h|⟨ob,h⟩)|h
 ·exact .inl (.inl (by rw[aj (aQ h hD)];exact h))
 ·exact .inl (.inr ⟨ob,by rw[aj (aQ h hD)];exact h⟩)
 ·exact .inr h
section
variable {X:Cx}
theorem Ka:t4 X (compareOp .Is) (fun x y H Q=>∃c d,x=.bl c/\y=.bl d/\Q (.bl (c==d)) H):=by
 intro pins s σ H x y v u Q I rx ry h;obtain⟨c,d,rfl,rfl,q⟩:=h;cases rx;cases ry;exact is_bool (yN I q rfl)
theorem Gn:t4 X (binaryOp .Mult) (fun x y H Q=>∃z n,x=.str z/\y=.int n/\MulOk z n/\Q (.str (Txt.mul z n)) H):=by
 intro pins s σ H x y v u Q I rx ry h;obtain⟨z,n,rfl,rfl,cp,q⟩:=h;obtain⟨t,rfl⟩:=rx;obtain⟨t',rfl⟩:=ry;exact SB.mul cp fun t' k=>⟨.str _,H,I.tok _,⟨_,rfl⟩,q⟩
theorem DO(hc:X.calm=true):gm X (.builtin "all") (fun xs H Q=>∃(p:Addr) (bs:List Bool),xs=[.ref p]/\iS X.K H p (bs.map V.bl)/\Q (.bl (bs.all id)) H):=by
 intro pins s σ H xs us Q I r h;obtain⟨p,bs,rfl,hl,q⟩:=h;obtain⟨u,rfl,ru⟩:=vals1 r;cases(show u=Value.ref p from ru);obtain⟨aZ,rv,pl,hz⟩:=I.list hl;have hb:aZ=bs.map Value.bool:=by
  clear hz pl hl q I
  induction bs generalizing aZ with
  |nil=>cases rv;rfl
  |cons b r ih=>
   cases rv with
   |cons r1 r2=>
    rw[aA,<-ih _ (by exact r2)];cases(show _=Value.bool b from r1)
    rfl
 subst hb;have eG:p<s.heap.objs.size:=by obtain⟨o,n,e,_⟩:=pl;exact ar e
 refine call_all_walk (i6 pl.isList ?_);refine⟨s.heap.objs.size,[s.heap.objs.size,p],[s.heap.objs.size],(bs.map Value.bool).toArray.size,_,_,fun i=>(bs[i]?).getD true,rfl,Walks.list (A:=X.A.in1) (I.ok.hd hc) _ p (aM eG) _,
  ⟨⟨_,aU _ rfl,rfl,rfl⟩,pl.isList.push _⟩,fun i v s' Q' E' hP hQ=>?_,fun h' tk hk=>?_⟩
 ·have NL:(bs.map Value.bool)[i]?=some v:=by simpa using hP
  rw[aP]at NL;cases eb:bs[i]? with
  |none=>rw[eb]at NL;cases NL
  |some b=>
   rw[eb]at NL;cases NL;simp only[eb,Option.getD_some]at hQ;exact nc hQ
 ·have e:((List.range (bs.map Value.bool).toArray.size).all fun i=>(bs[i]?).getD true)=bs.all id:=by
   rw[bf,ah];exact LSm.range_all bs
  rw[e];exact⟨.bl _,H,I.kept (LSm.kept_iter hk),rfl,q⟩
end
end L2
namespace L2
open PySem PySem.Spec PyProof.Rows
theorem ax.tup {K:PySem.W.Frag}{H H':Hp}{a:Addr}{xs:List V}(e:ax H H')(h:ir K H a xs):ir K H' a xs:=by
 rcases h with(h|⟨o,h⟩)|h
 ·exact .inl (.inl (e _ _ h))
 ·exact .inl (.inr ⟨o,e _ _ h⟩)
 ·exact .inr h
theorem ax.upd {H:Hp}{D:Addr}{o:HO}(hD:H D=none):ax H (upd H D o):=fun b u e=>by rw[aj (aQ e hD)];exact e
theorem ax.Kb {H H':Hp}{D:Addr}{o:HO}(s:ax H H')(hD:H D=none):ax H (L2.upd H' D o):=fun b u e=>by rw[aj (aQ e hD)];exact s b u e
structure uH(K:PySem.W.Frag)(mg:Str->Option Value)(x:Str)(st:Stmt)(ps:List Str)(f:Addr)(fd:FuncData):Prop where
 fn:uf K x x st f fd
 bd:Binds K fd ps []
 mg:mg x=some (.ref f)
theorem Kc{X:Cx}{x:Str}{st:Stmt}{ps:List Str}{f:Addr}{fd:FuncData}{k:Nat}{sp:Sp}{e:Expr}{es:List Expr}{t:TA}{p pos:Pos}(D:uH X.K X.mg x st ps f fd)(G:ia X.prog X.w X.K X.mg X.base oS k f fd ps sp)(hr:dE k X.A)
  (ha:PA X (e::es) t) (hg:Gl X x:=by rfl) (jA:(x==("__debug__":Str))=false:=by decide) (he:starEach (e::es) X.env=(false,eval e X.env)::starEach es X.env:=by rfl)
  (oX:(backTo pos (starEach es X.env)).any (·.1)=false:=by rfl):PE X (.Call (.Name x p) (e::es) [] pos) (Ij sp [] E0 t):=by
 have q:=z7 (p:=p) (pos:=pos) G hr hg D.mg D.fn.kp D.bd .nil ND ha (jA:=jA) (he:=he) (oX:=oX);exact q
end L2
namespace L2
open PySem PySem.Spec PyProof.Rows
section
variable {X:Cx}
theorem xh:∀{cs:List String} {us:List Value},Vals (cs.map V.ty) us->us=cs.map Value.type
 |[],_,.nil=>rfl
 |c::cs,_,.cons r t=>by
  rw[xh t];cases(show _=Value.type c from r)
  rfl
theorem o4{h:Heap}{p:Addr}{aZ:Array Value}(ht:h.IsTuple p aZ):∃dd n sl,h.get? p=some ⟨.type "tuple",dd,.seq aZ n,sl⟩:=by
 obtain⟨⟨cls,dd,data,sl⟩,h1,h2,n,h3⟩:=ht;dsimp only at h2 h3;subst h2 h3;exact⟨dd,n,sl,h1⟩
theorem BP:gm X (.builtin "isinstance") (fun xs H Q=>∃(x:V) (p:Addr) (cs:List String) (t:Value) (b:Bool),xs=[x,.ref p]/\Iq x=true/\ir X.K H p (cs.map V.ty)/\nU X.K H x t/\PySem.W.kitAny X.K t (cs.map Value.type)=some b/\Q (.bl b) H):=by
 intro pins s σ H xs us Q I r h;obtain⟨x,p,cs,t,b,rfl,fx,hp,ty,e,q⟩:=h;obtain⟨u,v,rfl,ru,rv⟩:=vals2 r;cases(show v=Value.ref p from rv);obtain⟨aZ,r1,p1,_⟩:=I.tuple hp;obtain⟨dd,n,sl,hg⟩:=o4 p1;cases xh r1;have fin:∀tk,EP X pins σ Q (.bool b) {s with toks:=tk}:=fun tk=>⟨.bl b,H,I.tok _,rfl,q⟩;cases ty with
 |cD=>
  cases(show u=Value.none from ru);exact ng PySem.W.kitx_none I.qe .intro hg e (by simp) fin
 |bl y=>
  cases(show u=Value.bool y from ru);exact ng PySem.W.kitx_bool I.qe .intro hg e (by simp) fin
 |int i=>
  obtain⟨t,rfl⟩:=(show∃t,u=Value.int i t from ru);exact ng PySem.W.kitx_int I.qe .intro hg e (by simp) fin
 |str y=>
  obtain⟨t,rfl⟩:=(show∃t,u=Value.str y t from ru);exact ng PySem.W.kitx_str I.qe .intro hg e (by simp) fin
 |_=>exact absurd (show false=true from fx) cP
end
end L2
namespace L2
open PySem PySem.Spec PyProof.Rows
inductive Tr where
 |cD|bl (b:Bool)|int (i:Int)|str (z:Str)|ty (n:String)
 |gB (ns:List Int)|tup (ts:List Tr)|lst (ts:List Tr)|kN (aD:List (Key×Tr))|at(i:Nat)
 |bj (aD:List (List Key×Tr))|ob (x:Str) (fs:List (Str×Tr))|Ag (x:Str)
def jg:Nat:=1000000
def clsAt(K:PySem.W.Frag)(x:Str):Addr:=match PySem.W.nsIn K mainGlobals x with
 |some (some (.ref C))=>C
 |_=>0
structure Vw where
 H:Hp
 ix:Addr->Option Nat
instance:Coe Vw Hp:=⟨Vw.H⟩
instance:CoeFun Vw (fun _=>Addr->Option HO):=⟨Vw.H⟩
structure cJ(W W':Vw):Prop where
 h:ax W.H W'.H
 x:∀a i,W.ix a=some i->W'.ix a=some i
theorem cJ.refl (W:Vw):cJ W W:=⟨ax.refl _,fun _ _ e=>e⟩
theorem cJ.trans {W W1 W2:Vw}(a:cJ W W1)(b:cJ W1 W2):cJ W W2:=⟨a.h.trans b.h,fun c i e=>b.x c i (a.x c i e)⟩
mutual
inductive Rep(K:PySem.W.Frag)(H:Vw):V->Tr->Prop where
 |cD:Rep K H .cD .cD
 |bl (b:Bool):Rep K H (.bl b) (.bl b)
 |int (i:Int):Rep K H (.int i) (.int i)
 |str (z:Str) (h:z.length<=jg):Rep K H (.str z) (.str z)
 |ty (n:String):Rep K H (.ty n) (.ty n)
 |gB {a:Addr} {ns:List Int} (h:iS K H.H a (ns.map V.int)):Rep K H (.ref a) (.gB ns)
 |tup {a:Addr} {vs:List V} {ts:List Tr} (h:H.H a=some (.tup vs)) (r:aK K H vs ts):Rep K H (.ref a) (.tup ts)
 |lst {a:Addr} {vs:List V} {ts:List Tr} (h:H.H a=some (.lst vs)) (r:aK K H vs ts):Rep K H (.ref a) (.lst ts)
 |kN {a:Addr} {aw:List (Key×V)} {aD:List (Key×Tr)} (h:Rd H.H a (.dK aw)) (e:aw.map (·.1)=aD.map (·.1)) (r:aK K H (aw.map (·.2)) (aD.map (·.2))):Rep K H (.ref a) (.kN aD)
 |at{a:Addr} {i:Nat} (h:H.ix a=some i):Rep K H (.ref a) (.at i)
 |bj {a:Addr} {aw:List (List Key×V)} {aD:List (List Key×Tr)} (h:Rd H.H a (.dT aw)) (e:aw.map (·.1)=aD.map (·.1)) (r:aK K H (aw.map (·.2)) (aD.map (·.2))):Rep K H (.ref a) (.bj aD)
 |ob {a dx:Addr} {x:Str} {wD:List (Str×V)} {fs:List (Str×Tr)} (h:H.H a=some (.ins (clsAt K x) dx wD)) (e:wD.map (·.1)=fs.map (·.1)) (r:aK K H (wD.map (·.2)) (fs.map (·.2))):Rep K H (.ref a) (.ob x fs)
 |Ag {a:Addr} {oe:Obj} {x:Str} (h:H.H a=some (.ext fun h=>h.get? a=some oe)) (c:oe.cls=.ref (clsAt K x)):Rep K H (.ref a) (.Ag x)
inductive aK(K:PySem.W.Frag)(H:Vw):List V->List Tr->Prop where
 |nil:aK K H [] []
 |cons {v:V} {t:Tr} {vs:List V} {ts:List Tr} (h:Rep K H v t) (r:aK K H vs ts):aK K H (v::vs) (t::ts)
end
section
theorem Rd.same {H H':Hp}{a:Addr}{u:HO}(s:ax H H')(h:Rd H a u):Rd H' a u:=by
 rcases h with h|⟨o,h⟩
 ·exact .inl (s _ _ h)
 ·exact .inr ⟨o,s _ _ h⟩
variable {K:PySem.W.Frag}{H H':Vw}
theorem Rep.same (s:cJ H H'){v:V}{t:Tr}(h:Rep K H v t):Rep K H' v t:=by
 refine Rep.rec (motive_1:=fun v t _=>Rep K H' v t) (motive_2:=fun vs ts _=>aK K H' vs ts) ?_ ?_ ?_ ?_ ?_ ?_ ?_ ?_ ?_ ?_ ?_ ?_ ?_ ?_ ?_ h
 ·exact .cD
 ·exact fun b=>.bl b
 ·exact fun i=>.int i
 ·exact fun z h=>.str z h
 ·exact fun n=>.ty n
 ·exact fun h=>.gB (s.h.seq h)
 ·exact fun h _ r=>.tup (s.h _ _ h) r
 ·exact fun h _ r=>.lst (s.h _ _ h) r
 ·exact fun h e _ r=>.kN (Rd.same s.h h) e r
 ·exact fun h=>.at (s.x _ _ h)
 ·exact fun h e _ r=>.bj (Rd.same s.h h) e r
 ·exact fun h e _ r=>.ob (s.h _ _ h) e r
 ·exact fun h c=>.Ag (s.h _ _ h) c
 ·exact .nil
 ·exact fun _ _ h r=>.cons h r
theorem aK.same (s:cJ H H'):∀{vs:List V} {ts:List Tr},aK K H vs ts->aK K H' vs ts
 |[],_,h=>by cases h;exact .nil
 |_::_,_,h=>by cases h with|cons h r=>exact .cons (h.same s) (aK.same s r)
theorem aK.length:∀{vs:List V} {ts:List Tr},aK K H vs ts->vs.length=ts.length
 |[],_,h=>by cases h;rfl
 |_::_,_,h=>by cases h with|cons h r=>rw[br,br,aK.length r]
theorem aK.get:∀{vs:List V} {ts:List Tr} {i:Nat} {t:Tr},aK K H vs ts->ts[i]?=some t->∃v,vs[i]?=some v/\Rep K H v t
 |[],_,i,t,h,e=>by cases h;simp at e
 |_::_,_,0,t,h,e=>by cases h with|cons h r=>simp at e;subst e;exact⟨_,rfl,h⟩
 |_::_,_,i+1,t,h,e=>by
  cases h with
  |cons h r=>
   obtain⟨v,e1,r1⟩:=aK.get (i:=i) (t:=t) r (by simpa using e);exact⟨v,by simpa using e1,r1⟩
theorem aK.xi:∀{vs:List V} {ts:List Tr} {i:Nat} {v:V},aK K H vs ts->vs[i]?=some v->∃t,ts[i]?=some t/\Rep K H v t
 |[],_,i,t,h,e=>by simp at e
 |_::_,_,0,t,h,e=>by cases h with|cons h r=>simp at e;subst e;exact⟨_,rfl,h⟩
 |_::_,_,i+1,t,h,e=>by
  cases h with
  |cons h r=>
   obtain⟨v,e1,r1⟩:=aK.xi (i:=i) r (by simpa using e);exact⟨v,by simpa using e1,r1⟩
theorem aK.append:∀{vs ws:List V} {ts us:List Tr},aK K H vs ts->aK K H ws us->aK K H (vs++ws) (ts++us)
 |[],_,_,_,h,q=>by cases h;exact q
 |_::_,_,_,_,h,q=>by cases h with|cons h r=>exact .cons h (aK.append r q)
theorem aK.take:∀{vs:List V} {ts:List Tr} (n:Nat),aK K H vs ts->aK K H (vs.take n) (ts.take n)
 |_,_,0,_=>by rw[List.take_zero,List.take_zero];exact .nil
 |[],_,_+1,h=>by cases h;exact .nil
 |_::_,_,n+1,h=>by cases h with|cons h r=>exact .cons h (aK.take n r)
theorem aK.drop:∀{vs:List V} {ts:List Tr} (n:Nat),aK K H vs ts->aK K H (vs.drop n) (ts.drop n)
 |_,_,0,h=>h
 |[],_,_+1,h=>by cases h;exact .nil
 |_::_,_,n+1,h=>by cases h with|cons h r=>exact aK.drop n r
theorem aK.rep {vs:List V}{ts:List Tr}(h:aK K H vs ts):∀n:Nat,aK K H (List.replicate n vs).flatten (List.replicate n ts).flatten
 |0=>.nil
 |n+1=>by
  rw[gV,gV,iX,iX];exact h.append (aK.rep h n)
end
structure bZ where
 hd:Addr->Bool
 ix:Addr->Option Nat
instance:CoeFun bZ (fun _=>Addr->Bool):=⟨bZ.hd⟩
def aT(B:bZ)(H:Hp):Vw:=⟨fun b=>if B.hd b=true then none else H b,B.ix⟩
def HB(B:bZ)(H:Hp):Prop:=∀b,B.hd b=true->∃o,H b=some o/\∀vs,o≠ .tup vs
section
variable {B B':bZ}{H H':Hp}
theorem c_{b:Addr}(h:B.hd b=false):(aT B H).H b=H b:=by show(if B.hd b=true then none else H b)=_;rw[h,af cP]
theorem aE:ax (aT B H).H H:=fun b o (e:(if B.hd b=true then none else H b)=some o)=>by
 split at e
 ·cases e
 ·exact e
theorem bc(s:ax H H'):cJ (aT B H) (aT B H'):=⟨fun b o (e:(if B.hd b=true then none else H b)=some o)=>by
 show(if B.hd b=true then none else H' b)=some o;split at e
 ·cases e
 ·rw[af (by assumption)];exact s b o e,fun _ _ e=>e⟩
def raw(B:bZ)(H:Hp):Vw:=⟨H,B.ix⟩
theorem vF:cJ (aT B H) (raw B H):=⟨aE,fun _ _ e=>e⟩
theorem HB.same (h:HB B H)(s:ax H H'):HB B H':=fun b e=>by obtain⟨o,q,n⟩:=h b e;exact⟨o,s b o q,n⟩
theorem HB.free {p:Addr}(h:HB B H)(hp:H p=none):B.hd p=false:=by
 cases e:B.hd p with
 |false=>rfl
 |true=>obtain⟨o,q,_⟩:=h p e;rw[hp]at q;cases q
theorem HB.tup {p:Addr}{vs:List V}(h:HB B H)(hp:H p=some (.tup vs)):(aT B H).H p=some (.tup vs):=by
 cases e:B.hd p with
 |false=>rw[c_ e];exact hp
 |true=>obtain⟨o,q,n⟩:=h p e;rw[hp]at q;cases q;exact absurd rfl (n _)
theorem HB.new {p:Addr}{o:HO}(h:HB B H)(hp:H p=none):(aT B (upd H p o)).H p=some o:=by rw[c_ (h.free hp)];exact aG
structure pO(B B':bZ):Prop where
 hd:∀b,B.hd b=true->B'.hd b=true
 ix:∀b i,B'.ix b=some i->B.ix b=some i
theorem so(h:pO B B'):cJ (aT B' H) (aT B H):=⟨fun b o (e:(if B'.hd b=true then none else H b)=some o)=>by
 show(if B.hd b=true then none else H b)=some o;split at e
 ·cases e
 ·rename_i n;rw[af fun z=>n (h.hd b z)];exact e,h.ix⟩
end
inductive Rs(α:Type) where
 |bad|ok (a:α)|exc (c:Tr)
def Rs.bind {α β:Type}(r:Rs α)(f:α->Rs β):Rs β:=match r with
 |.ok a=>f a
 |.exc c=>.exc c
 |.bad=>.bad
def XA(X:Cx)(c:Tr)(H:Hp):Prop:=False
def mH(xc:Tr->Prop){α:Type}(r:Rs α)(k:α->Prop):Prop:=match r with
 |.ok a=>k a
 |.exc c=>xc c
 |.bad=>False
def xP(X:Cx)(H:Hp):Tr->Prop:=fun c=>∀H',ax H H'->XA X c H'
def Fi(X:Cx)(H:Hp){α:Type}(r:Rs α)(k:α->Prop):Prop:=mH (xP X H) r k
section
variable {X:Cx}{H H':Hp}{α β:Type}{r:Rs α}{k k':α->Prop}{xc NM:Tr->Prop}
theorem mH.mono (h:mH xc r k)(w:∀a,k a->k' a):mH xc r k':=by
 cases r with
 |ok a=>exact w a h
 |_=>exact h
theorem mH.imp (h:mH xc r k)(w:∀c,xc c->NM c):mH NM r k:=by
 cases r with
 |ok a=>exact h
 |exc c=>exact w c h
 |bad=>exact h
theorem mH.bind {f:α->Rs β}{k:β->Prop}(h:mH xc (r.bind f) k):mH xc r fun a=>mH xc (f a) k:=by
 cases r with
 |_=>exact h
theorem Fi.mono (h:Fi X H r k)(w:∀a,k a->k' a):Fi X H r k':=mH.mono h w
theorem Fi.same (h:Fi X H r k)(s:ax H H'):Fi X H' r k:=mH.imp h fun _ q H2 s2=>q H2 (s.trans s2)
theorem Fi.bind {f:α->Rs β}{k:β->Prop}(h:Fi X H (r.bind f) k):Fi X H r fun a=>Fi X H (f a) k:=mH.bind h
end
inductive Cell where
 |no|sh (t:Tr)|ow (ts:List Tr)
abbrev az:=List Cell
structure bu(K:PySem.W.Frag)(B:bZ)(H:Hp)(σ:St)(ρ:az):Prop where
 len:ρ.length=σ.length
 sh:∀(i:Nat) (t:Tr),ρ[i]?=some (.sh t)->∃v,σ[i]?=some (some v)/\Rep K (aT B H) v t
 ow:∀(i:Nat) (ts:List Tr),ρ[i]?=some (.ow ts)->∃D ys,σ[i]?=some (some (.ref D))/\B D=true/\H D=some (.lst ys)/\aK K (aT B H) ys ts
 ap:∀(i j:Nat) (ts us:List Tr) (D:Addr),i≠j->ρ[i]?=some (.ow ts)->ρ[j]?=some (.ow us)->σ[i]?=some (some (.ref D))->σ[j]? ≠some (some (.ref D))
section
variable {K:PySem.W.Frag}{B B':bZ}{H H':Hp}{σ:St}{ρ:az}
theorem bu.same (h:bu K B H σ ρ)(s:ax H H'):bu K B H' σ ρ:=
 ⟨h.len,fun i t e=>by obtain⟨v,e1,r⟩:=h.sh i t e;exact⟨v,e1,r.same (bc s)⟩,
   fun i ts e=>by obtain⟨D,ys,e1,e2,e3,r⟩:=h.ow i ts e;exact⟨D,ys,e1,e2,s _ _ e3,r.same (bc s)⟩,h.ap⟩
theorem gR{α:Type}{l:List α}{i j:Nat}{x y:α}(e:(l.set i x)[j]?=some y):(i=j/\i<l.length/\y=x)\/(i≠j/\l[j]?=some y):=by
 rw[iY]at e;by_cases qH:i=j
 ·rw[ab qH]at e;by_cases hl:i<l.length
  ·rw[ab hl]at e;exact .inl ⟨qH,hl,(Option.some.inj e).symm⟩
  ·rw[af hl]at e;cases e
 ·rw[af qH]at e;exact .inr ⟨qH,e⟩
theorem bu.set {v:V}{t:Tr}(h:bu K B H σ ρ)(i:Nat)(r:Rep K (aT B H) v t):bu K B H (σ.set i (some v)) (ρ.set i (.sh t)):=by
 refine⟨by rw[gY,gY];exact h.len,fun j u e=>?_,fun j us e=>?_,fun j k us ws D WO e1 e2 e3=>?_⟩
 ·rcases gR e with⟨rfl,hl,q⟩|⟨qH,q⟩
  ·cases q;exact⟨v,by rw[iY,ab rfl,ab (by rw[<-h.len];exact hl)],r⟩
  ·obtain⟨w,e1,r1⟩:=h.sh j u q;exact⟨w,by rw[iY,af qH];exact e1,r1⟩
 ·rcases gR e with⟨rfl,hl,q⟩|⟨qH,q⟩
  ·cases q
  ·obtain⟨D,ys,e1,r1⟩:=h.ow j us q;exact⟨D,ys,by rw[iY,af qH];exact e1,r1⟩
 ·rcases gR e1 with⟨rfl,hl,q⟩|⟨qH,q⟩
  ·cases q
  ·rcases gR e2 with⟨rfl,hl,q2⟩|⟨NN,q2⟩
   ·cases q2
   ·rw[iY,af qH]at e3;rw[iY,af NN];exact h.ap j k us ws D WO q q2 e3
end
def startT(n:Nat)(ts:List Tr):az:=ts.map Cell.sh++List.replicate (n - ts.length) .no
theorem lL{n i:Nat}{ts:List Tr}{c:Cell}(e:(startT n ts)[i]?=some c):c=.no\/∃t,ts[i]?=some t/\c=.sh t:=by
 unfold startT at e;by_cases hi:i<ts.length
 ·rw[cq (by rw[ah];exact hi),aP]at e;cases q:ts[i]? with
  |none=>rw[q]at e;cases e
  |some u=>rw[q]at e;exact .inr ⟨u,rfl,(Option.some.inj e).symm⟩
 ·rw[dI (by rw[ah];omega),mO]at e;split at e
  ·exact .inl (Option.some.inj e).symm
  ·cases e
theorem bu.start {K:PySem.W.Frag}{B:bZ}{H:Hp}{N:List Str}{vs:List V}{ts:List Tr}(h:aK K (aT B H) vs ts):bu K B H (start N vs) (startT N.length ts):=by
 have hl:=h.length;refine⟨by unfold L2.start startT;simp only[aY,ah,mT];omega,fun i t e=>?_,fun i us e=>?_,fun i j us ws D _ e _ _=>?_⟩
 ·rcases lL e with q|⟨u,q,q2⟩
  ·cases q
  ·cases q2;obtain⟨v,e1,r⟩:=h.get q;have hi:i<vs.length:=(b_.mp e1).1;refine⟨v,?_,r⟩;unfold L2.start;rw[cq (by rw[ah];exact hi),aP,e1]
   rfl
 ·rcases lL e with q|⟨u,q,q2⟩
  ·cases q
  ·cases q2
 ·rcases lL e with q|⟨u,q,q2⟩
  ·cases q
  ·cases q2
def isStar:Expr->Bool
 |.Starred .. =>true
 |_=>false
theorem ba{e:Expr}(es:List Expr)(env:Env)(h:isStar e=false):starEach (e::es) env=(false,eval e env)::starEach es env:=by
 cases e<;>first|rfl|cases h
def bt(es:List Expr):Bool:=es.all fun e=>!isStar e
theorem cE{pos:Pos}{env:Env}:∀{es:List Expr},bt es=true->(backTo pos (starEach es env)).any (·.1)=false
 |[],_=>by rw[starEach];rfl
 |e::es,h=>by
  unfold bt at h;rw[hJ,aJ]at h;have h1:isStar e=false:=by simpa using h.1
  rw[ba es env h1];exact cE (es:=es) h.2
theorem xk{pos:Pos}{env:Env}:∀{es:List Expr},bt es=true->(backTo pos (starEach es env)).all (fun x=>!x.1)=true
 |[],_=>by rw[starEach];rfl
 |e::es,h=>by
  unfold bt at h;rw[hJ,aJ]at h;have h1:isStar e=false:=by simpa using h.1
  rw[ba es env h1];exact xk (es:=es) h.2
theorem aI{e:Expr}{es:List Expr}(h:bt (e::es)=true):isStar e=false/\bt es=true:=by
 unfold bt at h;rw[hJ,aJ]at h;exact⟨by simpa using h.1,h.2⟩
def mm:Expr->Bool
 |.ListComp .. =>true
 |.SetComp .. =>true
 |.DictComp .. =>true
 |_=>false
theorem sq{e:Expr}{t:Option Expr}{n:Nat}{env:Env}(h:mm e=false):swapsWith e t n env=pure false:=by
 cases e<;>first|rfl|cases h
def o5:Expr->Bool
 |.UnaryOp .. =>false
 |.BoolOp .. =>false
 |.IfExp .. =>false
 |.Compare .. =>false
 |_=>true
theorem yV{e:Expr}{env:Env}(h:o5 e=true):∀whole,isTrue e env whole=(do let v<-whole;standAt e.pos;holding [v] (truthy v)):=by
 intro whole;cases e<;>first|rfl|cases h
def isSet:Expr->Bool
 |.Set .. =>true
 |_=>false
theorem dF{e:Expr}{env:Env}(h:isSet e=false):∀x,foldedSetIterable e env x=pure x:=by
 intro x;cases e<;>first|rfl|cases h
def isCall:Expr->Bool
 |.Call .. =>true
 |_=>false
theorem Gp{o:Expr}{x:Str}{env:Env}{w:Sem Value}(h:isCall o=false):attributeBase o x env w=w:=by
 cases o<;>first|rfl|cases h
inductive tP(X:Cx)(F:az->Rs Tr)(σ:St)(H:Hp)(Q:VK):Prop
 |mk (B:bZ) (ρ:az):HB B H->bu X.K B H σ ρ->(Fi X H (F ρ) fun t=>∀v H',ax H H'->Rep X.K (aT B H') v t->Q v H')->tP X F σ H Q
inductive tQ(X:Cx)(F:az->Rs Bool)(σ:St)(H:Hp)(Q:Bool->Hp->Prop):Prop
 |mk (B:bZ) (ρ:az):HB B H->bu X.K B H σ ρ->(Fi X H (F ρ) fun b=>∀H',ax H H'->Q b H')->tQ X F σ H Q
inductive Ah(X:Cx)(F:az->Rs (List Tr))(σ:St)(H:Hp)(Q:List V->Hp->Prop):Prop
 |mk (B:bZ) (ρ:az):HB B H->bu X.K B H σ ρ->(Fi X H (F ρ) fun ts=>∀vs H',ax H H'->aK X.K (aT B H') vs ts->Q vs H')->Ah X F σ H Q
inductive Out where
 |nx (ρ:az)|ret (t:Tr)|bk (ρ:az)|ct (ρ:az)
structure dj(C B0:bZ)(H0:Hp)(B:bZ)(H:Hp):Prop where
 kp:∀b o,C b=true->H0 b=some o->H b=some o
 gA:cJ (aT B0 H0) (aT B H)
 sub:pO C B
 hb:HB B H
section
variable {C B0 B B1 B2:bZ}{H0 H H' H1 H2:Hp}
theorem dj.go (h:dj C B0 H0 B H)(s:ax H H'):dj C B0 H0 B H':=⟨fun b o c e=>s _ _ (h.kp b o c e),h.gA.trans (bc s),h.sub,h.hb.same s⟩
theorem pO.refl:pO B B:=⟨fun _ e=>e,fun _ _ e=>e⟩
theorem dj.refl (h:HB B H)(c:pO C B):dj C B H B H:=⟨fun _ _ _ e=>e,cJ.refl _,c,h⟩
theorem dj.trans (h:dj C B0 H0 B1 H1)(q:dj C B1 H1 B2 H2):dj C B0 H0 B2 H2:=⟨fun b o c e=>q.kp b o c (h.kp b o c e),h.gA.trans q.gA,q.sub,q.hb⟩
theorem dj.same (h:dj C C H0 B H):ax H0 H:=fun b o e=>by
 cases q:C b with
 |true=>exact h.kp b o q e
 |false=>exact aE _ _ (h.gA.h b o (by rw[c_ q];exact e))
end
def Kd(X:Cx)(D:Ends)(C B0:bZ)(H0:Hp):Out->Prop
 |.nx ρ=>∀cf B' H',dj C B0 H0 B' H'->bu X.K B' H' cf ρ->D.nx cf H'
 |.ret t=>∀v B' H',dj C B0 H0 B' H'->Rep X.K (aT C H') v t->D.rt v H'
 |.bk ρ=>∀cf B' H',dj C B0 H0 B' H'->bu X.K B' H' cf ρ->D.bk cf H'
 |.ct ρ=>∀cf B' H',dj C B0 H0 B' H'->bu X.K B' H' cf ρ->D.ct cf H'
def xS(X:Cx)(C B0:bZ)(H0:Hp):Tr->Prop:=fun c=>∀B' H',dj C B0 H0 B' H'->XA X c H'
inductive tS(X:Cx)(G:az->Rs Out)(D:Ends)(σ:St)(H:Hp):Prop
 |mk (C:bZ) (B0:bZ) (H0:Hp) (B:bZ) (ρ:az):dj C B0 H0 B H->bu X.K B H σ ρ->mH (xS X C B0 H0) (G ρ) (Kd X D C B0 H0)->tS X G D σ H
theorem PE.weak {X:Cx}{e:Expr}{t t':TE}(h:PE X e t)(w:∀σ H Q,t' σ H Q->t σ H Q):PE X e t':=fun pins s σ H Q I q=>h pins s σ H Q I (w σ H Q q)
theorem PT.weak {X:Cx}{e:Expr}{t t':TT}(h:PT X e t)(w:∀σ H Q,t' σ H Q->t σ H Q):PT X e t':=fun pins s σ H Q I q=>h pins s σ H Q I (w σ H Q q)
theorem PW.weak {X:Cx}{e:Expr}{t t':TT}(h:PW X e t)(w:∀σ H Q,t' σ H Q->t σ H Q):PW X e t':=fun wh pins s σ H Q I q=>h wh pins s σ H Q I (w σ H Q q)
theorem PA.weak {X:Cx}{es:List Expr}{t t':TA}(h:PA X es t)(w:∀σ H Q,t' σ H Q->t σ H Q):PA X es t':=fun pos pins s σ H Q I q=>h pos pins s σ H Q I (w σ H Q q)
theorem PS.weak {X:Cx}{st:Stmt}{t t':TS}(h:PS X st t)(w:∀D σ H,t' D σ H->t D σ H):PS X st t':=fun pins s σ H D I q=>h pins s σ H D I (w D σ H q)
theorem kD.weak {X:Cx}{st:List Stmt}{t t':TS}(h:kD X st t)(w:∀D σ H,t' D σ H->t D σ H):kD X st t':=fun pins s σ H D I q=>h pins s σ H D I (w D σ H q)
def au(ρ:az)(i:Nat):Rs Tr:=match ρ[i]? with
 |some (.sh t)=>.ok t
 |_=>.bad
theorem xl{X:Cx}{B:bZ}{σ:St}{H:Hp}{ρ:az}{i:Nat}{k:Tr->Prop}(r:bu X.K B H σ ρ)(h:Fi X H (au ρ i) k):∃v t,σ[i]?=some (some v)/\Rep X.K (aT B H) v t/\k t:=by
 unfold au at h;split at h
 ·rename_i t e;obtain⟨v,e1,r1⟩:=r.sh i t e;exact⟨v,t,e1,r1,h⟩
 ·exact h.elim
section
variable {X:Cx}{a b c:Expr}{pos:Pos}{F G E:az->Rs Tr}
theorem NO(i:Nat){x:Str}{pos:Pos}(hN:X.N[i]?=some x:=by rfl) (hv:Jw X.env.scope x:=by first|exact Or.inl rfl|exact Or.inr (Or.inl rfl)|exact Or.inr (Or.inr rfl)) (hd:(x==("__debug__":Str))=false:=by decide)
  (qf:(x==("__classdict__":Str))=false:=by decide):PE X (.Name x pos) (tP X fun ρ=>au ρ i):=
 (Dn hN hv hd qf).weak fun σ H Q ⟨B,ρ,hb,r,q⟩=>by
  obtain⟨v,t,e,r1,k⟩:=xl r q;exact⟨v,e,k v H (ax.refl H) r1⟩
theorem Ai{v:V}{t:Tr}{e:Expr}(h:PE X e (tC v))(r:∀H,Rep X.K H v t):PE X e (tP X fun _=>.ok t):=
 h.weak fun σ H Q ⟨B,ρ,_,_,q⟩=>q v H (ax.refl H) (r _)
theorem NP{i:Int}{j pos}:PE X (.Constant (.int i) j pos) (tP X fun _=>.ok (.int i)):=Ai Jx fun H=>.int i
theorem S3{b:Bool}{j pos}:PE X (.Constant (.bool b) j pos) (tP X fun _=>.ok (.bl b)):=Ai M4 fun H=>.bl b
theorem NQ{j pos}:PE X (.Constant .none j pos) (tP X fun _=>.ok .cD):=Ai Jy fun H=>.cD
theorem S4{x:Str}{n:String}(hm:X.mg x=none)(hv:bootBuiltins x=some (.type n):=by rfl) (hg:Gl X x:=by rfl) (hn:x≠"__name__":=by decide) (hd:(x==("__debug__":Str))=false:=by decide):PE X (.Name x pos) (tP X fun _=>.ok (.ty n)):=
 Ai (F2 (v:=.ty n) hg hm hv rfl hn hd) fun H=>.ty n
def cO(h:Tr->Tr->Rs Tr)(a b:Rs Tr):Rs Tr:=a.bind fun x=>b.bind fun y=>h x y
inductive rT(X:Cx)(h:Tr->Tr->Rs Tr)(x:V)(y:V)(H:Hp)(Q:VK):Prop
 |mk (B:bZ) (tx:Tr) (ty:Tr):HB B H->Rep X.K (aT B H) x tx->Rep X.K (aT B H) y ty->(Fi X H (h tx ty) fun t=>∀v H',ax H H'->Rep X.K (aT B H') v t->Q v H')->rT X h x y H Q
abbrev uI(X:Cx)(f:Value->Value->Sem Value)(h:Tr->Tr->Rs Tr):Prop:=t4 X f (rT X h)
theorem kO{h:Tr->Tr->Rs Tr}{σ:St}{H:Hp}{Q:VK}(q:tP X (fun ρ=>cO h (F ρ) (G ρ)) σ H Q):Mp (rT X h) (tP X F) (tP X G) σ H Q:=by
 obtain⟨B,ρ,hb,r,q⟩:=q;refine⟨B,ρ,hb,r,q.bind.mono fun x qx v H1 s1 r1=>⟨B,ρ,hb.same s1,r.same s1,(qx.bind.same s1).mono fun y qy u H2 s2 r2=>⟨B,x,y,(hb.same s1).same s2,r1.same (bc s2),r2,?_⟩⟩⟩;exact(qy.same (s1.trans s2)).mono fun t qt w H3 s3 r3=>qt w H3 ((s1.trans s2).trans s3) r3
theorem NR{op:Operator}{h:Tr->Tr->Rs Tr}(ho:uI X (binaryOp op) h)(ha:PE X a (tP X F))(hb:PE X b (tP X G)):PE X (.BinOp a op b pos) (tP X fun ρ=>cO h (F ρ) (G ρ)):=
 (M' ho ha hb).weak fun _ _ _ q=>kO q
theorem NS{op:CmpOp}{h:Tr->Tr->Rs Tr}(ho:uI X (compareOp op) h)(ha:PE X a (tP X F))(hb:PE X b (tP X G))(hm:behindInMarks op b=false:=by first|exact kF _|rfl|with_unfolding_all rfl):PE X (.Compare a [op] [b] pos) (tP X fun ρ=>cO h (F ρ) (G ρ)):=
 (z5 ho ha hb hm).weak fun _ _ _ q=>kO q
def kP(r:Rs Tr):Rs Bool:=r.bind fun t=>match t with
 |.bl b=>.ok b
 |_=>.bad
theorem Rep.vG {K:PySem.W.Frag}{H:Vw}{v:V}{b:Bool}(h:Rep K H v (.bl b)):v=.bl b:=by cases h;rfl
theorem jh{K:PySem.W.Frag}{W:Vw}{xs:List V}{t:Tr}(r:aK K W xs [t]):∃x,xs=[x]/\Rep K W x t:=by
 cases r with
 |cons a r=>cases r;exact⟨_,rfl,a⟩
theorem sr{K:PySem.W.Frag}{W:Vw}{xs:List V}{t u:Tr}(r:aK K W xs [t,u]):∃x y,xs=[x,y]/\Rep K W x t/\Rep K W y u:=by
 cases r with
 |cons a r=>
  obtain⟨y,rfl,b⟩:=jh r;exact⟨_,_,rfl,a,b⟩
theorem Rep.Aj {K:PySem.W.Frag}{H:Vw}{v:V}{ns:List Int}(h:Rep K H v (.gB ns)):∃a,v=.ref a/\iS K H.H a (ns.map V.int):=by cases h;exact⟨_,rfl,by assumption⟩
theorem Rep.Gq {K:PySem.W.Frag}{H:Vw}{v:V}{aD:List (Key×Tr)}(h:Rep K H v (.kN aD)):∃a aw,v=.ref a/\Rd H.H a (.dK aw)/\aw.map (·.1)=aD.map (·.1)/\aK K H (aw.map (·.2)) (aD.map (·.2)):=by cases h;exact⟨_,_,rfl,by assumption,by assumption,by assumption⟩
theorem Rep.sv {K:PySem.W.Frag}{H:Vw}{v:V}{i:Nat}(h:Rep K H v (.at i)):∃a,v=.ref a/\H.ix a=some i:=by cases h;exact⟨_,rfl,by assumption⟩
theorem Rep.Gr {K:PySem.W.Frag}{H:Vw}{v:V}(h:Rep K H v .cD):v=.cD:=by cases h;rfl
theorem Rep.int_inv {K:PySem.W.Frag}{H:Vw}{v:V}{i:Int}(h:Rep K H v (.int i)):v=.int i:=by cases h;rfl
theorem Rep.str_inv {K:PySem.W.Frag}{H:Vw}{v:V}{z:Str}(h:Rep K H v (.str z)):v=.str z/\z.length<=jg:=by cases h;exact⟨rfl,by assumption⟩
theorem Rep.cZ {K:PySem.W.Frag}{H:Vw}{v:V}{ts:List Tr}(h:Rep K H v (.tup ts)):∃a vs,v=.ref a/\ir K H.H a vs/\aK K H vs ts:=by cases h;exact⟨_,_,rfl,.inl (.inl (by assumption)),by assumption⟩
theorem Rep.iN {K:PySem.W.Frag}{H:Vw}{v:V}{ts:List Tr}(h:Rep K H v (.tup ts)):∃a vs,v=.ref a/\H.H a=some (.tup vs)/\aK K H vs ts:=by cases h;exact⟨_,_,rfl,by assumption,by assumption⟩
theorem S5{K:PySem.W.Frag}{H:Hp}{a:Addr}{vs:List V}(h:H a=some (.tup vs)):ir K H a vs:=.inl (.inl h)
theorem Rep.lst_inv {K:PySem.W.Frag}{H:Vw}{v:V}{ts:List Tr}(h:Rep K H v (.lst ts)):∃a vs,v=.ref a/\H.H a=some (.lst vs)/\aK K H vs ts:=by cases h;exact⟨_,_,rfl,by assumption,by assumption⟩
theorem Gs{H:Hp}{r:Rs Tr}{k:Bool->Prop}(h:Fi X H (kP r) k):Fi X H r fun t=>∃b,t=.bl b/\k b:=by
 refine h.bind.mono fun t q=>?_
 cases t with
 |bl b=>exact⟨b,rfl,q⟩
 |_=>exact q.elim
theorem NU{op:CmpOp}{h:Tr->Tr->Rs Tr}(ho:uI X (compareOp op) h)(ha:PE X a (tP X F))(hb:PE X b (tP X G))(hm:behindInMarks op b=false:=by first|exact kF _|rfl|with_unfolding_all rfl):PT X (.Compare a [op] [b] pos) (tQ X fun ρ=>kP (cO h (F ρ) (G ρ))):=
 (z6 ho ha hb hm).weak fun σ H Q ⟨B,ρ,hb,r,q⟩=>by
  refine kO (Q:=fun x H'=>∃k,x=.bl k/\Q k H') ⟨B,ρ,hb,r,(Gs q).mono fun t qt v H' s' r'=>?_⟩;obtain⟨b,rfl,k⟩:=qt;exact⟨b,r'.vG,k H' s'⟩
def qj:Tr->Rs Bool
 |.cD=>.ok false
 |.bl b=>.ok b
 |.int i=>.ok (i !=0)
 |.str z=>.ok ((z.length:Int) !=0)
 |.tup ts=>.ok (!ts.isEmpty)
 |.lst ts=>.ok (!ts.isEmpty)
 |.kN aD=>.ok (!aD.isEmpty)
 |_=>.bad
theorem aK.isEmpty {K:PySem.W.Frag}{H:Vw}{vs:List V}{ts:List Tr}(h:aK K H vs ts):vs.isEmpty=ts.isEmpty:=by cases h<;>rfl
theorem qI:jg<=sizeLine:=by rw[bH];decide
theorem Gu{K:PySem.W.Frag}{H:Vw}{v:V}{t:Tr}{b:Bool}(r:Rep K H v t)(e:qj t=.ok b):F7 K v H b:=by
 cases r with
 |cD=>cases e;rfl
 |bl c=>cases e;rfl
 |int i=>cases e;rfl
 |str z h=>cases e;exact⟨bx h qI,rfl⟩
 |ty n=>cases e
 |tup h r=>cases e;exact .inr (.inl ⟨_,.inl (.inl h),by rw[r.isEmpty]⟩)
 |lst h r=>cases e;exact .inl ⟨_,.of h,by rw[r.isEmpty]⟩
 |gB h=>cases e
 |«at» h=>cases e
 |bj h e1 rr=>cases e
 |ob h e1 rr=>cases e
 |Ag h c=>cases e
 |kN h e1 r=>
  cases e;refine .inr (.inr ⟨_,h,?_⟩);rename_i aw aD;cases aw<;>cases aD<;>first|rfl|cases e1
theorem xm{H:Vw}{v:V}{t:Tr}{k:Bool->Prop}(r:Rep X.K H v t)(h:Fi X H (qj t) k):∃b,F7 X.K v H b/\k b:=by
 cases e:qj t with
 |ok b=>rw[e]at h;exact⟨b,Gu r e,h⟩
 |exc c=>cases t<;>cases e
 |bad=>rw[e]at h;exact h.elim
theorem NW(ha:PE X a (tP X F))(he:o5 a=true:=by rfl):PT X a (tQ X fun ρ=>(F ρ).bind qj):=
 (Dy ha (yV he)).weak fun σ H Q ⟨B,ρ,hb,r,q⟩=>⟨B,ρ,hb,r,q.bind.mono fun t qt v H' s' r'=>by
  obtain⟨b,h1,h2⟩:=xm (r'.same vF) (qt.same s');exact⟨b,h1,h2 H' s'⟩⟩
def DP(r:Rs Bool):Rs Bool:=r.bind fun b=>.ok (!b)
variable {A B:az->Rs Bool}{rest:List Expr}
theorem NX(ha:PT X a (tQ X A)):PT X (.UnaryOp .Not a pos) (tQ X fun ρ=>DP (A ρ)):=
 (Jz ha).weak fun σ H Q ⟨B,ρ,hb,r,q⟩=>⟨B,ρ,hb,r,q.bind⟩
def Mv(a b:Rs Bool):Rs Bool:=a.bind fun c=>if c then .ok true else b
theorem NY(ha:PT X a (tQ X A)):PW X (.BoolOp .Or [a] pos) (tQ X A):=pw_or1 ha
theorem w_or(ha:PT X a (tQ X A))(hb:PW X (.BoolOp .Or (b::rest) pos) (tQ X B)):PW X (.BoolOp .Or (a::b::rest) pos) (tQ X fun ρ=>Mv (A ρ) (B ρ)):=
 (pw_or ha hb).weak fun σ H Q ⟨Bb,ρ,hb,r,q⟩=>⟨Bb,ρ,hb,r,q.bind.mono fun c qc H1 s1=>by
  cases c with
  |false=>exact⟨Bb,ρ,hb.same s1,r.same s1,(Fi.same qc s1).mono fun b qb H2 s2=>qb H2 (s1.trans s2)⟩
  |true=>exact qc H1 s1⟩
theorem Ke{op}{es:List Expr}(h:PW X (.BoolOp op es pos) (tQ X A)):PT X (.BoolOp op es pos) (tQ X A):=h.pt
def Kf(a b:Rs Tr):Rs Tr:=a.bind fun t=>(qj t).bind fun c=>if c then b else .ok t
theorem NZ(ha:PE X a (tP X F))(hb:PE X (.BoolOp .And (b::rest) pos) (tP X G)):PE X (.BoolOp .And (a::b::rest) pos) (tP X fun ρ=>Kf (F ρ) (G ρ)):=by
 intro pins s σ H Q I ⟨B,ρ,hB,r,q⟩;refine BoolOp_and (eE (ha pins s σ H _ I ⟨B,ρ,hB,r,q.bind.mono fun t qt v H1 s1 r1=>(show∃t,Rep X.K (aT B H1) v t/\ax H H1/\Fi X H ((qj t).bind fun c=>if c then G ρ else .ok t) (fun t=>∀v H',ax H H'->Rep X.K (aT B H') v t->Q v H')from⟨t,r1,s1,qt⟩)⟩) fun v s1 ⟨x,H1,I1,r1,t,rt,sm,qt⟩=>?_);obtain⟨c,h1,h2⟩:=xm (rt.same vF) (qt.bind.same sm);refine eE (Dx pins s1 σ H1 x v (fun k H'=>k=c/\H'=H1) I1 r1 ⟨c,h1,rfl,rfl⟩) fun k s2 ⟨H2,I2,e1,e2⟩=>?_
 subst e1 e2;cases k with
 |true=>exact hb pins s2 σ _ Q I2 ⟨B,ρ,hB.same sm,r.same sm,(Fi.same h2 sm).mono fun t q v H' s' r'=>q v H' (sm.trans s') r'⟩
 |false=>exact⟨x,_,I2,r1,h2 x _ sm rt⟩
theorem N0{op}(h:PE X a (tP X F)):PE X (.BoolOp op [a] pos) (tP X F):=JA h
variable {es:List Expr}{L:az->Rs (List Tr)}
def ag(a:Rs Tr)(l:Rs (List Tr)):Rs (List Tr):=a.bind fun x=>l.bind fun xs=>.ok (x::xs)
theorem N1:PA X [] (Ah X fun _=>.ok []):=kG.weak fun σ H Q ⟨B,ρ,hb,r,q⟩=>q [] H (ax.refl H) .nil
theorem Kg(ha:PE X a (tP X F))(hr:PA X es (Ah X L))(hs:isStar a=false:=by rfl):PA X (a::es) (Ah X fun ρ=>ag (F ρ) (L ρ)):=
 (iC ha hr (ba _ _ hs)).weak fun σ H Q ⟨B,ρ,hb,r,q⟩=>⟨B,ρ,hb,r,q.bind.mono fun x qx v H1 s1 r1=>⟨B,ρ,hb.same s1,r.same s1,(qx.bind.same s1).mono fun xs qs vs H2 s2 r2=>qs _ H2 (s1.trans s2) (.cons (r1.same (bc s2)) r2)⟩⟩
def ji:Nat:=16777216
theorem iO:ji=sizeLine:=bH.symm
def fc(l:Rs (List Tr)):Rs Tr:=l.bind fun ts=>if ts.length<=ji then .ok (.tup ts)else .bad
def vH(l:Rs (List Tr)):Rs Tr:=l.bind fun ts=>if ts.length<=ji then .ok (.lst ts)else .bad
theorem N2{x1}(h:PA X es (Ah X L)):PE X (.Tuple es x1 pos) (tP X fun ρ=>fc (L ρ)):=
 (Dz h).weak fun σ H Q ⟨B,ρ,hb,r,q⟩=>⟨B,ρ,hb,r,q.bind.mono fun ts qt vs H1 s1 r1=>by
  by_cases hz:ts.length<=ji
  ·rw[ab hz]at qt;refine⟨by rw[r1.length,<-iO];exact hz,fun p hp=>qt (.ref p) _ (s1.Kb (s1.free hp)) (.tup ((hb.same s1).new hp) (r1.same (bc (ax.upd hp))))⟩
  ·rw[af hz]at qt;exact qt.elim⟩
def aL(h:List Tr->Rs Tr)(l:Rs (List Tr)):Rs Tr:=l.bind h
inductive rC(X:Cx)(h:List Tr->Rs Tr)(xs:List V)(H:Hp)(Q:VK):Prop
 |mk (B:bZ) (ts:List Tr):HB B H->aK X.K (aT B H) xs ts->(Fi X H (h ts) fun t=>∀v H',ax H H'->Rep X.K (aT B H') v t->Q v H')->rC X h xs H Q
abbrev jP(X:Cx)(f:Value)(h:List Tr->Rs Tr):Prop:=gm X f (rC X h)
theorem uJ{h:List Tr->Rs Tr}{σ:St}{H:Hp}{Q:VK}(q:tP X (fun ρ=>aL h (L ρ)) σ H Q):Q7 (rC X h) (Ah X L) σ H Q:=by
 obtain⟨B,ρ,hb,r,q⟩:=q;exact⟨B,ρ,hb,r,q.bind.mono fun ts qt vs H1 s1 r1=>⟨B,ts,hb.same s1,r1,(qt.same s1).mono fun t qt v H2 s2 r2=>qt v H2 (s1.trans s2) r2⟩⟩
theorem Gv{id:String}{x:Str}{p:Pos}{e:Expr}{h:List Tr->Rs Tr}(hc:jP X (.builtin id) h)(hm:X.mg x=none)(ha:PA X (e::es) (Ah X L))(hv:bootBuiltins x=some (.builtin id):=by rfl) (hg:Gl X x:=by rfl) (hn:x≠"__name__":=by decide) (jA:(x==("__debug__":Str))=false:=by decide)
  (dD:bt (e::es)=true:=by rfl):PE X (.Call (.Name x p) (e::es) [] pos) (tP X fun ρ=>aL h (L ρ)):=
 (r9 hc hg hm hv ha hn jA (ba _ _ (aI dD).1) (cE (aI dD).2)).weak fun _ _ _ q=>uJ q
theorem DQ{T:String}{x:Str}{p:Pos}{e:Expr}{h:List Tr->Rs Tr}(hc:jP X (.type T) h)(hm:X.mg x=none)(ha:PA X (e::es) (Ah X L))(hv:bootBuiltins x=some (.type T):=by rfl) (hg:Gl X x:=by rfl) (hn:x≠"__name__":=by decide) (jA:(x==("__debug__":Str))=false:=by decide)
  (dD:bt (e::es)=true:=by rfl):PE X (.Call (.Name x p) (e::es) [] pos) (tP X fun ρ=>aL h (L ρ)):=
 (gQ hc hg hm hv ha hn jA (ba _ _ (aI dD).1) (cE (aI dD).2)).weak fun _ _ _ q=>uJ q
inductive spT(K:PySem.W.Frag)(f:List Tr->Rs Tr)(vs:List V)(H:Hp)(Q:VK)(_w3:XK):Prop
 |mk (B:bZ) (ts:List Tr):HB B H->aK K (aT B H) vs ts->(∃t,f ts=.ok t/\∀v H',ax H H'->Rep K (aT B H') v t->Q v H')->spT K f vs H Q _w3
theorem N3{x:Str}{st:Stmt}{ps:List Str}{f:Addr}{fd:FuncData}{k:Nat}{h:List Tr->Rs Tr}{e:Expr}{p:Pos}(D:uH X.K X.mg x st ps f fd)(G:ia X.prog X.w X.K X.mg X.base oS k f fd ps (spT X.K h))(hr:dE k X.A)
  (ha:PA X (e::es) (Ah X L)) (hg:Gl X x:=by rfl) (jA:(x==("__debug__":Str))=false:=by decide) (dD:bt (e::es)=true:=by rfl):PE X (.Call (.Name x p) (e::es) [] pos) (tP X fun ρ=>aL h (L ρ)):=
 (Kc D G hr ha hg jA (ba _ _ (aI dD).1) (cE (aI dD).2)).weak fun σ H Q ⟨B,ρ,hb,r,q⟩=>⟨B,ρ,hb,r,q.bind.mono fun ts qt vs H1 s1 r1=>by
  cases e:h ts with
  |ok t=>rw[e]at qt;exact⟨B,ts,hb.same s1,by rw[dW];exact r1,t,e,fun v H2 s2 r2=>qt v H2 (s1.trans s2) r2⟩
  |exc c=>rw[e]at qt;exact(qt _ (ax.refl _)).elim
  |bad=>rw[e]at qt;exact qt.elim⟩
end
end L2
namespace L2
open PySem PySem.Spec PyProof.Rows
section
variable {X:Cx}{a b c e:Expr}{pos:Pos}{F:az->Rs Tr}{G G':az->Rs Out}{A:az->Rs Bool}{st:Stmt}{rest N4:List Stmt}
def xn(r:Rs Out)(G:az->Rs Out):Rs Out:=r.bind fun o=>match o with
 |.nx ρ=>G ρ
 |.ret t=>.ok (.ret t)
 |.bk ρ=>.ok (.bk ρ)
 |.ct ρ=>.ok (.ct ρ)
theorem N5:kD X [] (tS X fun ρ=>.ok (.nx ρ)):=zX.weak fun D σ H ⟨C,B0,H0,B,ρ,si,r,q⟩=>q σ B H si r
theorem Kh(h1:PS X st (tS X G))(h2:kD X rest (tS X G')):kD X (st::rest) (tS X fun ρ=>xn (G ρ) G'):=
 (wV h1 h2).weak fun D σ H ⟨C,B0,H0,B,ρ,si,r,q⟩=>⟨C,B0,H0,B,ρ,si,r,q.bind.mono fun o qo=>by
  cases o with
  |nx eS=>exact fun cf B' H' WQ r'=>⟨C,B0,H0,B',eS,WQ,r',qo⟩
  |ret t=>exact qo
  |bk eS=>exact qo
  |ct eS=>exact qo⟩
theorem N6(h1:PS X st (tS X G)):kD X [st] (tS X G):=zY h1
def Ki(i:Nat)(r:Rs Tr)(ρ:az):Rs Out:=r.bind fun t=>.ok (.nx (ρ.set i (.sh t)))
theorem mH.here {α:Type}{C B0 B:bZ}{H0 H:Hp}{r:Rs α}{k:α->Prop}(h:mH (xS X C B0 H0) r k)(si:dj C B0 H0 B H):Fi X H r k:=h.imp fun _ q H' s'=>q B H' (si.go s')
theorem Iy{C B0 B:bZ}{H0 H:Hp}{σ:St}{ρ:az}{k:Tr->Prop}(si:dj C B0 H0 B H)(r:bu X.K B H σ ρ)(q:mH (xS X C B0 H0) (F ρ) k){Q:VK}(hq:∀t v H',k t->ax H H'->dj C B0 H0 B H'->bu X.K B H' σ ρ->Rep X.K (aT B H') v t->Q v H'):tP X F σ H Q:=
 ⟨B,ρ,si.hb,r,(q.here si).mono fun t qt v H' s' r'=>hq t v H' qt s' (si.go s') (r.same s') r'⟩
theorem N7{C B0 B:bZ}{H0 H:Hp}{σ:St}{ρ:az}{k:Bool->Prop}(si:dj C B0 H0 B H)(r:bu X.K B H σ ρ)(q:mH (xS X C B0 H0) (A ρ) k){Q:Bool->Hp->Prop}(hq:∀b H',k b->ax H H'->dj C B0 H0 B H'->bu X.K B H' σ ρ->Q b H'):tQ X A σ H Q:=
 ⟨B,ρ,si.hb,r,(q.here si).mono fun b qb H' s'=>hq b H' qb s' (si.go s') (r.same s')⟩
theorem Rep.out {K:PySem.W.Frag}{C B0 B:bZ}{H0 H:Hp}{v:V}{t:Tr}(r:Rep K (aT B H) v t)(si:dj C B0 H0 B H):Rep K (aT C H) v t:=r.same (so si.sub)
theorem N8{i:Nat}{x:Str}{pos':Pos}(he:PE X e (tP X F))(hN:X.N.Nodup:=by assumption) (hi:X.N[i]?=some x:=by rfl) (hx:Loc X.env.scope x:=by first|exact Or.inl rfl|exact Or.inr rfl) (hs:mm e=false:=by rfl) (hf:X.fn x=true\/X.env.scope.names.lookup x=some .local:=by first|exact .inl rfl|exact .inr rfl|assumption):
  PS X (.Assign [.Name x pos'] e pos) (tS X fun ρ=>Ki i (F ρ) ρ):=
 (yH hN hi hx he (sq hs) hf).weak fun D σ H ⟨C,B0,H0,B,ρ,si,r,q⟩=>Iy si r q.bind fun t v H1 qt s1 Kj r1 rv=>qt _ B H1 Kj (r1.set i rv)
def sx(r:Rs Tr):Rs Out:=r.bind fun t=>.ok (.ret t)
theorem N9(he:PE X e (tP X F)):PS X (.Return (some e) pos) (tS X fun ρ=>sx (F ρ)):=
 (Dq he).weak fun D σ H ⟨C,B0,H0,B,ρ,si,r,q⟩=>Iy si r q.bind fun t v H1 qt s1 Kj r1 rv=>qt v B H1 Kj (rv.out Kj)
def N_(c:Rs Bool)(a b:Rs Out):Rs Out:=c.bind fun k=>if k then a else b
theorem S6{ys ns:List Stmt}(hc:PT X c (tQ X A))(ha:kD X ys (tS X G))(hb:kD X ns (tS X G')):PS X (.If c ys ns pos) (tS X fun ρ=>N_ (A ρ) (G ρ) (G' ρ)):=
 (Ih hc ha hb).weak fun D σ H ⟨C,B0,H0,B,ρ,si,r,q⟩=>N7 si r q.bind fun k H1 qk s1 Kj r1=>by
  cases k with
  |true=>exact J7 ⟨C,B0,H0,B,ρ,Kj,r1,qk⟩
  |false=>exact J5 ⟨C,B0,H0,B,ρ,Kj,r1,qk⟩
abbrev j3:=Tr->az->Rs az
inductive tG(X:Cx)(T:j3)(v:V)(σ:St)(H:Hp)(Q:St->Hp->Prop):Prop
 |mk (B:bZ) (ρ:az) (t:Tr):HB B H->bu X.K B H σ ρ->Rep X.K (aT B H) v t->(Fi X H (T t ρ) fun eS=>∀cf H',ax H H'->bu X.K B H' cf eS->Q cf H')->tG X T v σ H Q
def gN(i:Nat):j3:=fun t ρ=>.ok (ρ.set i (.sh t))
theorem Kk(i:Nat){x:Str}(hN:X.N.Nodup:=by assumption) (hi:X.N[i]?=some x:=by rfl) (hx:Loc X.env.scope x:=by first|exact Or.inl rfl|exact Or.inr rfl) (hf:X.fn x=true\/X.env.scope.names.lookup x=some .local:=by first|exact .inl rfl|exact .inr rfl|assumption):PG X (.Name x pos) (tG X (gN i)):=by
 intro pins s σ H v u Q I r ⟨B,ρ,t,hb,rs,rt,q⟩;exact vy hN hi hx hf pins s σ H v u Q I r (q _ H (ax.refl H) (rs.set i rt))
def uK:List Nat->List Tr->az->Rs az
 |[],[],ρ=>.ok ρ
 |i::is,t::ts,ρ=>uK is ts (ρ.set i (.sh t))
 |_,_,_=>.bad
inductive Mw(X:Cx)(T:List Tr->az->Rs az)(vs:List V)(σ:St)(H:Hp)(Q:St->Hp->Prop):Prop
 |mk (B:bZ) (ρ:az) (ts:List Tr):HB B H->bu X.K B H σ ρ->aK X.K (aT B H) vs ts->(Fi X H (T ts ρ) fun eS=>∀cf H',ax H H'->bu X.K B H' cf eS->Q cf H')->Mw X T vs σ H Q
theorem Oa:FG X [] (Mw X (uK [])):=by
 intro pins s σ H vs us Q I r ⟨B,ρ,ts,hb,rs,rt,q⟩
 match ts,rt,q with
 |[],.nil,q=>exact F5 pins s σ H [] us Q I r ⟨rfl,q σ H (ax.refl H) rs⟩
 |_::_,_,q=>exact q.elim
theorem Kl{es:List Expr}{i:Nat}{is:List Nat}{x:Str}(h2:FG X es (Mw X (uK is)))(hN:X.N.Nodup:=by assumption) (hi:X.N[i]?=some x:=by rfl) (hx:Loc X.env.scope x:=by first|exact Or.inl rfl|exact Or.inr rfl) (hf:X.fn x=true\/X.env.scope.names.lookup x=some .local:=by first|exact .inl rfl|exact .inr rfl|assumption)
  (hs:(assignEach (.Name x pos::es) X.env).map (·.2)=assign (.Name x pos) X.env::(assignEach es X.env).map (·.2):=by rfl):FG X (.Name x pos::es) (Mw X (uK (i::is))):=by
 intro pins s σ H vs us Q I r ⟨B,ρ,ts,hb,rs,rt,q⟩
 match ts,rt,q with
 |[],_,q=>exact q.elim
 |t::ts,.cons r1 r2,q=>
  exact Ds (vy hN hi hx hf) h2 hs pins s σ H _ us Q I r ⟨_,_,rfl,⟨B,_,ts,hb,rs.set i r1,r2,q⟩⟩
def gT(is:List Nat):j3:=fun t ρ=>match t with
 |.tup ts=>uK is ts ρ
 |_=>.bad
theorem vI:∀{is:List Nat} {ts:List Tr} {ρ eS:az},uK is ts ρ=.ok eS->ts.length=is.length
 |[],[],_,_,_=>rfl
 |[],_::_,_,_,h=>by cases h
 |_::_,[],_,_,h=>by cases h
 |_::is,_::ts,_,_,h=>by rw[br,br,vI (is:=is) (ts:=ts) h]
theorem o6:∀{is:List Nat} {ts:List Tr} {ρ:az} {c:Tr},uK is ts ρ≠ .exc c
 |[],[],_,_=>fun h=>by cases h
 |[],_::_,_,_=>fun h=>by cases h
 |_::_,[],_,_=>fun h=>by cases h
 |_::is,_::ts,_,_=>o6 (is:=is) (ts:=ts)
theorem Ob{es:List Expr}{k:Nat}{is:List Nat}(h:FG X es (Mw X (uK is)))(hc:X.calm=true:=by rfl) (hn:(assignEach es X.env).length=is.length:=by rfl) (dD:(assignEach es X.env).findIdx? (·.1)=none:=by rfl):PG X (.Tuple es k pos) (tG X (gT is)):=by
 intro pins s σ H v u Q I r ⟨B,ρ,t,hb,rs,rt,q⟩;cases rt with
 |tup hq rv=>
  have hq:=S5 (K:=X.K) hq;refine JB hc h hn dD pins s σ H _ u Q I r ⟨_,_,rfl,(ax.tup aE hq),?_,B,ρ,_,hb,rs,rv,q⟩;have q':Fi X H (uK is _ ρ) _:=q;cases e:uK is _ ρ with
  |ok eS=>rw[rv.length];exact vI e
  |exc c=>exact(o6 e).elim
  |bad=>rw[e]at q';exact q'.elim
 |_=>exact q.elim
structure jQ(K:PySem.W.Frag)(B:bZ)(J:It)(H:Hp)(ts:List Tr):Prop where
 go:∀i B' H',i<ts.length->cJ (aT B H) (aT B' H')->HB B' H'->J.go i H'
 zZ:∀i B' H' x Gw,i<ts.length->cJ (aT B H) (aT B' H')->HB B' H'->J.zZ i H' x Gw->ax H' Gw/\∃t,ts[i]?=some t/\Rep K (aT B' Gw) x t
 stop:∀B' H',cJ (aT B H) (aT B' H')->J.stop ts.length H'
inductive tI(X:Cx)(W:az->Rs (List Tr))(σ:St)(H:Hp)(R:It->Hp->Prop):Prop
 |mk (B:bZ) (ρ:az):HB B H->bu X.K B H σ ρ->(Fi X H (W ρ) fun ts=>∀J H',ax H H'->jQ X.K B J H' ts->R J H')->tI X W σ H R
def BQ(z:Str):List Tr:=z.cps.toList.map fun c=>Tr.str ⟨#[c]⟩
def mn(r:Rs Tr):Rs (List Tr):=r.bind fun t=>match t with
 |.tup ts=>.ok ts
 |.lst ts=>.ok ts
 |.str z=>.ok (BQ z)
 |_=>.bad
theorem yW{K:PySem.W.Frag}{B:bZ}{H:Hp}{a:Addr}{vs:List V}{ts:List Tr}(h:aT B H a=some (.lst vs))(r:aK K (aT B H) vs ts):jQ K B (Q4 K a) H ts where
 go:=fun i B' H' hi s hb=>by
  have hv:i<vs.length:=by rw[r.length];exact hi
  exact⟨vs,vs[i],iS.of (aE _ _ (s.h _ _ h)),by simp[hv]⟩
 zZ:=fun i B' H' x Gw hi s hb ⟨e,y⟩=>by
  subst e;have q:=y vs (iS.of (aE _ _ (s.h _ _ h)));obtain⟨t,e1,r1⟩:=r.xi q;exact⟨ax.refl _,t,e1,r1.same s⟩
 stop:=fun B' H' s=>⟨vs,iS.of (aE _ _ (s.h _ _ h)),by rw[r.length];exact ak _⟩
theorem uL{K:PySem.W.Frag}{B:bZ}{H:Hp}{a:Addr}{vs:List V}{ts:List Tr}(h:ir K (aT B H) a vs)(r:aK K (aT B H) vs ts):jQ K B (Sj K a) H ts where
 go:=fun i B' H' hi s hb=>by
  have hv:i<vs.length:=by rw[r.length];exact hi
  exact⟨vs,vs[i],ax.tup aE (s.h.tup h),by simp[hv]⟩
 zZ:=fun i B' H' x Gw hi s hb ⟨e,y⟩=>by
  subst e;have q:=y vs (ax.tup aE (s.h.tup h));obtain⟨t,e1,r1⟩:=r.xi q;exact⟨ax.refl _,t,e1,r1.same s⟩
 stop:=fun B' H' s=>⟨vs,ax.tup aE (s.h.tup h),by rw[r.length];exact ak _⟩
theorem BR{K:PySem.W.Frag}{B:bZ}{H:Hp}(z:Str):jQ K B (Rh z) H (BQ z) where
 go:=fun i B' H' hi _ _=>by
  have h:i<z.cps.size:=by simpa[BQ]using hi
  exact h
 zZ:=fun i B' H' x Gw hi s hb ⟨e,c,hc,hx⟩=>by
  subst e;subst hx;refine⟨ax.refl _,.str ⟨#[c]⟩,?_,.str _ (by show 1<=jg;decide)⟩;unfold BQ;rw[aP,cu,hc]
  rfl
 stop:=fun B' H' s=>by simp[BQ,Rh]
theorem Gx{pins:List (Addr×Obj)}{σ:St}{H1:Hp}{s1:Shared}{R:It->Hp->Prop}{tg:Expr}{z:Str}{t:Tok}(I1:Inv X pins σ H1 s1)(q:R (Rh z) H1):wpAny (model X.prog X.w) X.A (pyIter (.str z t)) (Q2 X pins σ tg R) X.xe s1:=by
 have fin:∀b∈[s1.heap.objs.size],jy X pins H1 b:=fun b hb=>by
  have e:b=s1.heap.objs.size:=by simpa using hb
  rw[e];exact I1.ua (ak _) (I1.cp.fresh (ak _))
 cases ha:z.cps.all (· <128)
 ·exact wpAny_pyIter_wide ha ⟨s1.heap.objs.size,[s1.heap.objs.size],_,_,H1,rfl,I1.kept (t':=s1.toks) fun b o e=>aC _ e,
   xg (n:="str_iterator") (t:=t) (by decide) (fun A' hA=>Walks.strWide hA _ z t) fun _ _ _ _ _ st hq=>wpAny_pyIter_striter_wide st hq,⟨_,aU _ rfl,rfl,rfl⟩,fin,q⟩
 ·exact wpAny_pyIter_ascii ha ⟨s1.heap.objs.size,[s1.heap.objs.size],_,_,H1,rfl,I1.kept (t':=s1.toks) fun b o e=>aC _ e,
   xg (n:="str_ascii_iterator") (t:=t) (by decide) (fun A' hA=>Walks.strAscii hA _ z t) fun _ _ _ _ _ st hq=>wpAny_pyIter_striter_ascii st hq,⟨_,aU _ rfl,rfl,rfl⟩,fin,q⟩
theorem Oc{tg l:Expr}(hl:PE X l (tP X F)):PI X tg l (tI X fun ρ=>mn (F ρ)):=by
 intro pins s σ H R I ⟨B,ρ,hb,r,q⟩;refine eE (hl pins s σ H (fun x H1=>∃t,ax H H1/\Rep X.K (aT B H1) x t/\Fi X H (mn (.ok t)) fun ts=>∀J H',ax H H'->jQ X.K B J H' ts->R J H') I ⟨B,ρ,hb,r,q.bind.mono fun t qt v H1 s1 r1=>⟨t,s1,r1,qt⟩⟩) fun v s1 ⟨x,H1,I1,r1,t,sm,rt,k⟩=>?_
 have k:Fi X H (match t with
  |.tup ts=>.ok ts
  |.lst ts=>.ok ts
  |.str z=>.ok (BQ z)
  |_=>.bad) _:=k
 have fin:∀b∈[s1.heap.objs.size],jy X pins H1 b:=fun b hb=>by
  rw[cB.mp hb];exact I1.ua (ak _) (I1.cp.fresh (ak _))
 split at k
 ·obtain⟨a,vs,rfl,h,rr⟩:=rt.cZ;cases r1;obtain⟨aZ,rv,p,hz⟩:=I1.tuple (ax.tup aE h);exact i4 (show s1.heap.IsTuple a aZ.toArray from p) ⟨s1.heap.objs.size,[s1.heap.objs.size],_,_,H1,rfl,I1.kept (t':=s1.toks) fun b o e=>aC _ e,rV a _,⟨_,aU _ rfl,rfl,rfl⟩,fin,k _ H1 sm (uL h rr)⟩
 ·obtain⟨a,vs,rfl,h,rr⟩:=rt.lst_inv;cases r1;obtain⟨aZ,rv,p,hz⟩:=I1.list (iS.of (aE _ _ h));exact i6 p.isList ⟨s1.heap.objs.size,[s1.heap.objs.size],_,_,H1,rfl,I1.kept (t':=s1.toks) fun b o e=>aC _ e,ux a _,⟨_,aU _ rfl,rfl,rfl⟩,fin,k _ H1 sm (yW h rr)⟩
 ·obtain⟨rfl,_⟩:=rt.str_inv;obtain⟨t,rfl⟩:=(show∃t,v=Value.str _ t from r1);exact Gx I1 (k _ H1 sm (BR _))
 ·exact k.elim
def xo(lo:Int)(n:Nat):List Tr:=(List.range n).map fun k=>Tr.int (lo+(k:Nat))
theorem kQ(lo:Int)(n:Nat):(xo lo n).length=n:=by simp[xo]
theorem xp{K:PySem.W.Frag}{B:bZ}{H:Hp}(lo:Int)(n:Nat):jQ K B (Q5 lo n) H (xo lo n) where
 go:=fun i B' H' hi _ _=>by rw[kQ]at hi;exact hi
 zZ:=fun i B' H' x Gw hi s hb ⟨e,y⟩=>by
  subst e;subst y;rw[kQ]at hi;refine⟨ax.refl _,.int (lo+i),?_,.int _⟩;unfold xo;rw[aP,List.getElem?_range hi]
  rfl
 stop:=fun B' H' s=>by rw[kQ];exact ak _
def nX(l:Rs (List Tr)):Rs (List Tr):=l.bind fun ts=>match ts with
 |[.int j]=>if-4611686018427387904<=j/\j<4611686018427387904 then .ok (xo 0 j.toNat)else .bad
 |_=>.bad
theorem PI.weak {tg iter:Expr}{t t':TI}(h:PI X tg iter t)(w:∀σ H R,t' σ H R->t σ H R):PI X tg iter t':=fun pins s σ H R I q=>h pins s σ H R I (w σ H R q)
variable {L:az->Rs (List Tr)}{tg:Expr}{p:Pos}
theorem DR(hm:X.mg "range"=none)(ha:PA X [a] (Ah X L))(hg:Gl X "range":=by rfl) (hs:bt [a]=true:=by rfl):PI X tg (.Call (.Name "range" p) [a] [] pos) (tI X fun ρ=>nX (L ρ)):=
 (BF hg hm ha (by rw[ba _ _ (aI hs).1];rfl)).weak fun σ H R ⟨B,ρ,hb,r,q⟩=>⟨B,ρ,hb,r,q.bind.mono fun ts qt vs H1 s1 r1=>by
  split at qt
  ·rename_i j;cases r1 with
   |cons h1 r1=>
    cases h1;cases r1;split at qt
    ·rename_i hj;exact⟨j,rfl,by omega,by omega,qt _ H1 s1 (xp 0 _)⟩
    ·exact qt.elim
  ·exact qt.elim⟩
def FJ{α:Type}(r:Rs α):Rs α:=match r with
 |.ok a=>.ok a
 |_=>.bad
def l5(ix:List (Option Nat))(ρ:az):az:=ix.map fun o=>match o with
 |none=>.no
 |some j=>match ρ[j]? with
  |some (.sh t)=>.sh t
  |_=>.no
theorem bu.comp {K:PySem.W.Frag}{B B':bZ}{H H':Hp}{σ:St}{ρ:az}(ix:List (Option Nat))(h:bu K B H σ ρ)(s:cJ (aT B H) (aT B' H')):bu K B' H' (fw ix σ) (l5 ix ρ):=by
 have no:∀(i:Nat) (c:Cell),(l5 ix ρ)[i]?=some c->c=.no\/∃j t,ix[i]?=some (some j)/\ρ[j]?=some (.sh t)/\c=.sh t:=fun i c e=>by
  unfold l5 at e;rw[aP]at e;cases q:ix[i]? with
  |none=>rw[q]at e;cases e
  |some o=>
   rw[q]at e;cases o with
   |none=>exact .inl (Option.some.inj e).symm
   |some j=>
    have e':(match ρ[j]? with|some (Cell.sh t)=>Cell.sh t|_=>Cell.no)=c:=Option.some.inj e;split at e'
    ·rename_i t q2;exact .inr ⟨j,t,rfl,q2,e'.symm⟩
    ·exact .inl e'.symm
 refine⟨by unfold l5 fw;rw[ah,ah],fun i t e=>?_,fun i ts e=>?_,fun i j ts us D _ e=>?_⟩
 ·rcases no i _ e with q|⟨j,u,q1,q2,q3⟩
  ·cases q
  ·cases q3;obtain⟨v,e1,r1⟩:=h.sh j t q2;refine⟨v,?_,r1.same s⟩;unfold fw;rw[aP,q1];show some ((σ[j]?).join)=_;rw[e1]
   rfl
 ·rcases no i _ e with q|⟨j,u,q1,q2,q3⟩
  ·cases q
  ·cases q3
 ·rcases no i _ e with q|⟨j,u,q1,q2,q3⟩
  ·cases q
  ·cases q3
def mq(T:j3)(A:az->Rs Bool)(F:az->Rs Tr):List Tr->az->Rs (List Tr)
 |[],_=>.ok []
 |t::ts,ρ=>(FJ (T t ρ)).bind fun ρ1=>(FJ (A ρ1)).bind fun k=>if k then(FJ (F ρ1)).bind fun y=>(mq T A F ts ρ1).bind fun ys=>.ok (y::ys)else mq T A F ts ρ1
def iD(ix:List (Option Nat))(T:j3)(A:az->Rs Bool)(F:az->Rs Tr)(l:Rs (List Tr))(ρ:az):Rs Tr:=l.bind fun ts=>if ts.length<=ji then(mq T A F ts (l5 ix ρ)).bind fun ys=>.ok (.lst ys)else .bad
def fy(B:bZ)(D:Addr):bZ:=⟨fun b=>B.hd b||b==D,B.ix⟩
theorem ic{B:bZ}{D:Addr}{H:Hp}{o:HO}(hD:H D=none):cJ (aT B H) (aT (fy B D) (upd H D o)):=⟨fun b u e=>by
 have e1:=aE b u e;have ff:b≠D:=aQ e1 hD;have hB:B.hd b=false:=by
  cases q:B.hd b with
  |false=>rfl
  |true=>
   have e2:(if B.hd b=true then none else H b)=some u:=e;rw[q,ab rfl]at e2;cases e2
 rw[c_ (show(B.hd b||b==D)=false by rw[hB,eP ff];rfl),aj ff];exact e1,fun _ _ e=>e⟩
theorem Ak{B:bZ}{D:Addr}{H:Hp}{o:HO}(h:HB B H)(hD:H D=none)(ho:∀vs,o≠ .tup vs:=by exact fun _ z=>by cases z):HB (fy B D) (upd H D o):=fun b e=>by
 by_cases q:b=D
 ·subst q;exact⟨o,aG,ho⟩
 ·have e':(B.hd b||b==D)=true:=e;rw[eP q,nv]at e';rw[aj q];exact h b e'
theorem uM{B:bZ}{D:Addr}:(fy B D).hd D=true:=by show(B.hd D||D==D)=true;rw[bB,Bool.or_true]
theorem jj{B:bZ}{D:Addr}{H:Hp}{o:HO}:aT (fy B D) (upd H D o)=aT (fy B D) H:=by
 unfold aT;congr 1;funext b;by_cases q:b=D
 ·subst q;rw[ab uM,ab uM]
 ·rw[aj q]
theorem Gy{B:bZ}{D:Addr}:pO B (fy B D):=⟨fun b e=>by show(B.hd b||b==D)=true;rw[e,nF],fun _ _ e=>e⟩
theorem DT{B:bZ}{D:Addr}{H:Hp}:cJ (aT (fy B D) H) (aT B H):=so Gy
def dR(ρ:az):Prop:=∀(i:Nat) (ts:List Tr),ρ[i]? ≠some (.ow ts)
def gK(T:j3):Prop:=∀t ρ eS,dR ρ->T t ρ=.ok eS->dR eS
theorem dR.set {ρ:az}(h:dR ρ)(i:Nat)(t:Tr):dR (ρ.set i (.sh t)):=fun j ts e=>by
 rcases gR e with⟨_,_,q⟩|⟨_,q⟩
 ·cases q
 ·exact h j ts q
theorem eU(i:Nat):gK (gN i):=fun t ρ eS h e=>by cases e;exact h.set i t
theorem vJ:∀{is:List Nat} {ts:List Tr} {ρ eS:az},dR ρ->uK is ts ρ=.ok eS->dR eS
 |[],[],_,_,h,e=>by cases e;exact h
 |[],_::_,_,_,_,e=>by cases e
 |_::_,[],_,_,_,e=>by cases e
 |i::is,t::ts,_,_,h,e=>vJ (is:=is) (ts:=ts) (h.set i t) e
theorem Km(is:List Nat):gK (gT is):=fun t ρ eS h e=>by
 cases t with
 |tup ts=>exact vJ h e
 |_=>cases e
theorem nY(ix:List (Option Nat))(ρ:az):dR (l5 ix ρ):=fun i ts e=>by
 unfold l5 at e;rw[aP]at e;cases q:ix[i]? with
 |none=>rw[q]at e;cases e
 |some o=>
  rw[q]at e;cases o with
  |none=>cases e
  |some j=>
   have e':(match ρ[j]? with|some (Cell.sh t)=>Cell.sh t|_=>Cell.no)=.ow ts:=Option.some.inj e;split at e'<;>cases e'
theorem mH.eq {α:Type}{xc:Tr->Prop}{r:Rs α}{k:α->Prop}(h:mH xc r k):mH xc r fun a=>r=.ok a/\k a:=by
 cases r with
 |ok a=>exact⟨rfl,h⟩
 |_=>exact h
theorem yX{α:Type}{xc:Tr->Prop}{r:Rs α}{k:α->Prop}(h:mH xc (FJ r) k):∃a,r=.ok a/\k a:=by
 cases r with
 |ok a=>exact⟨a,rfl,h⟩
 |_=>exact h.elim
inductive Gz(K:PySem.W.Frag)(F:az->Rs Tr)(σ:St)(H:Hp)(Q:VK):Prop
 |mk (B:bZ) (ρ:az):HB B H->bu K B H σ ρ->(∃t,F ρ=.ok t/\∀v H',ax H H'->Rep K (aT B H') v t->Q v H')->Gz K F σ H Q
inductive GA(K:PySem.W.Frag)(F:az->Rs Bool)(σ:St)(H:Hp)(Q:Bool->Hp->Prop):Prop
 |mk (B:bZ) (ρ:az):HB B H->bu K B H σ ρ->(∃b,F ρ=.ok b/\∀H',ax H H'->Q b H')->GA K F σ H Q
inductive GB(K:PySem.W.Frag)(T:j3)(v:V)(σ:St)(H:Hp)(Q:St->Hp->Prop):Prop
 |mk (B:bZ) (ρ:az) (t:Tr):HB B H->bu K B H σ ρ->Rep K (aT B H) v t->(∃eS,T t ρ=.ok eS/\∀cf H',ax H H'->bu K B H' cf eS->Q cf H')->GB K T v σ H Q
theorem Kn{X:Cx}{F:az->Rs Tr}{σ:St}{H:Hp}{Q:VK}:Gz X.K F σ H Q->tP X F σ H Q:=fun⟨B,ρ,hb,r,t,e,q⟩=>⟨B,ρ,hb,r,by rw[e];exact q⟩
theorem Ko{X:Cx}{F:az->Rs Bool}{σ:St}{H:Hp}{Q:Bool->Hp->Prop}:GA X.K F σ H Q->tQ X F σ H Q:=fun⟨B,ρ,hb,r,t,e,q⟩=>⟨B,ρ,hb,r,by rw[e];exact q⟩
theorem Kp{X:Cx}{T:j3}{v:V}{σ:St}{H:Hp}{Q:St->Hp->Prop}:GB X.K T v σ H Q->tG X T v σ H Q:=fun⟨B,ρ,t,hb,r,rt,eS,e,q⟩=>⟨B,ρ,t,hb,r,rt,by rw[e];exact q⟩
theorem nZ{K:PySem.W.Frag}{J:It}{D:Addr}{B:bZ}{H:Hp}{Rc:St}{Ri:az}{ts:List Tr}{T:j3}{A:az->Rs Bool}{F:az->Rs Tr}{Q:Hp->Prop}(hT:gK T)(h0:dR Ri)(hb:HB B H)(gt:jQ K B J H ts)(hz:ts.length<=ji)(r:bu K (fy B D) (upd H D (.lst [])) Rc Ri)(hD:H D=none)
  {xc:Tr->Prop} {k:List Tr->Prop} (q:mH xc (mq T A F ts Ri) k) (hQ:∀ys H',k ys->ax H H'->Rep K (aT B H') (.ref D) (.lst ys)->Q H'):SV J D Rc (upd H D (.lst [])) (GB K T) (GA K A) (Gz K F) Q:=by
 refine⟨fun i m σ H'=>m=ts.length - i/\i<=ts.length/\ax H H'/\HB (fy B D) H'/\cJ (aT B H) (aT (fy B D) H')/\∃ρ vs us,dR ρ/\bu K (fy B D) H' σ ρ/\H' D=some (.lst vs)/\vs.length<=i/\aK K (aT (fy B D) H') vs us/\mH xc (mq T A F (ts.drop i) ρ) (fun ys=>k (us++ys)),
  ⟨_,rfl,bP _,ax.upd hD,Ak hb hD,ic hD,Ri,[],[],h0,r,aG,ak _,.nil,q⟩,?_⟩
 rintro i m σ H' ⟨rfl,hi,sm,lK,gA,ρ,vs,us,no,rs,hd,hl,rv,q'⟩
 by_cases eG:i<ts.length
 ·rw[lI eG]at q';refine .inr ⟨gt.go i _ H' eG gA lK,fun rX H2=>ax H H2/\HB (fy B D) H2/\cJ (aT B H) (aT (fy B D) H2)/\∃ρ vs us,dR ρ/\bu K (fy B D) H2 rX ρ/\H2 D=some (.lst vs)/\vs.length<=i+1/\aK K (aT (fy B D) H2) vs us/\mH xc (mq T A F (ts.drop (i+1)) ρ) (fun ys=>k (us++ys)),
   fun rX H2 h=>⟨ts.length - (i+1),by omega,rfl,eG,h⟩,fun x H2 hx=>?_⟩
  obtain⟨s2,t,et,rt⟩:=gt.zZ i _ H' x H2 eG gA lK hx;have Od:ts[i]=t:=by rw[aB eG]at et;exact Option.some.inj et
  rw[Od]at q';obtain⟨ρ1,eT,q1⟩:=yX (mH.bind q');have S7:=hT t ρ ρ1 no eT;refine⟨_,ρ,t,lK.same s2,rs.same s2,rt,ρ1,eT,fun yJ H3 s3 r3=>?_⟩;have Vt:=s2.trans s3;obtain⟨c,eA,qc⟩:=yX (mH.bind q1);refine⟨_,ρ1,lK.same Vt,r3,c,eA,fun H4 s4=>?_⟩;have Kq:=Vt.trans s4;have g4:ax H H4:=sm.trans Kq;cases c with
  |false=>
   exact J5 ⟨g4,lK.same Kq,gA.trans (bc Kq),ρ1,vs,us,S7,r3.same s4,Kq _ _ hd,by omega,rv.same (bc Kq),qc⟩
  |true=>
   obtain⟨y,eF,qy⟩:=yX (mH.bind qc);refine J7 ⟨_,ρ1,lK.same Kq,r3.same s4,y,eF,fun v H5 s5 r5=>?_⟩;have Oe:=Kq.trans s5;refine⟨vs,Oe _ _ hd,by rw[<-iO];omega,(sm.trans Oe).Kb hD,?_,?_,ρ1,vs++[v],us++[y],S7,?_,aG,by rw[aY];exact Nat.add_le_add_right hl 1,?_,?_⟩
   ·intro b e;by_cases q:b=D
    ·subst q;exact⟨_,aG,fun _ z=>by cases z⟩
    ·rw[aj q];exact(lK.same Oe) b e
   ·rw[jj];exact gA.trans (bc Oe)
   ·have S8:=(r3.same s4).same s5;refine⟨S8.len,fun i t e=>?_,fun i ts e=>(S7 i ts e).elim,S8.ap⟩;rw[jj];exact S8.sh i t e
   ·rw[jj];exact(rv.same (bc Oe)).append (.cons r5 .nil)
   ·exact(mH.bind qy).mono fun ys q=>by rw[fV];exact q
 ·have e:i=ts.length:=by omega
  subst e;rw[m9]at q';refine .inl ⟨gt.stop _ H' gA,hQ us H' (by have:=(show k (us++[])from q');rw[dW]at this;exact this) sm (.lst ?_ (rv.same DT))⟩;rw[c_ (hb.free hD)];exact hd
variable {scope:Scope}{N':List Str}{ix:List (Option Nat)}{elt iter:Expr}{ifs:List Expr}{T:j3}{W:az->Rs (List Tr)}
theorem Of{X:Cx}:PF X [] (tQ X fun _=>.ok true):=fun pins s σ H Q I ⟨B,ρ,hb,r,q⟩=>DN pins s σ H Q I (q H (ax.refl H))
theorem Og{X:Cx}{c:Expr}{A:az->Rs Bool}(h:PT X c (tQ X A)):PF X [c] (tQ X A):=J9 h
theorem xq{σ:St}{H:Hp}{Q:VK}(hT:gK T)(q:tP X (fun ρ=>iD ix T A F (W ρ) ρ) σ H Q):J_ (tI X W) ix (GB X.K T) (GA X.K A) (Gz X.K F) σ H Q:=by
 obtain⟨B,ρ,hb,r,q⟩:=q;refine⟨B,ρ,hb,r,q.bind.mono fun ts qt J H1 s1 gt D hD=>?_⟩;by_cases hz:ts.length<=ji
 ·rw[ab hz]at qt;exact nZ hT (nY ix ρ) (hb.same s1) gt hz ((r.same s1).comp ix (ic hD)) hD (Fi.bind qt) fun ys H' k s' rp=>k _ H' (s1.trans s') rp
 ·rw[af hz]at qt;exact qt.elim
structure Iz(X:Cx)(scope:Scope)(N':List Str)(tg elt:Expr)(ifs:List Expr)(T:j3)(A:az->Rs Bool)(F:az->Rs Tr):Prop where
 all:∀s H ex,PG (mG X scope N' s H ex) tg (tG (mG X scope N' s H ex) T)/\PF (mG X scope N' s H ex) ifs (tQ (mG X scope N' s H ex) A)/\PE (mG X scope N' s H ex) elt (tP (mG X scope N' s H ex) F)
theorem Iz.Mx {X:Cx}{scope:Scope}{N':List Str}{tg elt:Expr}{ifs:List Expr}{T:j3}{A:az->Rs Bool}{F:az->Rs Tr}(h:Iz X scope N' tg elt ifs T A F):∀s H ex,PG (mG X scope N' s H ex) tg (GB X.K T)/\PF (mG X scope N' s H ex) ifs (GA X.K A)/\PE (mG X scope N' s H ex) elt (Gz X.K F):=fun s H ex=>by
 obtain⟨h1,h2,h3⟩:=h.all s H ex;exact⟨fun pins s σ H v u Q I r q=>h1 pins s σ H v u Q I r (Kp q),fun pins s σ H Q I q=>h2 pins s σ H Q I (Ko q),fun pins s σ H Q I q=>h3 pins s σ H Q I (Kn q)⟩
theorem S9(Lk:fL X N' ix scope)(hi:PI X tg iter (tI X W))(j1:Iz X scope N' tg elt ifs T A F)(hT:gK T)(hc:X.calm=true:=by rfl) (hs:isSet iter=false:=by rfl):
  PE X (.ListComp elt [⟨tg,iter,ifs,0⟩] scope pos) (tP X fun ρ=>iD ix T A F (W ρ) ρ):=
 (Af Lk hc hi j1.Mx (dF hs)).weak fun σ H Q q=>xq hT q
def kR(r:Rs Out):Rs Tr:=r.bind fun o=>match o with
 |.nx _=>.ok .cD
 |.ret t=>.ok t
 |_=>.bad
theorem uf.WR {P:Program}{w:World}{K:PySem.W.Frag}{mg:Str->Option Value}{base:Heap}{x qual:Str}{st:Stmt}{f:Addr}{fd:FuncData}{N ps:List Str}{k:Nat}{h:List Tr->Rs Tr}(Fn:uf K x qual st f fd)(S:d0 N ps (aF st))(len:∀ts t,h ts=.ok t->ts.length=ps.length)
  (ib:∀(du:Value) (A:Around) (outer:List Env) (s:Shared) (H:Hp) (E:XK),dE k (A.deeper (envOfC qual (aF st) s.heap.objs.size f du))->
   ∃G,kD (jZ oS P w K mg base N qual (aF st) f du A outer s H E).C8 (dv st) (tS (jZ oS P w K mg base N qual (aF st) f du A outer s H E).C8 G)/\∀ts t,h ts=.ok t->kR (G (startT N.length ts))=.ok t):ia P w K mg base oS (k+1) f fd ps (spT K h):=by
 refine Fn.ok S (fun vs H Q E q=>?_) (fun du A outer s H vs Q E hr q=>?_)
 ·obtain⟨B,ts,hb,r,t,e,_⟩:=q;rw[r.length];exact len ts t e
 ·obtain⟨B,ts,hb,r,t,e,q⟩:=q;obtain⟨G,hG,hE⟩:=ib du A outer s H E hr;refine⟨_,hG,B,B,H,B,startT N.length ts,dj.refl hb pO.refl,bu.start r,?_⟩;have e1:=hE ts t e;cases eo:G (startT N.length ts)with
  |ok o=>
   rw[eo]at e1;cases o with
   |nx ρ=>cases e1;exact fun cf B' H' si r'=>q .cD H' si.same .cD
   |ret u=>cases e1;exact fun v B' H' si r'=>q v H' si.same r'
   |_=>cases e1
  |_=>rw[eo]at e1;cases e1
end
end L2
namespace L2
open PySem PySem.Spec PyProof.Rows
section
variable {X:Cx}
theorem GC:t4 X (binaryOp .Add) (fun x y H Q=>∃(a b:Addr) (xs ys:List V),x=.ref a/\y=.ref b/\ir X.K H a xs/\ir X.K H b ys/\xs.length+ys.length<=sizeLine/\(xs=[]->Q (.ref b) H)/\(ys=[]->Q (.ref a) H)/\∀p,H p=none->Q (.ref p) (upd H p (.tup (xs++ys)))):=by
 intro pins s σ H x y v u Q I rx ry h;obtain⟨a,b,xs,ys,rfl,rfl,ha,hb,hz,q1,q2,q3⟩:=h;by_cases hx:xs=[]
 ·subst hx;cases(show v=Value.ref a from rx);cases(show u=Value.ref b from ry);obtain⟨i1,r1,p1,_⟩:=I.tuple ha;obtain⟨i2,r2,p2,_⟩:=I.tuple hb;cases r1;obtain⟨dd,n,sl,h1⟩:=o4 p1;obtain⟨FI,n2,Im,h2⟩:=o4 p2;exact concat_meets ⟨_,h1,rfl⟩ ⟨_,h2,rfl⟩ noFill_tuple_add seq_tuple_add qZ qY (qX _ _) (tuple_addW0 a b _ _ n n2 dd FI sl Im rfl) ⟨h1,h2,⟨.ref b,H,I,rfl,q1 rfl⟩⟩
 ·exact Gb pins s σ H _ _ v u Q I rx ry ⟨a,b,xs,ys,rfl,rfl,ha,hb,hx,hz,q2,fun _ p hp=>q3 p hp⟩
theorem Rep.up {K:PySem.W.Frag}{B:bZ}{H:Hp}{v:V}{t:Tr}(r:Rep K (aT B H) v t):Rep K (raw B H) v t:=r.same vF
theorem ir.up {K:PySem.W.Frag}{B:bZ}{H:Hp}{a:Addr}{xs:List V}(h:ir K (aT B H) a xs):ir K H a xs:=ax.tup aE h
theorem ie{B:bZ}{H:Hp}{a:Addr}{o:HO}(h:aT B H a=some o):H a=some o:=aE _ _ h
theorem Rep.Oh {K:PySem.W.Frag}{B:bZ}{H:Hp}{p:Addr}{vs:List V}{ts:List Tr}(hb:HB B H)(hp:H p=none)(r:aK K (aT B H) vs ts):Rep K (aT B (upd H p (.tup vs))) (.ref p) (.tup ts):=.tup (hb.new hp) (r.same (bc (ax.upd hp)))
theorem Rep.yY {K:PySem.W.Frag}{B:bZ}{H:Hp}{p:Addr}{vs:List V}{ts:List Tr}(hb:HB B H)(hp:H p=none)(r:aK K (aT B H) vs ts):Rep K (aT B (upd H p (.lst vs))) (.ref p) (.lst ts):=.lst (hb.new hp) (r.same (bc (ax.upd hp)))
theorem xr{K:PySem.W.Frag}{H:Vw}{ts:List Tr}(h:aK K H [] ts):ts=[]:=by cases h;rfl
theorem Kr{a b:Str}(h:a.length+b.length<=jg):(a++b).length<=jg:=by rw[PySem.Str.length_append];exact h
def gn:Tr->Tr->Rs Tr
 |.int i,.int j=>.ok (.int (i+j))
 |.str a,.str b=>if a.length+b.length<=jg then .ok (.str (a++b))else .bad
 |.tup a,.tup b=>if a.length+b.length<=ji then .ok (.tup (a++b))else .bad
 |.lst a,.lst b=>if a.length+b.length<=ji then .ok (.lst (a++b))else .bad
 |_,_=>.bad
theorem gp{α:Type}{H:Hp}{c:Prop}[Decidable c]{t:α}{k:α->Prop}(h:Fi X H (if c then Rs.ok t else .bad) k):c/\k t:=by
 by_cases hc:c
 ·rw[ab hc]at h;exact⟨hc,h⟩
 ·rw[af hc]at h;exact h.elim
theorem kT:uI X (binaryOp .Add) gn:=by
 intro pins s σ H x y v u Q I rx ry ⟨B,tx,ty,hb,r1,r2,q⟩;unfold gn at q;split at q
 ·exact JG pins s σ H _ _ v u Q I rx ry ⟨_,_,r1.int_inv,r2.int_inv,q _ H (ax.refl H) (.int _)⟩
 ·have f:=gp q;exact yP pins s σ H _ _ v u Q I rx ry ⟨_,_,r1.str_inv.1,r2.str_inv.1,bx f.1 qI,f.2 _ H (ax.refl H) (.str _ (Kr f.1))⟩
 ·have f:=gp q;obtain⟨a,as,e1,h1,GD⟩:=r1.cZ;obtain⟨b,bs,e2,h2,My⟩:=r2.cZ;exact GC pins s σ H _ _ v u Q I rx ry ⟨_,_,_,_,e1,e2,h1.up,h2.up,by rw[GD.length,My.length,<-iO];exact f.1,fun e=>f.2 _ H (ax.refl H) (by subst e;rw[xr GD,<-e2];exact r2),fun e=>f.2 _ H (ax.refl H) (by subst e;rw[xr My,dW,<-e1];exact r1),fun p hp=>f.2 _ _ (ax.upd hp) (.Oh hb hp (GD.append My))⟩
 ·have f:=gp q;obtain⟨a,as,e1,h1,GD⟩:=r1.lst_inv;obtain⟨b,bs,e2,h2,My⟩:=r2.lst_inv;exact JX pins s σ H _ _ v u Q I rx ry ⟨_,_,_,_,e1,e2,ie h1,ie h2,by rw[GD.length,My.length,<-iO];exact f.1,fun p hp=>f.2 _ _ (ax.upd hp) (.yY hb hp (GD.append My))⟩
 ·exact(show False from q).elim
def ug:Tr->Tr->Rs Tr
 |.int i,.int j=>if 0<j then .ok (.int (i % j))else .bad
 |_,_=>.bad
theorem DU:uI X (binaryOp .Mod) ug:=by
 intro pins s σ H x y v u Q I rx ry ⟨B,tx,ty,hb,r1,r2,q⟩;unfold ug at q;split at q
 ·have f:=gp q;exact JI pins s σ H _ _ v u Q I rx ry ⟨_,_,r1.int_inv,r2.int_inv,f.1,f.2 _ H (ax.refl H) (.int _)⟩
 ·exact(show False from q).elim
def pP(i j:Int):Prop:=(-18446744073709551616<i/\i<18446744073709551616)\/(-18446744073709551616<j/\j<18446744073709551616)
theorem pP.cm {i j:Int}(h:pP i j):Dw i j:=by
 unfold pP at h;unfold Dw;omega
instance (i j:Int):Decidable (pP i j):=by unfold pP;infer_instance
def jD:Tr->Tr->Rs Tr
 |.int i,.int j=>if pP i j then .ok (.int (i*j))else .bad
 |.str z,.int n=>if 0<=n/\n<=1000/\z.length<=1000 then .ok (.str (Txt.mul z n))else .bad
 |.lst ts,.int n=>if 0<=n/\n<=1000/\ts.length*n.toNat<=ji then .ok (.lst (List.replicate n.toNat ts).flatten)else .bad
 |_,_=>.bad
theorem GF:t4 X (binaryOp .Mult) (fun x y H Q=>∃(l:Addr) (k:Int) (xs:List V),x=.ref l/\y=.int k/\H l=some (.lst xs)/\-(2 ^63)<=k/\k<2 ^63/\xs.length*k.toNat<=sizeLine/\∀p,H p=none->Q (.ref p) (upd H p (.lst (List.replicate k.toNat xs).flatten))):=JY
theorem GG{z:Str}{n:Int}(h0:0<=n)(h1:n<=1000)(hz:z.length<=1000):(Txt.mul z n).length<=jg:=by
 have e:=PyProof.Rows.len_mul z n;split at e
 ·have:((Txt.mul z n).length:Int)=0:=e;unfold jg;omega
 ·have h2:(z.length:Int)*n<=1000*1000:=Int.mul_le_mul (by omega) h1 h0 (by decide);have e':((Txt.mul z n).length:Int)=(z.length:Int)*n:=e;unfold jg;omega
theorem uN:uI X (binaryOp .Mult) jD:=by
 intro pins s σ H x y v u Q I rx ry ⟨B,tx,ty,hb,r1,r2,q⟩;unfold jD at q;split at q
 ·have f:=gp q;exact JH pins s σ H _ _ v u Q I rx ry ⟨_,_,r1.int_inv,r2.int_inv,f.1.cm,f.2 _ H (ax.refl H) (.int _)⟩
 ·have f:=gp q;exact Gn pins s σ H _ _ v u Q I rx ry ⟨_,_,r1.str_inv.1,r2.int_inv,PyProof.Rows.mulOk_of 1000 1000 f.1.2.2 f.1.2.1 (Int.le_trans (by decide) f.1.1) (by decide) (by decide),f.2 _ H (ax.refl H) (.str _ (GG f.1.1 f.1.2.1 f.1.2.2))⟩
 ·have f:=gp q;obtain⟨a,as,e1,h1,GD⟩:=r1.lst_inv;exact GF pins s σ H _ _ v u Q I rx ry ⟨_,_,_,e1,r2.int_inv,ie h1,Int.le_trans (by decide) f.1.1,Int.lt_of_le_of_lt f.1.2.1 (by decide),by rw[GD.length,<-iO];exact f.1.2.2,fun p hp=>f.2 _ _ (ax.upd hp) (.yY hb hp (GD.rep _))⟩
 ·exact(show False from q).elim
end
end L2
namespace L2
open PySem PySem.Spec PyProof.Rows
mutual
def eqT:Tr->Tr->Bool
 |.cD,.cD=>true
 |.bl a,.bl b=>a==b
 |.bl a,.int b=>(if a then 1 else 0)==b
 |.int a,.bl b=>a==(if b then 1 else 0)
 |.int a,.int b=>a==b
 |.str a,.str b=>a==b
 |.tup a,.tup b=>uh a b
 |.lst a,.lst b=>uh a b
 |_,_=>false
def uh:List Tr->List Tr->Bool
 |[],[]=>true
 |x::xs,y::ys=>eqT x y&&uh xs ys
 |_,_=>false
end
mutual
def n5:Tr->Bool
 |.cD=>true
 |.bl _=>true
 |.int _=>true
 |.str _=>true
 |.tup ts=>jk ts
 |.lst ts=>jk ts
 |_=>false
def jk:List Tr->Bool
 |[]=>true
 |t::ts=>n5 t&&jk ts
end
mutual
def dT:Tr->Nat
 |.tup ts=>uO ts+1
 |.lst ts=>uO ts+1
 |_=>0
def uO:List Tr->Nat
 |[]=>0
 |t::ts=>max (dT t) (uO ts)
end
theorem gq:∀{ts:List Tr},jk ts=true->∀t∈ts,n5 t=true
 |[],_,t,h=>nomatch h
 |u::us,h,t,m=>by
  rw[jk,aJ]at h;rcases aN.mp m with rfl|m
  ·exact h.1
  ·exact gq h.2 t m
theorem n6:∀{ts:List Tr},∀t∈ts,dT t<=uO ts
 |[],t,h=>nomatch h
 |u::us,t,m=>by
  rw[uO];rcases aN.mp m with rfl|m
  ·exact Nat.le_max_left _ _
  ·exact bx (n6 t m) (Nat.le_max_right _ _)
theorem n8:∀(xs ys:List Tr),((List.range (min xs.length ys.length)).all (fun j=>eqT (xs.getD j .cD) (ys.getD j .cD))&&xs.length==ys.length)=uh xs ys
 |[],[]=>rfl
 |[],y::ys=>rfl
 |x::xs,[]=>rfl
 |x::xs,y::ys=>by
  have ih:=n8 xs ys;rw[uh,<-ih,br,br,Nat.succ_min_succ,List.range_succ_eq_map,hJ,List.all_map,Bool.and_assoc];congr 1;have e1:(xs.length+1==ys.length+1)=(xs.length==ys.length):=by rw[nh,h9,h9];omega
  rw[e1]
  rfl
section
variable {A:Around}{s:Shared}
theorem Al{v u:Value}{k:Bool}(hv:∀b t,v≠Value.float b t)(hs:v=u->k=true)(h:SeqAt.RcAt A s v u k):SeqAt.EqAt A s v u k:=fun prog w E Q hq=>by
 unfold eqBool;refine cn ?_
 refine fZ (fun ui=>?_) (fun _=>?_)
 ·rw[hs (eq_of_beq ui)]at hq;exact aa (fv (ae hq))
 ·cases v with
  |float b t=>exact absurd rfl (hv b t)
  |_=>exact aa (h prog w E _ (nc hq))
end
section
variable {X:Cx}{pins:List (Addr×Obj)}{σ:St}{H:Hp}{xt:Addr->Option Nat}{s:Shared}
theorem pQ(I:Inv X pins σ H s){a:Addr}{vs ws:List V}(h1:ir X.K H a vs)(h2:H a=some (.lst ws)):False:=by
 obtain⟨_,_,⟨o,e,c,_⟩,_⟩:=I.tuple h1;obtain⟨_,aZ,n,_,e2⟩:=I.cp a _ h2;rw[e]at e2;cases e2;exact absurd c (by show¬(Value.type "list"=.type "tuple");decide+kernel)
def vT:V->Tr
 |.cD=>.cD
 |.bl b=>.bl b
 |.int i=>.int i
 |.str z=>.str z
 |_=>.at 0
theorem kU{K:PySem.W.Frag}{W:Vw}{x:V}{t:Tr}(r:Rep K W x t)(p:n5 t=true):(∃ts,t=.tup ts)\/(∃ts,t=.lst ts)\/t=vT x:=by
 cases r<;>first|(cases p;done)|exact .inr (.inr rfl)|exact .inl ⟨_,rfl⟩|exact .inr (.inl ⟨_,rfl⟩)
theorem n_{K:PySem.W.Frag}{W:Vw}{x:V}{t t':Tr}(e:t=vT x)(p:n5 t=true)(p':n5 t'=true)(r':Rep K W x t'):t=t':=by
 rcases kU r' p' with⟨ts,rfl⟩|⟨ts,rfl⟩|e'
 ·obtain⟨a,_,rfl,_⟩:=r'.cZ;rw[e]at p;cases p
 ·obtain⟨a,_,rfl,_⟩:=r'.lst_inv;rw[e]at p;cases p
 ·rw[e,e']
theorem Am(I:Inv X pins σ H s):∀(n:Nat) {x:V} {t t':Tr},dT t<=n->n5 t=true->n5 t'=true->Rep X.K (⟨H,xt⟩:Vw) x t->Rep X.K (⟨H,xt⟩:Vw) x t'->t=t':=by
 intro n
 induction n with
 |zero=>
  intro x t t' hd p p' r r';rcases kU r p with⟨ts,rfl⟩|⟨ts,rfl⟩|e
  ·exact absurd hd (Nat.not_succ_le_zero _)
  ·exact absurd hd (Nat.not_succ_le_zero _)
  ·exact n_ e p p' r'
 |succ n ih=>
  intro x t t' hd p p' r r';have go:∀{vs:List V} {ts mI:List Tr},uO ts<=n->jk ts=true->jk mI=true->aK X.K (⟨H,xt⟩:Vw) vs ts->aK X.K (⟨H,xt⟩:Vw) vs mI->ts=mI:=by
   intro vs ts mI k1 k2 k3;have h1:=fun t m=>bx (n6 (ts:=ts) t m) k1;have h2:=gq k2;have h3:=gq k3
   clear hd p p' r r' k1 k2 k3
   induction vs generalizing ts mI with
   |nil=>intro q q';cases q;cases q';rfl
   |cons v vs WS=>
    intro(.cons qh qr) (.cons WT WU);rw[List.forall_mem_cons]at h1 h2 h3;rw[ih h1.1 h2.1 h3.1 qh WT,WS h1.2 h2.2 h3.2 qr WU]
  rcases kU r p with⟨ts,rfl⟩|⟨ts,rfl⟩|e
  ·rcases kU r' p' with⟨mI,rfl⟩|⟨mI,rfl⟩|e
   ·obtain⟨a,vs,rfl,h,rr⟩:=r.cZ;obtain⟨_,GH,e,h',xu⟩:=r'.cZ;cases e;cases I.lJ h h';rw[go (Nat.le_of_succ_le_succ hd) p p' rr xu]
   ·obtain⟨a,vs,rfl,h,rr⟩:=r.cZ;obtain⟨_,GH,e,h',xu⟩:=r'.lst_inv;cases e;exact(pQ I h h').elim
   ·exact(n_ e p' p r).symm
  ·rcases kU r' p' with⟨mI,rfl⟩|⟨mI,rfl⟩|e
   ·obtain⟨a,vs,rfl,h,rr⟩:=r.lst_inv;obtain⟨_,GH,e,h',xu⟩:=r'.cZ;cases e;exact(pQ I h' h).elim
   ·obtain⟨a,vs,rfl,h,rr⟩:=r.lst_inv;obtain⟨_,GH,e,h',xu⟩:=r'.lst_inv;cases e;cases h.symm.trans h';rw[go (Nat.le_of_succ_le_succ hd) p p' rr xu]
   ·exact(n_ e p' p r).symm
  ·exact n_ e p p' r'
mutual
theorem kX:∀{t:Tr},n5 t=true->eqT t t=true
 |.cD,_=>rfl
 |.bl b,_=>by rw[eqT];exact bB b
 |.int i,_=>by rw[eqT];exact bB i
 |.str z,_=>by rw[eqT];exact bB z
 |.tup ts,h=>by rw[eqT];rw[n5]at h;exact o7 h
 |.lst ts,h=>by rw[eqT];rw[n5]at h;exact o7 h
 |.ty _,h=>by cases h
 |.gB _,h=>by cases h
 |.kN _,h=>by cases h
 |.at _,h=>by cases h
 |.bj _,h=>by cases h
 |.ob _ _,h=>by cases h
 |.Ag _,h=>by cases h
theorem o7:∀{ts:List Tr},jk ts=true->uh ts ts=true
 |[],_=>rfl
 |t::ts,h=>by
  rw[jk,aJ]at h;rw[uh,kX h.1,o7 h.2]
  rfl
end
theorem lM{α:Type}{l:List α}{j:Nat}{x d:α}(h:l[j]?=some x):l.getD j d=x:=by rw[bb,h];rfl
inductive Sh(K:PySem.W.Frag)(G:Vw)(h:Heap):Tr->Value->Prop
 |cD:Sh K G h .cD .none
 |bl (b:Bool):Sh K G h (.bl b) (.bool b)
 |int (b:Int) (w:Tok):Sh K G h (.int b) (.int b w)
 |str (b:Str) (w:Tok):Sh K G h (.str b) (.str b w)
 |tup {a:Addr} {vs:List V} {ts:List Tr} {us:List Value} (q:h.IsTuple a us.toArray) (rr:aK K G vs ts) (rv:Vals vs us):Sh K G h (.tup ts) (.ref a)
 |lst {a:Addr} {vs:List V} {ts:List Tr} {us:List Value} (q:h.IsList a us.toArray) (rr:aK K G vs ts) (rv:Vals vs us):Sh K G h (.lst ts) (.ref a)
theorem vK(I:Inv X pins σ H s){x:V}{v:Value}{t:Tr}(p:n5 t=true)(r:Rep X.K (⟨H,xt⟩:Vw) x t)(rx:RelV x v):Sh X.K ⟨H,xt⟩ s.heap t v:=by
 cases r with
 |cD=>cases(show v=Value.none from rx);exact .cD
 |bl b=>cases(show v=Value.bool b from rx);exact .bl b
 |int b=>obtain⟨w,rfl⟩:=(show∃t,v=Value.int b t from rx);exact .int b w
 |str b _=>obtain⟨w,rfl⟩:=(show∃t,v=Value.str b t from rx);exact .str b w
 |@tup a _ _ h rr=>cases(show v=Value.ref a from rx);obtain⟨_,rv,q,_⟩:=I.tuple (S5 h);exact .tup q rr rv
 |@lst a _ _ h rr=>cases(show v=Value.ref a from rx);obtain⟨_,rv,q,_⟩:=I.list (.of h);exact .lst q.isList rr rv
 |_=>cases p
theorem An(I:Inv X pins σ H s)(n:Nat){A:Around}{x y:V}{v u:Value}{t t':Tr}(hd:dT t<=n)(p:n5 t=true)(p':n5 t'=true)(r:Rep X.K (⟨H,xt⟩:Vw) x t)(r':Rep X.K (⟨H,xt⟩:Vw) y t')(rx:RelV x v)(ry:RelV y u)(q:SeqAt.RcAt A s v u (eqT t t')):SeqAt.EqAt A s v u (eqT t t'):=by
 refine Al (fun b t e=>?_) (fun e=>?_) q
 ·subst e;cases r<;>first|(obtain⟨_,z⟩:=rx;cases z;done)|(cases rx;done)
 subst e;rw[rx.inj ry]at r;rw[<-Am I n hd p p' r r'];exact kX p
theorem Ap{K:PySem.W.Frag}{G:Vw}{A:Around}{v u:Value}{t t':Tr}(S:Sh K G s.heap t v)(S':Sh K G s.heap t' u)(hu:A.units<cLine):(SeqAt.RcAt A s v u (eqT t t')/\SeqAt.RcNeAt A s v u (!eqT t t'))\/∃ts mI,(t=.tup ts/\t'=.tup mI)\/(t=.lst ts/\t'=.lst mI):=by
 cases S<;>cases S'<;>first|exact .inr ⟨_,_,.inl ⟨rfl,rfl⟩⟩|exact .inr ⟨_,_,.inr ⟨rfl,rfl⟩⟩|(refine .inl ⟨?_,?_⟩<;>simp only[eqT,nr,eQ]<;>with_reducible first|exact .none_none|exact .none_bool _|exact .none_int _ _|exact .none_str _ _|exact .none_tuple ‹_› hu|exact .none_list ‹_› hu|exact .bool_none _|exact .bool_bool _ _|exact .bool_int _ _ _|exact .bool_str _ _ _|exact .bool_tuple _ ‹_› hu|exact .bool_list _ ‹_› hu|exact .int_none _ _|exact .int_bool _ _ _|exact .int_int _ _ _ _|exact .int_str _ _ _ _|exact .int_tuple _ _ ‹_› hu|exact .int_list _ _ ‹_› hu|exact .str_none _ _|exact .str_bool _ _ _|exact .str_int _ _ _ _|exact .str_str _ _ _ _|exact .str_tuple _ _ ‹_› hu|exact .str_list _ _ ‹_› hu|exact .tuple_none ‹_› hu|exact .tuple_bool _ ‹_› hu|exact .tuple_int _ _ ‹_› hu|exact .tuple_str _ _ ‹_› hu|exact .tuple_list ‹_› ‹_› hu|exact .list_none ‹_› hu|exact .list_bool _ ‹_› hu|exact .list_int _ _ ‹_› hu|exact .list_str _ _ ‹_› hu|exact .list_tuple ‹_› ‹_› hu)
theorem Ks(I:Inv X pins σ H s):∀(n:Nat) {A:Around} {x y:V} {v u:Value} {t t':Tr},dT t<=n->n5 t=true->n5 t'=true->Rep X.K (⟨H,xt⟩:Vw) x t->Rep X.K (⟨H,xt⟩:Vw) y t'->RelV x v->RelV y u->A.units+n<cLine->SeqAt.RcAt A s v u (eqT t t')/\SeqAt.RcNeAt A s v u (!eqT t t'):=by
 intro n
 induction n with
 |zero=>
  intro A x y v u t t' hd p p' r r' rx ry hu;rcases Ap (vK I p r rx) (vK I p' r' ry) (A:=A) (by omega)with h|⟨_,_,⟨rfl,_⟩|⟨rfl,_⟩⟩
  ·exact h
  all_goals exact absurd hd (by rw[dT];omega)
 |succ n ih=>
  intro A x y v u t t' hd p p' r r' rx ry hu;have hv:A.units<cLine:=by omega
  have items:∀{vs GH:List V} {us uP:List Value} {ts mI:List Tr},uO ts<=n->jk ts=true->jk mI=true->aK X.K (⟨H,xt⟩:Vw) vs ts->aK X.K (⟨H,xt⟩:Vw) GH mI->Vals vs us->Vals GH uP->∀(j:Nat) (h1:j<us.toArray.size) (h2:j<uP.toArray.size),
    SeqAt.EqAt A.in1 s us.toArray[j] uP.toArray[j] (eqT (ts.getD j .cD) (mI.getD j .cD)):=by
   intro vs GH us uP ts mI d1 q1 q2 rr xu rv FK j h1 h2;replace h1:j<us.length:=h1;replace h2:j<uP.length:=h2;have k1:=aB (Nat.lt_of_lt_of_eq h1 rv.length.symm);have k2:=aB (Nat.lt_of_lt_of_eq h2 FK.length.symm);obtain⟨t1,e1,p1⟩:=rr.xi k1;obtain⟨t2,e2,p2⟩:=xu.xi k2;obtain⟨w1,f1,g1⟩:=rv.get k1;obtain⟨w2,f2,g2⟩:=FK.get k2;rw[aB h1]at f1;rw[aB h2]at f2;rw[List.getElem_toArray,List.getElem_toArray,Option.some.inj f1,Option.some.inj f2,lM e1,lM e2];have m1:=bw e1;have q2:=gq q2 _ (bw e2);have q1:=gq q1 _ m1;have d:=bx (n6 _ m1) d1;exact An I n d q1 q2 p1 p2 g1 g2 (ih d q1 q2 p1 p2 g1 g2 (by show A.units+1+n<cLine;omega)).1
  have S:=vK I p r rx;have S':=vK I p' r' ry;rcases Ap S S' hv with h|⟨ts,mI,⟨rfl,rfl⟩|⟨rfl,rfl⟩⟩
  ·exact h
  all_goals
   rw[dT]at hd;have it:=fun{vs GH us uP}=>@items vs GH us uP _ _ (Nat.le_of_add_le_add_right hd) p p';have e:=n8 ts mI;rw[eqT]
  ·cases S with|tup q rr rv=>
   cases S' with|tup q' xu FK=>
   rw[<-e,<-rr.length,<-xu.length,rv.length,FK.length];exact⟨.tuples q q' hv (it rr xu rv FK),.tuples q q' hv (it rr xu rv FK)⟩
  cases S with|lst q rr rv=>
  cases S' with|lst q' xu FK=>
  have l:=rr.length;have l':=xu.length;rw[rv.length]at l;rw[FK.length]at l';by_cases hz:ts.length=mI.length
  ·rw[hz,Nat.min_self,bB,Bool.and_true,<-hz,<-l]at e;rw[<-e];exact⟨.lists q q' (by simp;omega) hv (it rr xu rv FK),.lists q q' (by simp;omega) hv (it rr xu rv FK)⟩
  ·rw[eP hz,kn]at e;rw[<-e];exact⟨.lists_lengths q q' (by simp;omega) hv,.lists_lengths q q' (by simp;omega) hv⟩
end
section
variable {X:Cx}
def vL(a b:Tr):Rs Tr:=if n5 a=true/\n5 b=true/\dT a<=40 then .ok (.bl (eqT a b))else .bad
theorem yZ(hu:X.A.units+40<cLine):uI X (compareOp .Eq) vL:=by
 intro pins s σ H x y v u Q I rx ry ⟨B,tx,ty,hb,r1,r2,q⟩;obtain⟨⟨p1,p2,hd⟩,k⟩:=gp q;exact(Ks I 40 hd p1 p2 r1.up r2.up rx ry hu).1 _ _ _ _ ⟨.bl _,H,I,rfl,k _ H (ax.refl H) (.bl _)⟩
end
end L2
namespace L2
open PySem PySem.Spec PyProof.Rows
section
variable {X:Cx}{pins:List (Addr×Obj)}{σ:St}{H:Hp}{xt:Addr->Option Nat}{s:Shared}
theorem DV(I:Inv X pins σ H s)(n:Nat){A:Around}{x y:V}{v u:Value}{t t':Tr}(hd:dT t<=n)(p:n5 t=true)(p':n5 t'=true)(r:Rep X.K (⟨H,xt⟩:Vw) x t)(r':Rep X.K (⟨H,xt⟩:Vw) y t')(rx:RelV x v)(ry:RelV y u)(hu:A.units+n<cLine):SeqAt.EqAt A s v u (eqT t t'):=
 An I n hd p p' r r' rx ry (Ks I n hd p p' r r' rx ry hu).1
end
section
variable {X:Cx}
def tY(a b:Tr):Rs Tr:=if n5 a=true/\n5 b=true/\dT a<=40 then .ok (.bl (!eqT a b))else .bad
theorem DW(hu:X.A.units+40<cLine):uI X (compareOp .NotEq) tY:=by
 intro pins s σ H x y v u Q I rx ry ⟨B,tx,ty,hb,r1,r2,q⟩;obtain⟨⟨p1,p2,hd⟩,k⟩:=gp q;exact(Ks I 40 hd p1 p2 r1.up r2.up rx ry hu).2 _ _ _ _ ⟨.bl _,H,I,rfl,k _ H (ax.refl H) (.bl _)⟩
def Vu:Tr->Tr->Rs Tr
 |.int i,.int j=>.ok (.bl (decide (i<j)))
 |.str a,.str b=>.ok (.bl (decide (a.cps.toList<b.cps.toList)))
 |_,_=>.bad
def Kt:Tr->Tr->Rs Tr
 |.int i,.int j=>.ok (.bl (decide (j<i)))
 |_,_=>.bad
theorem S_:uI X (compareOp .Lt) Vu:=by
 intro pins s σ H x y v u Q I rx ry ⟨B,tx,ty,hb,r1,r2,q⟩;unfold Vu at q;split at q
 ·exact Nb pins s σ H _ _ v u Q I rx ry ⟨_,_,r1.int_inv,r2.int_inv,q _ H (ax.refl H) (.bl _)⟩
 ·exact BH pins s σ H _ _ v u Q I rx ry ⟨_,_,r1.str_inv.1,r2.str_inv.1,q _ H (ax.refl H) (.bl _)⟩
 ·exact(show False from q).elim
theorem Oi:uI X (compareOp .Gt) Kt:=by
 intro pins s σ H x y v u Q I rx ry ⟨B,tx,ty,hb,r1,r2,q⟩;unfold Kt at q;split at q
 ·exact Nc pins s σ H _ _ v u Q I rx ry ⟨_,_,r1.int_inv,r2.int_inv,q _ H (ax.refl H) (.bl _)⟩
 ·exact(show False from q).elim
def Vv:Tr->Bool
 |.cD=>true
 |_=>false
theorem GI{K:PySem.W.Frag}{H:Vw}{x:V}{t:Tr}(r:Rep K H x t):decide (x=.cD)=Vv t:=by
 cases r<;>rfl
def Vx:Tr->Tr->Rs Tr
 |a,.cD=>.ok (.bl (Vv a))
 |.bl a,.bl b=>.ok (.bl (a==b))
 |_,_=>.bad
theorem Oj:uI X (compareOp .Is) Vx:=by
 intro pins s σ H x y v u Q I rx ry ⟨B,tx,ty,hb,r1,r2,q⟩;unfold Vx at q;split at q
 ·exact JJ pins s σ H _ _ v u Q I rx ry ⟨r2.Gr,by rw[GI r1];exact q _ H (ax.refl H) (.bl _)⟩
 ·exact Ka pins s σ H _ _ v u Q I rx ry ⟨_,_,r1.vG,r2.vG,q _ H (ax.refl H) (.bl _)⟩
 ·exact(show False from q).elim
def xw(aD:List (Key×Tr))(k:Key):Option Tr:=(aD.find? fun kv=>decide (kv.1=k)).map (·.2)
def GJ:Tr->Option Key
 |.int i=>some (.inl i)
 |.str z=>some (.inr z)
 |_=>none
theorem Aq{K:PySem.W.Frag}{H:Vw}{x:V}{t:Tr}{k:Key}(r:Rep K H x t)(e:GJ t=some k):x=kV k:=by
 cases r with
 |int i=>cases e;rfl
 |str z h=>cases e;rfl
 |_=>cases e
theorem Ar{K:PySem.W.Frag}{H:Vw}(k:Key):∀{aw:List (Key×V)} {aD:List (Key×Tr)},aw.map (·.1)=aD.map (·.1)->aK K H (aw.map (·.2)) (aD.map (·.2))->(xw aD k=none/\lU aw k=none)\/∃t v,xw aD k=some t/\lU aw k=some v/\Rep K H v t
 |[],[],_,_=>.inl ⟨rfl,rfl⟩
 |[],_::_,e,_=>by cases e
 |_::_,[],e,_=>by cases e
 |(k1,v1)::aw,(k2,t2)::aD,e,r=>by
  rw[aA,aA]at e;injection e with e1 e2
  have qJ:k1=k2:=e1;subst qJ;cases r with
  |cons h r=>
   by_cases q:k1=k
   ·refine .inr ⟨t2,v1,?_,kH q,h⟩;unfold xw;rw[dY,bF (show(k1,t2).1=k from q)]
    rfl
   ·rw[kI q];have e3:xw ((k1,t2)::aD) k=xw aD k:=by
     unfold xw;rw[dY,bg (show¬(k1,t2).1=k from q)]
    rw[e3];exact Ar k e2 r
def Vy:Tr->Bool
 |.cD=>true
 |.bl _=>true
 |.int _=>true
 |.str _=>true
 |_=>false
end
end L2
namespace L2
open PySem PySem.Spec PyProof.Rows
def C'{α:Type}:Option α->Rs α
 |some a=>.ok a
 |none=>.bad
def Ku:Tr->Tr->Rs Tr
 |.tup ts,.int i=>C' (t6 ts i)
 |.lst ts,.int i=>C' (t6 ts i)
 |.str z,.int i=>(C' (t6 z.cps.toList i)).bind fun c=>.ok (.str ⟨#[c]⟩)
 |.gB ns,.int i=>(C' (t6 ns i)).bind fun n=>.ok (.int n)
 |.kN aD,t=>(C' (GJ t)).bind fun k=>C' (xw aD k)
 |_,_=>.bad
theorem aK.t6 {K:PySem.W.Frag}{H:Vw}{vs:List V}{ts:List Tr}{i:Int}{t:Tr}(r:aK K H vs ts)(e:L2.t6 ts i=some t):∃v,L2.t6 vs i=some v/\Rep K H v t:=by
 unfold L2.t6 at e⊢;rw[r.length];cases q:Io ts.length i with
 |none=>rw[q]at e;cases e
 |some j=>
  rw[q]at e;obtain⟨v,e1,r1⟩:=r.get (show ts[j]?=some t from e);exact⟨v,e1,r1⟩
theorem gL{X:Cx}{H:Hp}{α:Type}{o:Option α}{k:α->Prop}(h:Fi X H (C' o) k):∃a,o=some a/\k a:=by
 cases o with
 |none=>exact h.elim
 |some a=>exact⟨a,rfl,h⟩
section
variable {X:Cx}{a b e:Expr}{pos:Pos}{F G:az->Rs Tr}
theorem GK{α β:Type}(f:α->β)(xs:List α)(i:Int):L2.t6 (xs.map f) i=(L2.t6 xs i).map f:=by
 unfold L2.t6;rw[ah];cases Io xs.length i with
 |none=>rfl
 |some j=>show(xs.map f)[j]?=_;rw[aP];rfl
theorem GL(c:Nat):(⟨#[c]⟩:Str).length<=jg:=by show 1<=jg;decide
theorem GN{K:PySem.W.Frag}{B:bZ}{H:Hp}{x y:V}{ty t:Tr}{aD:List (Key×Tr)}{k:Key}(r:Rep K (aT B H) x (.kN aD))(r2:Rep K (aT B H) y ty)(ek:GJ ty=some k)(et:xw aD k=some t):∃a w,x=.ref a/\sg H a y (some w)/\Rep K (aT B H) w t:=by
 obtain⟨a,aw,e0,h,e,rr⟩:=r.Gq;refine⟨a,?_⟩;rcases Ar k e rr with⟨h1,_⟩|⟨t',w,h1,h2,h3⟩
 ·cases et.symm.trans h1
 ·cases et.symm.trans h1;exact⟨w,e0,.inl ⟨aw,k,h.same aE,Aq r2 ek,h2.symm⟩,h3⟩
theorem Ta(hu:X.A.units+1<cLine):Mu X (rT X Ku):=by
 intro value slice pins s σ H x y v u Q I rx ry ⟨B,tx,ty,hb,r1,r2,q⟩ hs;unfold Ku at q;split at q
 ·obtain⟨a,vs,e,h,rr⟩:=r1.cZ;obtain⟨t,et,k⟩:=gL q;obtain⟨w,ew,md⟩:=rr.t6 et;exact JS value slice pins s σ H _ _ v u Q I rx ry ⟨_,_,_,w,e,r2.int_inv,h.up,ew,k w H (ax.refl H) md⟩ hs
 ·obtain⟨a,vs,e,h,rr⟩:=r1.lst_inv;obtain⟨t,et,k⟩:=gL q;obtain⟨w,ew,md⟩:=rr.t6 et;exact z9 value slice pins s σ H _ _ v u Q I rx ry ⟨_,_,_,w,e,r2.int_inv,.of (ie h),ew,k w H (ax.refl H) md⟩ hs
 ·obtain⟨c,et,k⟩:=gL (Fi.bind q);exact JT value slice pins s σ H _ _ v u Q I rx ry ⟨_,_,c,r1.str_inv.1,r2.int_inv,bx r1.str_inv.2 qI,et,k _ H (ax.refl H) (.str _ (GL c))⟩ hs
 ·obtain⟨n,et,k⟩:=gL (Fi.bind q);obtain⟨a,e,h⟩:=r1.Aj;exact z9 value slice pins s σ H _ _ v u Q I rx ry ⟨_,_,_,.int n,e,r2.int_inv,ax.seq aE h,by rw[GK,et];rfl,k _ H (ax.refl H) (.int n)⟩ hs
 ·obtain⟨k,ek,qk⟩:=gL (Fi.bind q);obtain⟨t,et,qt⟩:=gL qk;obtain⟨a,w,rfl,g,md⟩:=GN r1 r2 ek et;cases(show v=Value.ref a from rx);exact tail_any (pN I g) qV.lookup (oZ hu I g ry fun w' s' I' rv=>⟨w,H,I',rv,qt w H (ax.refl H) md⟩) hs
 ·exact(show False from q).elim
theorem Tb(hu:X.A.units+1<cLine)(ha:PE X a (tP X F))(hb:PE X b (tP X G))(hs:qF b:=by exact fun _ _=>rfl):PE X (.Subscript a b pos) (tP X fun ρ=>cO Ku (F ρ) (G ρ)):=
 (Ip (Ta hu) ha hb hs).weak fun _ _ _ q=>kO q
variable {P1 P2:az->Rs (Option Int)}{lo hi:Option Expr}{p2:Pos}
variable {es:List Expr}{L:az->Rs (List Tr)}
def GO:List Tr->Rs Tr
 |[.str z]=>.ok (.int (z.length:Int))
 |[.tup ts]=>.ok (.int (ts.length:Int))
 |[.lst ts]=>.ok (.int (ts.length:Int))
 |[.gB ns]=>.ok (.int (ns.length:Int))
 |_=>.bad
theorem Ol:jP X (.builtin "len") GO:=by
 intro pins s σ H xs us Q I rv ⟨B,ts,hb,r,q⟩;unfold GO at q;split at q
 ·obtain⟨x,e,r⟩:=jh r;exact nR pins s σ H _ us Q I rv ⟨_,_,e,by rw[r.str_inv.1];exact⟨bx r.str_inv.2 qI,rfl⟩,q _ H (ax.refl H) (.int _)⟩
 ·obtain⟨x,e,r⟩:=jh r;obtain⟨a,vs,rfl,h,rr⟩:=r.cZ;exact nR pins s σ H _ us Q I rv ⟨_,_,e,.inr ⟨_,h.up,rfl⟩,q _ H (ax.refl H) (by rw[rr.length];exact .int _)⟩
 ·obtain⟨x,e,r⟩:=jh r;obtain⟨a,vs,rfl,h,rr⟩:=r.lst_inv;exact nR pins s σ H _ us Q I rv ⟨_,_,e,.inl ⟨_,.of (ie h),rfl⟩,q _ H (ax.refl H) (by rw[rr.length];exact .int _)⟩
 ·obtain⟨x,e,r⟩:=jh r;obtain⟨a,rfl,h⟩:=r.Aj;exact nR pins s σ H _ us Q I rv ⟨_,_,e,.inl ⟨_,ax.seq aE h,rfl⟩,q _ H (ax.refl H) (by rw[ah];exact .int _)⟩
 ·exact(show False from q).elim
def As:List Tr->Rs Tr
 |[.tup ts]=>.ok (.lst ts)
 |[.lst ts]=>.ok (.lst ts)
 |_=>.bad
def cT:List Tr->Rs Tr
 |[.tup ts]=>.ok (.tup ts)
 |[.lst ts]=>.ok (.tup ts)
 |_=>.bad
theorem jE:jP X (.type "tuple") cT:=by
 intro pins s σ H xs us Q I rv ⟨B,ts,hb,r,q⟩;unfold cT at q;split at q
 ·obtain⟨x,e,r⟩:=jh r;obtain⟨a,vs,rfl,h,rr⟩:=r.iN;exact l4 pins s σ H _ us Q I rv ⟨_,_,e,.inr ⟨.inl (.inl (ie h)),q _ H (ax.refl H) (.tup h rr)⟩⟩
 ·obtain⟨x,e,r⟩:=jh r;obtain⟨a,vs,rfl,h,rr⟩:=r.lst_inv;exact l4 pins s σ H _ us Q I rv ⟨_,_,e,.inl ⟨.of (ie h),fun p hp=>q _ _ (ax.upd hp) (.Oh hb hp rr)⟩⟩
 ·exact q.elim
def sy:Tr->String
 |.cD=>"NoneType"
 |.bl _=>"bool"
 |.int _=>"int"
 |.str _=>"str"
 |.ty _=>"type"
 |.tup _=>"tuple"
 |.lst _=>"list"
 |.gB _=>"list"
 |.kN _=>"dict"
 |.at _=>"object"
 |.bj _=>"dict"
 |.ob _ _=>"object"
 |.Ag _=>"object"
def Rj(t:Tr)(c:String):Bool:=sy t==c||(sy t=="bool"&&c=="int")
def kinds:List String:=["int","str","bool","tuple","list","dict"]
theorem Au(K:PySem.W.Frag):∀a∈["NoneType","bool","int","str","tuple","list","dict"],∀c∈kinds,PySem.W.kitOne K (.type a) (.type c)=some (a==c||(a=="bool"&&c=="int")):=by
 intro a ha c hc;simp only[kinds,aN,eM,dB]at ha hc;rcases ha with rfl|rfl|rfl|rfl|rfl|rfl|rfl<;>rcases hc with rfl|rfl|rfl|rfl|rfl|rfl<;>first|rfl|(unfold PySem.W.kitOne;exact ab (by decide))
def Om:Tr->Bool
 |.ty _|.at _|.ob _ _|.Ag _=>true
 |_=>false
def Oo:List Tr->Rs Tr
 |[t,.ty c]=>if Om t=false/\kinds.contains c=true then .ok (.bl (Rj t c))else .bad
 |_=>.bad
theorem GP{pins:List (Addr×Obj)}{σ:St}{H:Hp}{xt:Addr->Option Nat}{s:Shared}{A:Around}{Q:Value->Shared->Prop}{E:Value->Shared->Prop}{x:V}{t:Tr}{u:Value}{c:String}(I:Inv X pins σ H s)(r:Rep X.K (⟨H,xt⟩:Vw) x t)(h0:Om t=false)(rx:RelV x u)(hc:c∈kinds)(h:∀tk,Q (.bool (Rj t c)) {s with toks:=tk}):
  wpAny (model X.prog X.w) A (call (.builtin "isinstance") [u,.type c]) Q E s:=by
 have GQ:=fun a ha=>Au X.K a ha c hc;cases r with
 |cD=>exact je I rx .cD (GQ _ (by decide)) h
 |bl b=>exact je I rx (.bl b) (GQ _ (by decide)) h
 |int i=>exact je I rx (.int i) (GQ _ (by decide)) h
 |str z hz=>exact je I rx (.str z) (GQ _ (by decide)) h
 |ty n=>cases h0
 |«at» h=>cases h0
 |ob h e rr=>cases h0
 |Ag h c=>cases h0
 |@bj a aw aD hq e rr=>
  cases(show u=Value.ref a from rx);obtain⟨_,_,xs,_,o,es,ep,h1,h2,_⟩:=(show bQ X.prog X.w H s.heap a (.dT aw)from DI I.cp hq);exact dr m5 I.qe ⟨o,h1,h2.1⟩ (GQ "dict" (by decide)) (fun z=>nomatch z) h
 |@tup a vs ts hq rr=>
  cases(show u=Value.ref a from rx);obtain⟨aZ,rv,⟨o,h1,h2,_⟩,_⟩:=I.tuple (S5 hq);exact dr PySem.W.kitx_tuple I.qe ⟨o,h1,h2⟩ (GQ "tuple" (by decide)) (fun z=>nomatch z) h
 |lst hq rr=>exact je I rx (.lst hq) (GQ _ (by decide)) h
 |@gB a ns hq=>
  cases(show u=Value.ref a from rx);obtain⟨aZ,rv,⟨o,n,h1,h2,_⟩,_⟩:=I.list hq;exact dr rm I.qe ⟨o,h1,h2⟩ (GQ "list" (by decide)) (fun z=>nomatch z) h
 |@kN a aw aD hq e rr=>
  cases(show u=Value.ref a from rx);obtain⟨_,_,vs,_,p⟩:=(show bQ X.prog X.w H s.heap a (.dK aw)from hq.ok I.cp);obtain⟨o,es,ep,h1,h2,_⟩:=p;exact dr m5 I.qe ⟨o,h1,h2.1⟩ (GQ "dict" (by decide)) (fun z=>nomatch z) h
theorem uQ:jP X (.builtin "isinstance") Oo:=by
 intro pins s σ H xs us Q I rv ⟨B,ts,hb,r,q⟩;unfold Oo at q;split at q
 ·obtain⟨⟨h0,h1⟩,k⟩:=gp q;obtain⟨x,y,rfl,r1,r2⟩:=sr r;obtain⟨v,u,rfl,v1,v2⟩:=vals2 rv;cases r2;cases v2;exact GP I r1.up h0 v1 (by simpa using h1) fun tk=>⟨.bl _,H,I.tok _,rfl,k _ H (ax.refl H) (.bl _)⟩
 ·exact q.elim
variable {o:Expr}{name:Str}{apos jB:Pos}{id:String}{h:Str->List Tr->Rs Tr}
end
end L2
namespace L2
open PySem PySem.Spec PyProof.Rows
theorem o8{k:Nat}{A:Around}(hr:dE k A):A.units+40<cLine:=by have:=hr.units;omega
def FL(n m:Nat)(G:az->Rs Out)(ts:List Tr):Rs Tr:=if ts.length=n then kR (G (startT m ts))else .bad
theorem GR{n m:Nat}{G:az->Rs Out}{ts:List Tr}{t:Tr}(h:FL n m G ts=.ok t):ts.length=n:=by
 unfold FL at h;split at h
 ·assumption
 ·cases h
theorem Kv{n m:Nat}{G:az->Rs Out}{ts:List Tr}{t:Tr}(h:FL n m G ts=.ok t):kR (G (startT m ts))=.ok t:=by
 unfold FL at h;split at h
 ·exact h
 ·cases h
end L2
namespace L2
open PySem PySem.Spec PyProof.Rows
structure GS(K:PySem.W.Frag)(H:Vw)(aw:List (Key×V))(aD:List (Key×Tr)):Prop where
 keys:aw.map (·.1)=aD.map (·.1)
 vals:aK K H (aw.map (·.2)) (aD.map (·.2))
section
variable {K:PySem.W.Frag}{H H':Vw}
theorem GS.same {aw:List (Key×V)}{aD:List (Key×Tr)}(s:cJ H H')(h:GS K H aw aD):GS K H' aw aD:=⟨h.keys,h.vals.same s⟩
end
section
variable {X:Cx}{a e o f:Expr}{pos apos jB:Pos}{F G E:az->Rs Tr}{keys:List (Option Expr)}{vals:List Expr}{P:az->Rs (List (Tr×Tr))}
variable {x:Str}{aD:List (Str×Tr)}{p:Pos}
def BS:List Tr->Rs (List Bool)
 |[]=>.ok []
 |.bl b::ts=>(BS ts).bind fun zs=>.ok (b::zs)
 |_=>.bad
theorem Av{K:PySem.W.Frag}{H:Vw}{H0:Hp}{k:List Bool->Prop}:∀{ts:List Tr} {vs:List V},aK K H vs ts->Fi X H0 (BS ts) k->∃bs,k bs/\vs=bs.map V.bl
 |[],_,r,q=>by cases r;exact⟨[],q,rfl⟩
 |t::ts,_,r,q=>by
  cases r with
  |cons h r=>
   cases h with
   |bl b=>
    obtain⟨bs,k1,e⟩:=Av (k:=fun zs=>k (b::zs)) r (Fi.bind q);exact⟨b::bs,k1,by rw[e];rfl⟩
   |_=>exact(show False from q).elim
def BU:List Tr->Rs Tr
 |[.lst ts]=>(BS ts).bind fun bs=>.ok (.bl (bs.all id))
 |_=>.bad
theorem Oq(hc:X.calm=true):jP X (.builtin "all") BU:=by
 intro pins s σ H xs us Q I rv ⟨B,ts,hb,r,q⟩;unfold BU at q;split at q
 ·obtain⟨x,rfl,h⟩:=jh r;obtain⟨a,vs,rfl,hl,rr⟩:=h.lst_inv;obtain⟨bs,k,rfl⟩:=Av rr (Fi.bind q);exact DO hc pins s σ H _ us Q I rv ⟨_,bs,rfl,.of (ie hl),k _ H (ax.refl H) (.bl _)⟩
 ·exact(show False from q).elim
end
end L2
namespace L2
open PySem
variable {K:PySem.W.Frag}{w:World}{es:List DictEntry}{aw:List (Str×Value)}{aD:List (Str×Tr)}
end L2
namespace L2
open PySem PySem.Spec PyProof.Rows
inductive Ao where
 |lst (ts:List Tr)|kN (aD:List (Key×Tr))|ins (x:Str) (fs:List (Str×Tr))|bj (aD:List (List Key×Tr))|GU (x:Str)|tb (x q:Str)
abbrev Ab:=List Ao
def oa(K:PySem.W.Frag)(B:bZ)(H:Hp)(a:Addr):Ao->Prop
 |.lst ts=>B.hd a=true/\∃vs,H a=some (.lst vs)/\aK K (aT B H) vs ts
 |.kN aD=>B.hd a=true/\∃aw,H a=some (.dK aw)/\GS K (aT B H) aw aD
 |.bj aD=>B.hd a=true/\∃aw,H a=some (.dT aw)/\aw.map (·.1)=aD.map (·.1)/\aK K (aT B H) (aw.map (·.2)) (aD.map (·.2))
 |.ins x fs=>B.hd a=true/\∃dx wD,H a=some (.ins (clsAt K x) dx wD)/\H dx=some (.own a)/\B.ix dx=none/\wD.map (·.1)=fs.map (·.1)/\aK K (aT B H) (wD.map (·.2)) (fs.map (·.2))
 |.tb x q=>B.hd a=true/\(∃c,PySem.W.tabIn K x=some (c,a))/\H a=some (.wB #[.str q 0])
 |.GU x=>B.hd a=true/\∃oe:Obj,H a=some (.ext fun h=>h.get? a=some oe)/\oe.cls=.ref (clsAt K x)
structure HA(K:PySem.W.Frag)(B:bZ)(A:Ab)(H:Hp):Prop where
 hb:HB B H
 ob:∀i o,A[i]?=some o->∃a,B.ix a=some i/\oa K B H a o
 inj:∀a b i,B.ix a=some i->B.ix b=some i->a=b
 lt:∀a i,B.ix a=some i->i<A.length
structure Grows(B:bZ)(H:Hp)(B':bZ)(H':Hp):Prop where
 gA:cJ (aT B H) (aT B' H')
 kp:∀b o,B.ix b=none->H b=some o->H' b=some o
 hd:∀b,B.ix b=none->B.hd b=true->B'.hd b=true
 nw:∀b i,B'.ix b=some i->B.ix b=none->H b=none
section
variable {K:PySem.W.Frag}{B B' B1 B2:bZ}{H H' H1 H2:Hp}{A:Ab}
theorem oa.same {a:Addr}{o:Ao}(h:oa K B H a o)(s:ax H H'):oa K B H' a o:=by
 cases o with
 |lst ts=>obtain⟨h0,vs,h1,h2⟩:=h;exact⟨h0,vs,s _ _ h1,h2.same (bc s)⟩
 |kN aD=>obtain⟨h0,vs,h1,h2⟩:=h;exact⟨h0,vs,s _ _ h1,h2.same (bc s)⟩
 |bj aD=>obtain⟨h0,vs,h1,h2,h3⟩:=h;exact⟨h0,vs,s _ _ h1,h2,h3.same (bc s)⟩
 |GU x=>obtain⟨h0,oe,h1,h2⟩:=h;exact⟨h0,oe,s _ _ h1,h2⟩
 |tb x q=>obtain⟨h0,h1,h2⟩:=h;exact⟨h0,h1,s _ _ h2⟩
 |ins c fs=>obtain⟨h0,dx,wD,h1,h2,h3,h4,h5⟩:=h;exact⟨h0,dx,wD,s _ _ h1,s _ _ h2,h3,h4,h5.same (bc s)⟩
theorem oa.hd {a:Addr}{o:Ao}(h:oa K B H a o):B.hd a=true:=by cases o<;>exact h.1
theorem oa.mem {a:Addr}{o:Ao}(h:oa K B H a o):∃x,H a=some x/\(∀vs,x≠ .tup vs)/\∀ob u,x≠ .gk ob u:=by
 cases o with
 |lst ts=>obtain⟨h0,vs,h1,h2⟩:=h;exact⟨_,h1,(fun _ e=>by cases e),(fun _ _ e=>by cases e)⟩
 |kN aD=>obtain⟨h0,vs,h1,h2⟩:=h;exact⟨_,h1,(fun _ e=>by cases e),(fun _ _ e=>by cases e)⟩
 |bj aD=>obtain⟨h0,vs,h1,h2⟩:=h;exact⟨_,h1,(fun _ e=>by cases e),(fun _ _ e=>by cases e)⟩
 |GU x=>obtain⟨h0,oe,h1,h2⟩:=h;exact⟨_,h1,(fun _ e=>by cases e),(fun _ _ e=>by cases e)⟩
 |tb x q=>obtain⟨h0,h1,h2⟩:=h;exact⟨_,h2,(fun _ e=>by cases e),(fun _ _ e=>by cases e)⟩
 |ins c fs=>obtain⟨h0,dx,wD,h1,h2⟩:=h;exact⟨_,h1,(fun _ e=>by cases e),(fun _ _ e=>by cases e)⟩
theorem HA.same (h:HA K B A H)(s:ax H H'):HA K B A H':=
 ⟨h.hb.same s,fun i o e=>by obtain⟨a,h1,h2⟩:=h.ob i o e;exact⟨a,h1,h2.same s⟩,h.inj,h.lt⟩
theorem HA.get (h:HA K B A H){a:Addr}{i:Nat}{o:Ao}(e:B.ix a=some i)(q:A[i]?=some o):oa K B H a o:=by
 obtain⟨b,h1,h2⟩:=h.ob i o q;rw[h.inj a b i e h1];exact h2
theorem HA.ex (h:HA K B A H){a:Addr}{i:Nat}(e:B.ix a=some i):∃o,A[i]?=some o/\oa K B H a o:=by
 have l:=h.lt a i e;exact⟨A[i],aB l,h.get e (aB l)⟩
theorem HA.free (h:HA K B A H){p:Addr}(hp:H p=none):B.ix p=none:=by
 cases e:B.ix p with
 |none=>rfl
 |some i=>
  obtain⟨o,_,q⟩:=h.ex e;obtain⟨x,e2,_⟩:=q.mem;rw[hp]at e2;cases e2
theorem Grows.of (s:ax H H'):Grows B H B H':=⟨bc s,fun b o _ e=>s b o e,fun _ _ e=>e,fun b i e n=>by rw[n]at e;cases e⟩
theorem Grows.refl:Grows B H B H:=.of (ax.refl H)
theorem Grows.trans (hb:HB B H)(a:Grows B H B1 H1)(b:Grows B1 H1 B2 H2):Grows B H B2 H2:=by
 have key:∀c,B.ix c=none->(∃o,H c=some o)->B1.ix c=none:=fun c n ⟨o,e⟩=>by
  cases q:B1.ix c with
  |none=>rfl
  |some i=>have:=a.nw c i q n;rw[e]at this;cases this
 refine⟨a.gA.trans b.gA,fun c o n e=>b.kp c o (key c n ⟨o,e⟩) (a.kp c o n e),fun c n e=>?_,fun c i e n=>?_⟩
 ·exact b.hd c (key c n (let⟨o,q,_⟩:=hb c e;⟨o,q⟩)) (a.hd c n e)
 ·cases q:B1.ix c with
  |none=>
   have:=b.nw c i e q;cases q2:H c with
   |none=>rfl
   |some o=>rw[a.kp c o n q2]at this;cases this
  |some j=>exact a.nw c j q n
def og(B:bZ)(p:Addr)(i:Nat):bZ:=⟨fun b=>B.hd b||b==p,fun b=>if b=p then some i else B.ix b⟩
theorem qK{p:Addr}{i:Nat}:(og B p i).hd p=true:=by show(B.hd p||p==p)=true;rw[bB,Bool.or_true]
theorem iE{p:Addr}{i:Nat}:(og B p i).ix p=some i:=ab rfl
theorem f7{p b:Addr}{i:Nat}(h:b≠p):(og B p i).ix b=B.ix b:=af h
theorem kY{p b:Addr}{i:Nat}(h:b≠p):(og B p i).hd b=B.hd b:=by show(B.hd b||b==p)=_;rw[eP h,nv]
theorem DX{p:Addr}{i:Nat}(hp:H p=none)(hx:B.ix p=none)(s:ax H H'):cJ (aT B H) (aT (og B p i) H'):=⟨fun b u e=>by
 have e1:=aE b u e;have ff:b≠p:=aQ e1 hp;have hB:B.hd b=false:=by
  cases q:B.hd b with
  |false=>rfl
  |true=>
   have e2:(if B.hd b=true then none else H b)=some u:=e;rw[q,ab rfl]at e2;cases e2
 rw[c_ (by rw[kY ff];exact hB)];exact s b u e1,fun b j e=>by
 have ff:b≠p:=fun z=>by rw[z]at e;rw[show(aT B H).ix p=B.ix p from rfl,hx]at e;cases e
 show(og B p i).ix b=some j;rw[f7 ff];exact e⟩
theorem HA.push {p:Addr}{o:Ao}(h:HA K B A H)(hp:H p=none)(s:ax H H')(ho:oa K (og B p A.length) H' p o):Grows B H (og B p A.length) H'/\HA K (og B p A.length) (A++[o]) H':=by
 have hx:=h.free hp;have gA:cJ (aT B H) (aT (og B p A.length) H'):=DX hp hx s;have up:∀{a:Addr} {u:Ao},a≠p->oa K B H a u->oa K (og B p A.length) H' a u:=fun{a u} ff q=>by
  have e0:(og B p A.length).hd a=true:=by rw[kY ff];exact q.hd
  cases u with
  |lst ts=>obtain⟨h0,vs,h1,h2⟩:=q;exact⟨e0,vs,s _ _ h1,h2.same gA⟩
  |kN aD=>obtain⟨h0,vs,h1,h2⟩:=q;exact⟨e0,vs,s _ _ h1,h2.same gA⟩
  |bj aD=>obtain⟨h0,vs,h1,h2,h3⟩:=q;exact⟨e0,vs,s _ _ h1,h2,h3.same gA⟩
  |GU x=>obtain⟨h0,oe,h1,h2⟩:=q;exact⟨e0,oe,s _ _ h1,h2⟩
  |tb x q=>obtain⟨h0,h1,h2⟩:=q;exact⟨e0,h1,s _ _ h2⟩
  |ins c fs=>
   obtain⟨h0,dx,wD,h1,h2,h3,h4,h5⟩:=q;exact⟨e0,dx,wD,s _ _ h1,s _ _ h2,by rw[f7 (aQ h2 hp)];exact h3,h4,h5.same gA⟩
 refine⟨⟨gA,fun b u _ e=>s b u e,fun b _ e=>?_,fun b i e n=>?_⟩,⟨fun b e=>?_,fun i u e=>?_,fun a b i e1 e2=>?_,fun a i e=>?_⟩⟩
 ·show(B.hd b||b==p)=true;rw[e,nF]
 ·by_cases q:b=p
  ·rw[q];exact hp
  ·rw[f7 q,n]at e;cases e
 ·by_cases q:b=p
  ·rw[q];obtain⟨x,e2,n,_⟩:=ho.mem;exact⟨x,e2,n⟩
  ·rw[kY q]at e;obtain⟨x,e2,n⟩:=h.hb b e;exact⟨x,s _ _ e2,n⟩
 ·by_cases q:i<A.length
  ·rw[cq q]at e;obtain⟨a,e1,e2⟩:=h.ob i u e;have ff:a≠p:=fun z=>by rw[z,hx]at e1;cases e1
   exact⟨a,by rw[f7 ff];exact e1,up ff e2⟩
  ·rw[dI (rA q)]at e;have hi:i - A.length=0:=by
    cases z:i - A.length with
    |zero=>rfl
    |succ k=>rw[z]at e;cases e
   rw[hi]at e;cases e;have:i=A.length:=by omega
   subst this;exact⟨p,iE,ho⟩
 ·by_cases q1:a=p
  ·by_cases q2:b=p
   ·rw[q1,q2]
   ·rw[q1,iE]at e1;cases e1;rw[f7 q2]at e2;exact absurd (h.lt b _ e2) (cX _)
  ·by_cases q2:b=p
   ·rw[q2,iE]at e2;cases e2;rw[f7 q1]at e1;exact absurd (h.lt a _ e1) (cX _)
   ·rw[f7 q1]at e1;rw[f7 q2]at e2;exact h.inj a b i e1 e2
 ·rw[aY,fS];by_cases q:a=p
  ·rw[q,iE]at e;cases e;exact i5 _
  ·rw[f7 q]at e;exact f_ (h.lt a i e)
theorem lN{a:Addr}{u:HO}(h:B.hd a=true):aT B (upd H a u)=aT B H:=by
 unfold aT;congr 1;funext b;by_cases q:b=a
 ·subst q;rw[ab h,ab h]
 ·rw[aj q]
theorem HA.write {a:Addr}{i:Nat}{o:Ao}{u:HO}(h:HA K B A H)(e:B.ix a=some i)(ho:oa K B (upd H a u) a o):Grows B H B (upd H a u)/\HA K B (A.set i o) (upd H a u):=by
 have hd:B.hd a=true:=ho.hd;have hv:aT B (upd H a u)=aT B H:=lN hd;refine⟨⟨by rw[hv];exact cJ.refl _,fun b x n q=>?_,fun _ _ q=>q,fun b j q n=>by rw[n]at q;cases q⟩,⟨fun b q=>?_,fun j x q=>?_,h.inj,fun b j q=>by rw[gY];exact h.lt b j q⟩⟩
 ·have ff:b≠a:=fun z=>by rw[z,e]at n;cases n
  rw[aj ff];exact q
 ·by_cases z:b=a
  ·subst z;obtain⟨x,e2,n,_⟩:=ho.mem;exact⟨x,e2,n⟩
  ·rw[aj z];exact h.hb b q
 ·rcases gR q with⟨rfl,_,rfl⟩|⟨qH,q⟩
  ·exact⟨a,e,ho⟩
  ·obtain⟨b,e1,e2⟩:=h.ob j x q;have ff:b≠a:=fun z=>by rw[z,e]at e1;cases e1;exact qH rfl
   refine⟨b,e1,?_⟩;cases x with
   |lst ts=>obtain⟨h0,vs,h1,h2⟩:=e2;exact⟨h0,vs,by rw[aj ff];exact h1,by rw[hv];exact h2⟩
   |kN aD=>obtain⟨h0,vs,h1,h2⟩:=e2;exact⟨h0,vs,by rw[aj ff];exact h1,by rw[hv];exact h2⟩
   |bj aD=>obtain⟨h0,vs,h1,h2,h3⟩:=e2;exact⟨h0,vs,by rw[aj ff];exact h1,h2,by rw[hv];exact h3⟩
   |GU x=>obtain⟨h0,oe,h1,h2⟩:=e2;exact⟨h0,oe,by rw[aj ff];exact h1,h2⟩
   |tb x q=>obtain⟨h0,h1,h2⟩:=e2;exact⟨h0,h1,by rw[aj ff];exact h2⟩
   |ins c fs=>
    obtain⟨h0,dx,wD,h1,h2,h3,h4,h5⟩:=e2;have WV:dx≠a:=fun z=>by rw[z,e]at h3;cases h3
    exact⟨h0,dx,wD,by rw[aj ff];exact h1,by rw[aj WV];exact h2,h3,h4,by rw[hv];exact h5⟩
end
mutual
def iu:Tr->Bool
 |.at _=>false
 |.tup ts=>de ts
 |.lst ts=>de ts
 |.kN aD=>Aw aD
 |.bj aD=>uR aD
 |.ob _ fs=>Ax fs
 |_=>true
def de:List Tr->Bool
 |[]=>true
 |t::ts=>iu t&&de ts
def Aw:List (Key×Tr)->Bool
 |[]=>true
 |p::r=>IA p&&Aw r
def IA:Key×Tr->Bool
 |(_,t)=>iu t
def uR:List (List Key×Tr)->Bool
 |[]=>true
 |p::r=>IB p&&uR r
def IB:List Key×Tr->Bool
 |(_,t)=>iu t
def Ax:List (Str×Tr)->Bool
 |[]=>true
 |p::r=>IC p&&Ax r
def IC:Str×Tr->Bool
 |(_,t)=>iu t
end
theorem uS:∀(aD:List (Key×Tr)),Aw aD=de (aD.map (·.2))
 |[]=>rfl
 |(k,t)::r=>by rw[Aw,IA,aA,de,uS r]
theorem uT:∀(aD:List (List Key×Tr)),uR aD=de (aD.map (·.2))
 |[]=>rfl
 |(k,t)::r=>by rw[uR,IB,aA,de,uT r]
theorem uU:∀(aD:List (Str×Tr)),Ax aD=de (aD.map (·.2))
 |[]=>rfl
 |(k,t)::r=>by rw[Ax,IC,aA,de,uU r]
mutual
def uV:Tr->Bool
 |.cD=>true
 |.bl _=>true
 |.int _=>true
 |.str _=>true
 |.ty _=>true
 |.at _=>true
 |.tup ts=>fM ts
 |_=>false
def fM:List Tr->Bool
 |[]=>true
 |t::ts=>uV t&&fM ts
end
def bT:Nat->Ab->Tr->Tr
 |0,_,t=>t
 |n+1,A,.at i=>match A[i]? with
  |some (.lst ts)=>.lst (ts.map (bT n A))
  |some (.kN aD)=>.kN (aD.map fun p=>(p.1,bT n A p.2))
  |some (.bj aD)=>.bj (aD.map fun p=>(p.1,bT n A p.2))
  |some (.ins c fs)=>.ob c (fs.map fun p=>(p.1,bT n A p.2))
  |some (.GU x)=>.Ag x
  |some (.tb _ _)=>.at i
  |none=>.at i
 |_+1,_,t=>t
def bZ.un (B:bZ):bZ:=⟨fun b=>B.hd b&&(B.ix b).isNone,B.ix⟩
section
variable {K:PySem.W.Frag}{B B':bZ}{H H':Hp}{A:Ab}
theorem ID:pO B.un B:=⟨fun b e=>by
 have e':(B.hd b&&(B.ix b).isNone)=true:=e;rw[aJ]at e';exact e'.1,fun _ _ e=>e⟩
theorem fP:cJ (aT B H) (aT B.un H):=so ID
theorem xx(h:HB B H):HB B.un H:=fun b e=>h b (ID.hd b e)
theorem xy{a:Addr}{i:Nat}(e:B.ix a=some i):(aT B.un H).H a=H a:=c_ (by show(B.hd a&&(B.ix a).isNone)=false;rw[e];exact kn _)
theorem jl{W W':Vw}{f:Tr->Tr}(h:∀{v t},Rep K W v t->Rep K W' v (f t)):∀{vs:List V} {ts:List Tr},aK K W vs ts->aK K W' vs (ts.map f)
 |[],_,r=>by cases r;exact .nil
 |_::_,_,r=>by cases r with|cons h1 r=>exact .cons (h h1) (jl h r)
theorem fz(ha:HA K B A H):∀(n:Nat) {v:V} {t:Tr},Rep K (aT B H) v t->Rep K (aT B.un H) v (bT n A t)
 |0,v,t,r=>by rw[bT];exact r.same fP
 |n+1,v,t,r=>by
  cases r with
  |@«at» a i h=>
   have e:B.ix a=some i:=h;obtain⟨o,q,ao⟩:=ha.ex e;rw[bT,q];cases o with
   |lst ts=>
    obtain⟨h0,vs,h1,h2⟩:=ao;exact .lst (by rw[xy e];exact h1) (jl (fun r=>fz ha n r) h2)
   |kN aD=>
    obtain⟨h0,aw,h1,h2⟩:=ao;refine .kN (.inl (by rw[xy e];exact h1)) (by rw[h2.keys,bC];rfl) ?_
    have:=jl (fun r=>fz ha n r) h2.vals;rw[bC]at this⊢;exact this
   |GU x=>obtain⟨h0,oe,h1,h2⟩:=ao;exact .Ag (by rw[xy e];exact h1) h2
   |tb x q=>exact .at e
   |bj aD=>
    obtain⟨h0,aw,h1,h2,h3⟩:=ao;refine .bj (.inl (by rw[xy e];exact h1)) (by rw[h2,bC];rfl) ?_
    have:=jl (fun r=>fz ha n r) h3;rw[bC]at this⊢;exact this
   |ins c fs=>
    obtain⟨h0,dx,wD,h1,h2,h3,h4,h5⟩:=ao;refine .ob (by rw[xy e];exact h1) (by rw[h4,bC];rfl) ?_
    have:=jl (fun r=>fz ha n r) h5;rw[bC]at this⊢;exact this
  |cD=>exact .cD
  |bl b=>exact .bl b
  |int i=>exact .int i
  |str z h=>exact .str z h
  |ty m=>exact .ty m
  |gB h=>exact .gB (fP.h.seq h)
  |tup h r=>exact .tup (fP.h _ _ h) (r.same fP)
  |lst h r=>exact .lst (fP.h _ _ h) (r.same fP)
  |kN h e r=>exact .kN (h.same fP.h) e (r.same fP)
  |bj h e r=>exact .bj (Rd.same fP.h h) e (r.same fP)
  |ob h e r=>exact .ob (fP.h _ _ h) e (r.same fP)
  |Ag h c=>exact .Ag (fP.h _ _ h) c
theorem Kw(ha:HA K B A H){a:Addr}{x:HO}(e:(aT B.un H).H a=some x)(hx:(∃vs,x=.tup vs)\/∃o u,x=.gk o u):(aT B H).H a=some x:=by
 have e1:=aE a x e;cases q:B.hd a with
 |false=>rw[c_ q];exact e1
 |true=>
  cases z:B.ix a with
  |none=>
   have e2:(if B.un.hd a=true then none else H a)=some x:=e;rw[show B.un.hd a=(B.hd a&&(B.ix a).isNone)from rfl,q,z]at e2;cases e2
  |some i=>
   obtain⟨o,_,ao⟩:=ha.ex z;obtain⟨y,e3,n1,n2⟩:=ao.mem;rw[e1]at e3;cases e3;rcases hx with⟨vs,rfl⟩|⟨o,u,rfl⟩
   ·exact absurd rfl (n1 vs)
   ·exact absurd rfl (n2 o u)
structure ig(W W':Vw):Prop where
 h:∀a x,W.H a=some x->((∃vs,x=.tup vs)\/∃o u,x=.gk o u)->W'.H a=some x
 x:∀a i,W.ix a=some i->W'.ix a=some i
theorem ig.un (ha:HA K B A H):ig (aT B.un H) (aT B H):=⟨fun a x e hx=>Kw ha e hx,fun _ _ e=>e⟩
theorem ig.trans {W W1 W2:Vw}(a:ig W W1)(b:ig W1 W2):ig W W2:=⟨fun c x e hx=>b.h c x (a.h c x e hx) hx,fun c i e=>b.x c i (a.x c i e)⟩
theorem ig.new {p:Addr}{i:Nat}{x:HO}(hx:B.ix p=none)(hp:H p=some x)(n1:∀vs,x≠ .tup vs)(n2:∀o u,x≠ .gk o u):ig (aT B H) (aT (og B p i) H):=⟨fun a y e hy=>by
 have e1:=aE a y e;have ff:a≠p:=fun z=>by
  rw[z,hp]at e1;cases e1;rcases hy with⟨vs,z⟩|⟨o,u,z⟩
  ·exact n1 vs z
  ·exact n2 o u z
 have hB:B.hd a=false:=by
  cases q:B.hd a with
  |false=>rfl
  |true=>
   have e2:(if B.hd a=true then none else H a)=some y:=e;rw[q,ab rfl]at e2;cases e2
 rw[c_ (by rw[kY ff];exact hB)];exact e1,fun a j e=>by
 have ff:a≠p:=fun z=>by rw[z]at e;rw[show(aT B H).ix p=B.ix p from rfl,hx]at e;cases e
 show(og B p i).ix a=some j;rw[f7 ff];exact e⟩
theorem vM{W W':Vw}(s:ig W W'){v:V}{t:Tr}(h:Rep K W v t):uV t=true->Rep K W' v t:=by
 refine Rep.rec (motive_1:=fun v t _=>uV t=true->Rep K W' v t) (motive_2:=fun vs ts _=>fM ts=true->aK K W' vs ts) ?_ ?_ ?_ ?_ ?_ ?_ ?_ ?_ ?_ ?_ ?_ ?_ ?_ ?_ ?_ h
 ·exact fun _=>.cD
 ·exact fun b _=>.bl b
 ·exact fun i _=>.int i
 ·exact fun z h _=>.str z h
 ·exact fun n _=>.ty n
 ·exact fun h f=>nomatch f
 ·intro a vs ts h _ ih f;refine .tup ?_ (ih f)
  exact s.h _ _ h (.inl ⟨_,rfl⟩)
 ·exact fun h _ _ f=>nomatch f
 ·exact fun h _ _ _ f=>nomatch f
 ·exact fun h _=>.at (s.x _ _ h)
 ·exact fun h _ _ _ f=>nomatch f
 ·exact fun h _ _ _ f=>nomatch f
 ·exact fun h c f=>nomatch f
 ·exact fun _=>.nil
 ·intro v t vs ts _ _ Tc Ot f;rw[fM,aJ]at f;exact .cons (Tc f.1) (Ot f.2)
theorem oh{W W':Vw}(s:ig W W'):∀{vs:List V} {ts:List Tr},aK K W vs ts->fM ts=true->aK K W' vs ts
 |[],_,r,_=>by cases r;exact .nil
 |_::_,_,r,f=>by
  cases r with
  |cons h r=>
   rw[fM,aJ]at f;exact .cons (vM s h f.1) (oh s r f.2)
theorem o9(ha:HA K B A H){v:V}{t:Tr}(h:Rep K (aT B.un H) v t)(f:uV t=true):Rep K (aT B H) v t:=vM (.un ha) h f
theorem Rep.DY {W W':Vw}(s:ax W.H W'.H){v:V}{t:Tr}(h:Rep K W v t):iu t=true->Rep K W' v t:=by
 refine Rep.rec (motive_1:=fun v t _=>iu t=true->Rep K W' v t) (motive_2:=fun vs ts _=>de ts=true->aK K W' vs ts) ?_ ?_ ?_ ?_ ?_ ?_ ?_ ?_ ?_ ?_ ?_ ?_ ?_ ?_ ?_ h
 ·exact fun _=>.cD
 ·exact fun b _=>.bl b
 ·exact fun i _=>.int i
 ·exact fun z h _=>.str z h
 ·exact fun n _=>.ty n
 ·exact fun h _=>.gB (s.seq h)
 ·exact fun h _ ih f=>.tup (s _ _ h) (ih f)
 ·exact fun h _ ih f=>.lst (s _ _ h) (ih f)
 ·intro a aw aD h e _ ih f;refine .kN (Rd.same s h) e (ih ?_);rw[iu,uS]at f;exact f
 ·exact fun h f=>nomatch f
 ·intro a aw aD h e _ ih f;refine .bj (Rd.same s h) e (ih ?_);rw[iu,uT]at f;exact f
 ·intro a c dx wD fs h e _ ih f;refine .ob (s _ _ h) e (ih ?_);rw[iu,uU]at f;exact f
 ·exact fun h c _=>.Ag (s _ _ h) c
 ·exact fun _=>.nil
 ·intro v t vs ts _ _ Tc Ot f;rw[de,aJ]at f;exact .cons (Tc f.1) (Ot f.2)
theorem aK.DY {W W':Vw}(s:ax W.H W'.H):∀{vs:List V} {ts:List Tr},aK K W vs ts->de ts=true->aK K W' vs ts
 |[],_,r,_=>by cases r;exact .nil
 |_::_,_,r,f=>by
  cases r with
  |cons h r=>
   rw[de,aJ]at f;exact .cons (h.DY s f.1) (aK.DY s r f.2)
end
def Ou(A:Ab):Cell->Cell
 |.sh t=>.sh (bT 5 A t)
 |c=>c
def a_(A:Ab)(ρ:az):az:=ρ.map (Ou A)
theorem bu.Kx {K:PySem.W.Frag}{B:bZ}{H:Hp}{A:Ab}{σ:St}{ρ:az}(ha:HA K B A H)(n:dR ρ)(h:bu K B H σ ρ):bu K B.un H σ (a_ A ρ):=by
 have no:∀i ts,(a_ A ρ)[i]? ≠some (Cell.ow ts):=fun i ts e=>by
  unfold a_ at e;rw[aP]at e;cases q:ρ[i]? with
  |none=>rw[q]at e;cases e
  |some c=>
   rw[q]at e;cases c with
   |no=>cases e
   |sh t=>cases e
   |ow us=>exact n i us q
 refine⟨by unfold a_;rw[ah];exact h.len,fun i t e=>?_,fun i ts e=>absurd e (no i ts),fun i j ts us D _ e=>absurd e (no i ts)⟩;unfold a_ at e;rw[aP]at e;cases q:ρ[i]? with
 |none=>rw[q]at e;cases e
 |some c=>
  rw[q]at e;cases c with
  |no=>cases e
  |ow us=>exact absurd q (n i us)
  |sh u=>
   obtain⟨v,e1,r⟩:=h.sh i u q;have e2:bT 5 A u=t:=by
    have e3:=Option.some.inj e;exact(Cell.sh.inj e3)
   rw[<-e2];exact⟨v,e1,fz ha 5 r⟩
theorem bu.grow {K:PySem.W.Frag}{B B':bZ}{H H':Hp}{σ:St}{ρ:az}(h:bu K B H σ ρ)(n:dR ρ)(g:Grows B H B' H'):bu K B' H' σ ρ:=
 ⟨h.len,fun i t e=>by obtain⟨v,e1,r⟩:=h.sh i t e;exact⟨v,e1,r.same g.gA⟩,fun i ts e=>absurd e (n i ts),fun i j ts us D _ e=>absurd e (n i ts)⟩
end L2
namespace L2
open PySem PySem.Spec PyProof.Rows
theorem bQ.get {P:Program}{w:World}{H:Hp}{h:Heap}{a:Addr}{o:HO}(x:bQ P w H h a o):∃u,h.get? a=some u:=by
 cases o with
 |lst xs=>obtain⟨_,_,_,_,e⟩:=x;exact⟨_,e⟩
 |tup xs=>obtain⟨_,_,_,o,e,_⟩:=x;exact⟨o,e⟩
 |dK aw=>obtain⟨_,_,_,_,o,_,_,e,_⟩:=x;exact⟨o,e⟩
 |dT aw=>obtain⟨_,_,_,_,o,_,_,e,_⟩:=x;exact⟨o,e⟩
 |set S n=>obtain⟨o,_,_,_,e,_⟩:=x;exact⟨o,e⟩
 |ins C dx fs=>obtain⟨_,_,_,e,_⟩:=x;exact⟨_,e⟩
 |own y=>exact x
 |xd fs=>obtain⟨_,⟨_,_,_,e,_⟩,_⟩:=x;exact⟨_,e⟩
 |Q0 lo hi=>obtain⟨_,_,_,e⟩:=x;exact⟨_,e⟩
 |gk ob u=>obtain⟨e,_⟩:=x;exact⟨_,e⟩
 |wB ps=>obtain⟨qs,e,_⟩:=x;exact⟨_,e⟩
 |met f y=>exact⟨_,(show h.get? a=some _ from x)⟩
 |ext φ=>obtain⟨_,e,_⟩:=x;exact e
structure Ov(h0:Heap)(H:Hp)(h:Heap)(a:Addr)(cls:Value):Prop where
 ob:∃oe vs a0,h.get? a=some oe/\oe.cls=cls/\oe.data=.fields vs/\vs[0]?=some a0/\
  (vs[1]?=some .none\/∃T oT ts,vs[1]?=some (.ref T)/\T≠a/\h0.get? T=none/\H T=none/\h.get? T=some oT/\oT.data=.fields ts/\ts[3]?=some .none)
 fr:H a=none
 nw:h0.get? a=none
def XS(X:Cx)(H:Hp)(cls e:Value)(s:Shared):Prop:=∃a pins σ h0,e=.ref a/\Inv X pins σ H s/\Ov h0 H s.heap a cls/\(∀b,h0.get? b=none->X.fb.heap.get? b=none)/\(∀p∈X.pn,∃o,h0.get? p.1=some o)/\∀b,s.heap.get? b=none->h0.get? b=none
def EX(X:Cx):XK:=fun cls _ H=>∀e s,XS X H cls e s->X.xe e s
def t7(P:Program)(w:World):yQ:=fun outer H s E e s'=>∃a cls H',e=.ref a/\s'.os=s.os/\AllBare s'.gens/\Un (nO outer) [] H H' s.heap s'.heap/\lZ P w H' s'.heap/\Ov s.heap H' s'.heap a cls/\E cls none H'
theorem Ov.Ow {h0 h1 h:Heap}{H:Hp}{a:Addr}{cls:Value}(u:Ov h1 H h a cls)(k:∀b,h1.get? b=none->h0.get? b=none):Ov h0 H h a cls:=by
 obtain⟨⟨oe,vs,a0,e1,e2,e3,e4,e5⟩,f,n⟩:=u;refine⟨⟨oe,vs,a0,e1,e2,e3,e4,?_⟩,f,k a n⟩;rcases e5 with e5|⟨T,oT,ts,q1,q2,q3,q4⟩
 ·exact .inl e5
 ·exact .inr ⟨T,oT,ts,q1,q2,k T q3,q4⟩
theorem Inv.DZ {X:Cx}{pins:List (Addr×Obj)}{σ:St}{H:Hp}{s:Shared}(I:Inv X pins σ H s)(hx:X.ex=[]){b:Addr}(n:s.heap.get? b=none):X.fb.heap.get? b=none:=by
 cases q:X.fb.heap.get? b with
 |none=>rfl
 |some o=>
  obtain⟨o',e⟩:=I.base.there b o q (by rw[hx];simp);rw[n]at e;cases e
theorem BV{X:Cx}(hx:X.ex=[]):Passes (t7 X.prog X.w) X (EX X):=by
 intro pins σ H s e s' I z;obtain⟨a,cls,H',rfl,os,bare,un,cp,Td,q⟩:=z;have ce:CE X.stack X.prog X.w H s (fun _ H2=>H2=H') .none s':=⟨.cD,H',os,bare,un,cp,rfl,rfl⟩;obtain⟨v,H2,I2,_,rfl⟩:=I.after ce;exact q (.ref a) s' ⟨a,pins,σ,s.heap,rfl,I2,Td,fun b n=>I.DZ hx n,fun p hp=>⟨_,(I.pin p (j9 _ hp)).1⟩,fun b n=>by
  cases z:s.heap.get? b with
  |none=>rfl
  |some o=>obtain⟨o',e⟩:=un.there b o z (by simp);rw[n]at e;cases e⟩
section
variable {P:Program}{w:World}{K:PySem.W.Frag}{mg:Str->Option Value}{base:Heap}{N:List Str}{qual:Str}{scope:Scope}{f:Addr}{cd:Value}{A:Around}{outer:List Env}{s:Shared}{H:Hp}{E:XK}
theorem xA{H':Hp}{cls e:Value}{s':Shared}(x:XS (jZ (t7 P w) P w K mg base N qual scope f cd A outer s H E) H' cls e s')(q:E cls none H'):(jZ (t7 P w) P w K mg base N qual scope f cd A outer s H E).xe e s':=by
 obtain⟨a,pins,σ,YQ,rfl,I,Te,old,_,_⟩:=x;have Td:=Te.Ow (h0:=s.heap) old;obtain⟨⟨oe,vs,a0,he,FY,hd,h0,h1⟩,fr,nw⟩:=Td
 let env:=envOfC qual scope s.heap.objs.size f cd
 have Mz:(A.deeper env).frames=some (env::outer):=I.ok.frames;have hk:s'.heap.FunFrames base (env::outer):=I.stack;have Rk:∀L∈nO (env::outer),H' L=none/\∃o,s'.heap.get? L=some o/\∀ws,o.data≠ .fields ws:=fun L hL=>⟨I.vu L hL,(hk.mem hL).2⟩;have YR:a∉nO (env::outer):=fun m=>by
  obtain⟨_,o,e1,e2⟩:=Rk a m;rw[he]at e1;cases e1;exact e2 vs hd
 have fin:∀(hs:List Addr) (h':Heap),(∀b∈hs,H' b=none/\(b∈nO (env::outer)\/s.heap.get? b=none))->(∀b∈nO (env::outer),b∈hs)->a∈hs->(∀b∈hs,b∈nO (env::outer)\/b=a\/H' b=none)->
   Heap.LeftW (PySem.W.hideAll s'.heap hs) (env::outer) a cls a0 s'.heap h'->t7 P w outer H s E (.ref a) {s' with heap:=h'}:=by
  intro hs h' hh GV WW _ ⟨k1,k2,k3,k4⟩;have kp:∀b o,b∉hs->s'.heap.get? b=some o->h'.get? b=some o:=fun b o nb e=>k1 b o (mW _ e nb);have old:∀b o,s.heap.get? b=some o->b∉nO outer->b∉hs:=fun b o e nf m=>by
   rcases(hh b m).2 with z|z
   ·unfold nO at z;rw[gU]at z;have z':b∈s.heap.objs.size::nO outer:=z;rcases aN.mp z' with z'|z'
    ·exact absurd (ar e) (by rw[z'];exact cX _)
    ·exact nf z'
   ·rw[e]at z;cases z
  have sl:∀b o,s'.heap.get? b=some o->b∈nO outer->∃sl,h'.get? b=some {o with slots:=sl}:=fun b o e m=>by
   obtain⟨_,o2,e2,nf⟩:=Rk b (by unfold nO at m⊢;rw[gU];exact aO _ m);rw[e]at e2;cases e2;exact k4 b o e nf
  have U:Un (nO outer) [] H H' s.heap s'.heap:=I.base;refine⟨a,cls,H',rfl,I.os,I.bare,⟨fun b o e n nf nx=>?_,fun b o e n m nx=>?_,U.free,fun b o e nx=>?_,U.lS,U.jY,U.kC⟩,fun b o e=>?_,⟨?_,fr,nw⟩,q⟩
  ·exact kp b o (old b o e nf) (U.keep b o e n nf nx)
  ·obtain⟨s1,e1⟩:=U.slot b o e n m nx;obtain⟨s2,e2⟩:=sl b _ e1 m;exact⟨s2,e2⟩
  ·obtain⟨o1,e1⟩:=U.there b o e nx;by_cases m:b∈nO outer
   ·obtain⟨s2,e2⟩:=sl b o1 e1 m;exact⟨_,e2⟩
   ·exact⟨o1,kp b o1 (old b o e m) e1⟩
  ·refine(I.cp b o e).ma (fun c u hc z=>kp c u (fun m=>?_) z) (fun _ z=>z) fun _ _ z=>z;have n:=(hh c m).1;rcases hc with rfl|hc
   ·rw[n]at e;cases e
   ·rw[n]at hc;cases hc
  ·obtain⟨WX,WY,T,oT,ts,q1,⟨q2,q3⟩,q4,q5,q6,q7,q8,q9,WZ⟩:=k3;refine⟨WX,WY,a0,q1,q2,q4,q3,.inr ⟨T,oT,ts,q5,q7,?_,?_,q8,q9,WZ⟩⟩
   ·by_cases m:T∈hs
    ·rcases(hh T m).2 with z|z
     ·obtain⟨o3,e3,n3⟩:=(k2.mem z).2;rw[q8]at e3;cases e3;exact absurd q9 (n3 ts)
     ·exact z
    ·cases z:s.heap.get? T with
     |none=>rfl
     |some o=>
      obtain⟨o1,e1⟩:=U.there T o z (by simp);rw[mW _ e1 m]at q6;cases q6
   ·by_cases m:T∈hs
    ·exact(hh T m).1
    ·cases z:H' T with
     |none=>rfl
     |some o=>
      obtain⟨u,e1⟩:∃u,s'.heap.get? T=some u:=(I.cp T o z).get;rw[mW _ e1 m]at q6;cases q6
 have j1:∀e∈(env::outer),∀b,e.frame=some b->b∈nO (env::outer):=fun e he b hb=>iW.mpr ⟨e,he,hb⟩;show wpAny (model P w) (A.deeper env) (leaving env (.ref a)) (fun _ FH=>t7 P w outer H s E (.ref a) FH) _ s';rcases h1 with h1|⟨T,oT,ts,h1,W0,W3,IE,hT,W4,h3⟩
 ·let hs:=a::nO (env::outer)
  refine wpAny_leaving_firstW (base:=PySem.W.hideAll s'.heap hs) Mz (PySem.W.funFrames_hide hk fun e he b hb=>aO _ (j1 e he b hb)) rfl he (fun b o z=>rg _ z) (mU _ (aS ..)) hd h1 h0 fun h' hL=>?_
  rw[FY]at hL;refine fin hs h' (fun b m=>?_) (fun b m=>aO _ m) (aS ..) (fun b m=>?_) hL
  ·rcases aN.mp m with rfl|m
   ·exact⟨fr,.inr nw⟩
   ·exact⟨(Rk b m).1,.inl m⟩
  ·rcases aN.mp m with rfl|m
   ·exact .inr (.inl rfl)
   ·exact .inl m
 ·let hs:=a::T::nO (env::outer)
  refine wpAny_leaving_nextW (base:=PySem.W.hideAll s'.heap hs) (cls:=cls) (a0:=a0) Mz (PySem.W.funFrames_hide hk fun e he b hb=>aO _ (aO _ (j1 e he b hb))) rfl
   ⟨oe,vs,T,oT,ts,he,⟨FY,h0⟩,hd,h1,mU _ (aO _ (aS ..)),W0,hT,W4,h3⟩ (fun b o z=>rg _ z) (mU _ (aS ..)) fun h' hL=>?_
  refine fin hs h' (fun b m=>?_) (fun b m=>aO _ (aO _ m)) (aS ..) (fun b m=>?_) hL
  ·rcases aN.mp m with rfl|m
   ·exact⟨fr,.inr nw⟩
   ·rcases aN.mp m with rfl|m
    ·exact⟨IE,.inr W3⟩
    ·exact⟨(Rk b m).1,.inl m⟩
  ·rcases aN.mp m with rfl|m
   ·exact .inr (.inl rfl)
   ·rcases aN.mp m with rfl|m
    ·exact .inr (.inr IE)
    ·exact .inl m
end
end L2
namespace L2
open PySem PySem.Spec PyProof.Rows
inductive Rz(α:Type) where
 |bad|ok (a:α) (A:Ab)|exc (c:Tr) (A:Ab)
def Rz.bind {α β:Type}(r:Rz α)(f:α->Ab->Rz β):Rz β:=match r with
 |.ok a A=>f a A
 |.exc c A=>.exc c A
 |.bad=>.bad
def dG(xc:Tr->Ab->Prop){α:Type}(r:Rz α)(k:α->Ab->Prop):Prop:=match r with
 |.ok a A=>k a A
 |.exc c A=>xc c A
 |.bad=>False
section
variable {α β:Type}{r:Rz α}{k k':α->Ab->Prop}{xc NM:Tr->Ab->Prop}
theorem dG.mono (h:dG xc r k)(w:∀a A,k a A->k' a A):dG xc r k':=by
 cases r with
 |ok a A=>exact w a A h
 |exc c A=>exact h
 |bad=>exact h
theorem dG.imp (h:dG xc r k)(w:∀c A,xc c A->NM c A):dG NM r k:=by
 cases r with
 |ok a A=>exact h
 |exc c A=>exact w c A h
 |bad=>exact h
theorem dG.bind {f:α->Ab->Rz β}{k:β->Ab->Prop}(h:dG xc (r.bind f) k):dG xc r fun a A=>dG xc (f a A) k:=by
 cases r with
 |ok a A=>exact h
 |exc c A=>exact h
 |bad=>exact h
end
def aq{α:Type}(r:Rs α)(A:Ab):Rz α:=match r with
 |.ok a=>.ok a A
 |_=>.bad
theorem ij{X:Cx}{H:Hp}{α:Type}{xc:Tr->Ab->Prop}{r:Rs α}{A:Ab}{k:α->Ab->Prop}(q:dG xc (aq r A) k):Fi X H r fun a=>k a A:=by
 cases r with
 |ok a=>exact q
 |exc c=>exact(show False from q).elim
 |bad=>exact q
def Ox(K:PySem.W.Frag):Tr->Value
 |.str x=>.ref (clsAt K x)
 |_=>.none
def XE(X:Cx)(B:bZ)(H:Hp):Tr->Ab->Prop:=fun c A=>∀B' H',Grows B H B' H'->HA X.K B' A H'->EX X (Ox X.K c) none H'
theorem XE.grow {X:Cx}{B B':bZ}{H H':Hp}{c:Tr}{A:Ab}(hb:HB B H)(h:XE X B H c A)(g:Grows B H B' H'):XE X B' H' c A:=fun B2 H2 g2 ha=>h B2 H2 (g.trans hb g2) ha
inductive tE(X:Cx)(F:az->Ab->Rz Tr)(σ:St)(H:Hp)(Q:VK):Prop
 |mk (B:bZ) (A:Ab) (ρ:az):HA X.K B A H->bu X.K B H σ ρ->dR ρ->(dG (XE X B H) (F ρ A) fun t A'=>∀v B' H',Grows B H B' H'->HA X.K B' A' H'->Rep X.K (aT B' H') v t->Q v H')->tE X F σ H Q
inductive D0(X:Cx)(F:az->Ab->Rz Bool)(σ:St)(H:Hp)(Q:Bool->Hp->Prop):Prop
 |mk (B:bZ) (A:Ab) (ρ:az):HA X.K B A H->bu X.K B H σ ρ->dR ρ->(dG (XE X B H) (F ρ A) fun b A'=>∀B' H',Grows B H B' H'->HA X.K B' A' H'->Q b H')->D0 X F σ H Q
inductive GW(X:Cx)(F:az->Ab->Rz (List Tr))(σ:St)(H:Hp)(Q:List V->Hp->Prop):Prop
 |mk (B:bZ) (A:Ab) (ρ:az):HA X.K B A H->bu X.K B H σ ρ->dR ρ->(dG (XE X B H) (F ρ A) fun ts A'=>∀vs B' H',Grows B H B' H'->HA X.K B' A' H'->aK X.K (aT B' H') vs ts->Q vs H')->GW X F σ H Q
def Ky(H H':Hp)(p:Addr):Prop:=H p=none/\∀o u,H' p≠some (.gk o u)
theorem Ky.lst {K:PySem.W.Frag}{B:bZ}{H H':Hp}{p:Addr}{ts:List Tr}(h:H p=none)(r:Rep K (aT B H') (.ref p) (.lst ts)):Ky H H' p:=by
 cases r with
 |lst e _=>exact⟨h,fun o u z=>by rw[aE _ _ e]at z;cases z⟩
theorem Ky.upd {H H1:Hp}{p:Addr}{x:HO}(h:H p=none)(hx:∀o u,x≠ .gk o u):Ky H (L2.upd H1 p x) p:=⟨h,fun o u z=>by rw[aG]at z;cases z;exact hx _ _ rfl⟩
inductive tF(X:Cx)(F:az->Rs Tr)(σ:St)(H:Hp)(Q:VK):Prop
 |mk (B:bZ) (ρ:az):HB B H->bu X.K B H σ ρ->(Fi X H (F ρ) fun t=>∀v H',ax H H'->Rep X.K (aT B H') v t->(∀p,v=.ref p->Ky H H' p)->Q v H')->tF X F σ H Q
def vN(r:Rs Tr)(A:Ab):Rz Tr:=match r with
 |.ok t=>if uV t=true then .ok t A else .bad
 |_=>.bad
def fg(r:Rs Tr)(A:Ab):Rz Tr:=match r with
 |.ok (.lst ts)=>if fM ts=true then .ok (.at A.length) (A++[.lst ts])else .bad
 |.ok (.kN aD)=>if fM (aD.map (·.2))=true then .ok (.at A.length) (A++[.kN aD])else .bad
 |.ok (.bj aD)=>if fM (aD.map (·.2))=true then .ok (.at A.length) (A++[.bj aD])else .bad
 |_=>.bad
section
variable {X:Cx}{e:Expr}{es:List Expr}{F:az->Rs Tr}{P:az->Rs Bool}{L:az->Rs (List Tr)}{FZ GZ:az->Ab->Rz Tr}{LZ:az->Ab->Rz (List Tr)}
theorem W5(h:PE X e (tF X F)):PE X e (tP X F):=h.weak fun σ H Q ⟨B,ρ,hb,r,q⟩=>⟨B,ρ,hb,r,q.mono fun t k v H' s rv _=>k v H' s rv⟩
theorem pR{σ:St}{H:Hp}{Q:VK}(q:tE X (fun ρ A=>aq (F ρ) A) σ H Q):tP X F σ H Q:=by
 obtain⟨B,A,ρ,ha,r,_,q⟩:=q;exact⟨B,ρ,ha.hb,r,(ij q).mono fun t qt v H' s rv=>qt v B H' (.of s) (ha.same s) rv⟩
theorem Kz(h:PE X e (tP X F)):PE X e (tE X fun ρ A=>aq (F ρ) A):=h.weak fun σ H Q q=>pR q
theorem GX(h:PT X e (tQ X P)):PT X e (D0 X fun ρ A=>aq (P ρ) A):=
 h.weak fun σ H Q ⟨B,A,ρ,ha,r,_,q⟩=>⟨B,ρ,ha.hb,r,(ij q).mono fun t qt H' s=>qt B H' (.of s) (ha.same s)⟩
theorem KA(h:PE X e (tP X F)):PE X e (tE X fun ρ A=>vN (F (a_ A ρ)) A):=
 h.weak fun σ H Q ⟨B,A,ρ,ha,r,n,q⟩=>⟨B.un,a_ A ρ,xx ha.hb,r.Kx ha n,by
   have q:dG (XE X B H) (vN (F (a_ A ρ)) A) _:=q;cases e:F (a_ A ρ)with
   |bad=>rw[e]at q;exact q
   |exc c=>rw[e]at q;exact(show False from q).elim
   |ok t=>
    rw[e]at q;intro v H' s rv;by_cases f:uV t=true
    ·have q':dG _ (if uV t=true then Rz.ok t A else .bad) _:=q;rw[ab f]at q';exact q' v B H' (.of s) (ha.same s) (o9 (ha.same s) rv f)
    ·have q':dG _ (if uV t=true then Rz.ok t A else .bad) _:=q;rw[af f]at q';exact(show False from q').elim⟩
theorem GY(h:PT X e (tQ X P)):PT X e (D0 X fun ρ A=>aq (P (a_ A ρ)) A):=
 h.weak fun σ H Q ⟨B,A,ρ,ha,r,n,q⟩=>⟨B.un,a_ A ρ,xx ha.hb,r.Kx ha n,(ij q).mono fun t qt H' s=>qt B H' (.of s) (ha.same s)⟩
theorem oj{c:Prop}[Decidable c]{α:Type}{xc:Tr->Ab->Prop}{r:Rz α}{k:α->Ab->Prop}(h:dG xc (if c then r else .bad) k):c/\dG xc r k:=by
 by_cases q:c
 ·rw[ab q]at h;exact⟨q,h⟩
 ·rw[af q]at h;exact(show False from h).elim
theorem mr{σ:St}{H:Hp}{Q:VK}(q:tE X (fun ρ A=>fg (F (a_ A ρ)) A) σ H Q):tF X F σ H Q:=by
  obtain⟨B,A,ρ,ha,r,n,q⟩:=q;refine⟨B.un,a_ A ρ,xx ha.hb,r.Kx ha n,?_⟩;have q:dG (XE X B H) (fg (F (a_ A ρ)) A) _:=q;cases e:F (a_ A ρ)with
  |bad=>rw[e]at q;exact q
  |exc c=>rw[e]at q;exact(show False from q).elim
  |ok t=>
   rw[e]at q;intro v H' s rv fr;have dQ:=ha.same s;cases rv with
   |@lst p vs ts h rr=>
    have hp:=(fr p rfl).1;obtain⟨f,q'⟩:=oj q;have h1:H' p=some (.lst vs):=aE _ _ h;obtain⟨g,h2⟩:=ha.push (o:=.lst ts) hp s ⟨qK,vs,h1,oh ((ig.un dQ).trans (.new (ha.free hp) h1 (fun _ z=>by cases z) fun _ _ z=>by cases z)) rr f⟩;exact q' _ _ H' g h2 (.at iE)
   |@kN p aw aD h ek rr=>
    have hp:=(fr p rfl).1;obtain⟨f,q'⟩:=oj q;have h1:H' p=some (.dK aw):=by
     rcases h.same aE with h|⟨o,h⟩
     ·exact h
     ·exact((fr p rfl).2 _ _ h).elim
    obtain⟨g,h2⟩:=ha.push (o:=.kN aD) hp s ⟨qK,aw,h1,ek,oh ((ig.un dQ).trans (.new (ha.free hp) h1 (fun _ z=>by cases z) fun _ _ z=>by cases z)) rr f⟩;exact q' _ _ H' g h2 (.at iE)
   |@bj p aw aD h ek rr=>
    have hp:=(fr p rfl).1;obtain⟨f,q'⟩:=oj q;have h1:H' p=some (.dT aw):=by
     rcases h.same aE with h|⟨o,h⟩
     ·exact h
     ·exact((fr p rfl).2 _ _ h).elim
    obtain⟨g,h2⟩:=ha.push (o:=.bj aD) hp s ⟨qK,aw,h1,ek,oh ((ig.un dQ).trans (.new (ha.free hp) h1 (fun _ z=>by cases z) fun _ _ z=>by cases z)) rr f⟩;exact q' _ _ H' g h2 (.at iE)
   |_=>exact(show False from q).elim
theorem Oy(h:PE X e (tF X F)):PE X e (tE X fun ρ A=>fg (F (a_ A ρ)) A):=h.weak fun σ H Q q=>mr q
end
end L2
namespace L2
open PySem PySem.Spec PyProof.Rows
def kZ(X:Cx)(D:Ends)(B0:bZ)(H0:Hp):Out->Ab->Prop
 |.nx ρ,A=>∀cf B' H',Grows B0 H0 B' H'->HA X.K B' A H'->bu X.K B' H' cf ρ->dR ρ->D.nx cf H'
 |.ret t,A=>∀v B' H',Grows B0 H0 B' H'->HA X.K B' A H'->Rep X.K (aT B' H') v t->D.rt v H'
 |.bk ρ,A=>∀cf B' H',Grows B0 H0 B' H'->HA X.K B' A H'->bu X.K B' H' cf ρ->dR ρ->D.bk cf H'
 |.ct ρ,A=>∀cf B' H',Grows B0 H0 B' H'->HA X.K B' A H'->bu X.K B' H' cf ρ->dR ρ->D.ct cf H'
inductive tZ(X:Cx)(G:az->Ab->Rz Out)(D:Ends)(σ:St)(H:Hp):Prop
 |mk (B0:bZ) (H0:Hp) (B:bZ) (A:Ab) (ρ:az):HB B0 H0->Grows B0 H0 B H->HA X.K B A H->bu X.K B H σ ρ->dR ρ->dG (XE X B0 H0) (G ρ A) (kZ X D B0 H0)->tZ X G D σ H
section
variable {X:Cx}{a b c e:Expr}{pos:Pos}{F:az->Ab->Rz Tr}{G G':az->Ab->Rz Out}{P:az->Ab->Rz Bool}{st:Stmt}{rest N4:List Stmt}
def bS(r:Rz Out)(G:az->Ab->Rz Out):Rz Out:=r.bind fun o A=>match o with
 |.nx ρ=>G ρ A
 |.ret t=>.ok (.ret t) A
 |.bk ρ=>.ok (.bk ρ) A
 |.ct ρ=>.ok (.ct ρ) A
theorem Oz:kD X [] (tZ X fun ρ A=>.ok (.nx ρ) A):=zX.weak fun D σ H ⟨B0,H0,B,A,ρ,hb,g,ha,r,n,q⟩=>q σ B H g ha r n
theorem KC(h1:PS X st (tZ X G))(h2:kD X rest (tZ X G')):kD X (st::rest) (tZ X fun ρ A=>bS (G ρ A) G'):=
 (wV h1 h2).weak fun D σ H ⟨B0,H0,B,A,ρ,hb,g,ha,r,n,q⟩=>⟨B0,H0,B,A,ρ,hb,g,ha,r,n,q.bind.mono fun o A1 qo=>by
  cases o with
  |nx eS=>exact fun cf B' H' g' dQ r' n'=>⟨B0,H0,B',A1,eS,hb,g',dQ,r',n',qo⟩
  |ret t=>exact qo
  |bk eS=>exact qo
  |ct eS=>exact qo⟩
theorem OA(h1:PS X st (tZ X G)):kD X [st] (tZ X G):=zY h1
theorem ik{B0 B:bZ}{H0 H:Hp}{A:Ab}{σ:St}{ρ:az}{k:Tr->Ab->Prop}(hb:HB B0 H0)(g:Grows B0 H0 B H)(ha:HA X.K B A H)(r:bu X.K B H σ ρ)(n:dR ρ)(q:dG (XE X B0 H0) (F ρ A) k){Q:VK}
  (hq:∀t A' v B' H',k t A'->Grows B0 H0 B' H'->HA X.K B' A' H'->bu X.K B' H' σ ρ->Rep X.K (aT B' H') v t->Grows B H B' H'->Q v H'):tE X F σ H Q:=
 ⟨B,A,ρ,ha,r,n,(q.imp fun c A' x=>x.grow hb g).mono fun t A' qp v B' H' g' dQ rv=>hq t A' v B' H' qp (g.trans hb g') dQ (r.grow n g') rv g'⟩
theorem D1{B0 B:bZ}{H0 H:Hp}{A:Ab}{σ:St}{ρ:az}{k:Bool->Ab->Prop}(hb:HB B0 H0)(g:Grows B0 H0 B H)(ha:HA X.K B A H)(r:bu X.K B H σ ρ)(n:dR ρ)(q:dG (XE X B0 H0) (P ρ A) k){Q:Bool->Hp->Prop}
  (hq:∀t A' B' H',k t A'->Grows B0 H0 B' H'->HA X.K B' A' H'->bu X.K B' H' σ ρ->Q t H'):D0 X P σ H Q:=
 ⟨B,A,ρ,ha,r,n,(q.imp fun c A' x=>x.grow hb g).mono fun t A' qp B' H' g' dQ=>hq t A' B' H' qp (g.trans hb g') dQ (r.grow n g')⟩
def cR(i:Nat)(r:Rz Tr)(ρ:az):Rz Out:=r.bind fun t A=>.ok (.nx (ρ.set i (.sh t))) A
theorem OB{i:Nat}{x:Str}{pos':Pos}(he:PE X e (tE X F))(hN:X.N.Nodup:=by assumption) (hi:X.N[i]?=some x:=by rfl) (hx:Loc X.env.scope x:=by first|exact Or.inl rfl|exact Or.inr rfl) (hs:mm e=false:=by rfl) (hf:X.fn x=true\/X.env.scope.names.lookup x=some .local:=by first|exact .inl rfl|exact .inr rfl|assumption):
  PS X (.Assign [.Name x pos'] e pos) (tZ X fun ρ A=>cR i (F ρ A) ρ):=
 (yH hN hi hx he (sq hs) hf).weak fun D σ H ⟨B0,H0,B,A,ρ,hb,g,ha,r,n,q⟩=>ik hb g ha r n q.bind fun t A' v B' H' qt g' dQ r' rv _=>qt _ B' H' g' dQ (r'.set i rv) (n.set i t)
def jF(r:Rz Tr):Rz Out:=r.bind fun t A=>.ok (.ret t) A
theorem OC(he:PE X e (tE X F)):PS X (.Return (some e) pos) (tZ X fun ρ A=>jF (F ρ A)):=
 (Dq he).weak fun D σ H ⟨B0,H0,B,A,ρ,hb,g,ha,r,n,q⟩=>ik hb g ha r n q.bind fun t A' v B' H' qt g' dQ r' rv _=>qt v B' H' g' dQ rv
def eJ(r:Rz Tr)(ρ:az):Rz Out:=r.bind fun _ A=>.ok (.nx ρ) A
theorem KD(he:PE X e (tE X F))(hs:mm e=false:=by rfl):PS X (.Expr e pos) (tZ X fun ρ A=>eJ (F ρ A) ρ):=
 (F3 he (sq hs)).weak fun D σ H ⟨B0,H0,B,A,ρ,hb,g,ha,r,n,q⟩=>ik hb g ha r n q.bind fun t A' v B' H' qt g' dQ r' rv _=>qt _ B' H' g' dQ r' n
def BW(c:Rz Bool)(a b:Ab->Rz Out):Rz Out:=c.bind fun k A=>if k then a A else b A
theorem Tf{ys ns:List Stmt}(hc:PT X c (D0 X P))(h1:kD X ys (tZ X G))(h2:kD X ns (tZ X G')):PS X (.If c ys ns pos) (tZ X fun ρ A=>BW (P ρ A) (G ρ) (G' ρ)):=
 (Ih hc h1 h2).weak fun D σ H ⟨B0,H0,B,A,ρ,hb,g,ha,r,n,q⟩=>D1 hb g ha r n q.bind fun k A' B' H' qk g' dQ r'=>by
  cases k with
  |true=>exact J7 ⟨B0,H0,B',A',ρ,hb,g',dQ,r',n,qk⟩
  |false=>exact J5 ⟨B0,H0,B',A',ρ,hb,g',dQ,r',n,qk⟩
theorem D2{T:j3}{B0 B:bZ}{H0 H:Hp}{A:Ab}{σ:St}{ρ:az}{v:V}{t:Tr}{k:az->Ab->Prop}(hT:gK T)(hb:HB B0 H0)(g:Grows B0 H0 B H)(ha:HA X.K B A H)(r:bu X.K B H σ ρ)(n:dR ρ)(rv:Rep X.K (aT B H) v t){xc:Tr->Ab->Prop}(q:dG xc (aq (T t ρ) A) k){Q:St->Hp->Prop}
  (hq:∀eS cf H',k eS A->Grows B0 H0 B H'->HA X.K B A H'->bu X.K B H' cf eS->dR eS->ax H H'->Q cf H'):tG X T v σ H Q:=by
 refine⟨B,ρ,t,ha.hb,r,rv,?_⟩;cases e:T t ρ with
 |ok eS=>rw[e]at q;exact fun cf H' s r'=>hq eS cf H' q (g.trans hb (.of s)) (ha.same s) r' (hT t ρ eS n e) s
 |exc c=>rw[e]at q;exact(show False from q).elim
 |bad=>rw[e]at q;exact q
def jm(T:j3)(G:az->Ab->Rz Out):List Tr->az->Ab->Rz Out
 |[],ρ,A=>.ok (.nx ρ) A
 |t::ts,ρ,A=>(aq (T t ρ) A).bind fun ρ1 A=>(G ρ1 A).bind fun o A=>match o with
  |.nx ρ2=>jm T G ts ρ2 A
  |.ct ρ2=>jm T G ts ρ2 A
  |.bk ρ2=>.ok (.nx ρ2) A
  |.ret t=>.ok (.ret t) A
def jR(T:j3)(G:az->Ab->Rz Out)(l:Rz (List Tr))(ρ:az):Rz Out:=l.bind fun ts A=>jm T G ts ρ A
theorem OD{tg iter:Expr}{body:List Stmt}{W:az->Rs (List Tr)}{T:j3}(hi:PI X tg iter (tI X W))(hg:PG X tg (tG X T))(hT:gK T)(hb:kD X body (tZ X G))(hp:PassesOwn (model X.prog X.w) X.A X.env X.xe:=by first|exact i_|exact i7) (hc:X.calm=true:=by rfl)
  (hs:isSet iter=false:=by rfl):PS X (.For tg iter body [] pos) (tZ X fun ρ A=>jR T G (aq (W ρ) A) ρ):=
 (yL hp hc hi hg hb (dF hs)).weak fun D σ H ⟨B0,H0,B,A,ρ,t8,g,ha,r,n,q⟩=>⟨B,ρ,ha.hb,r,(ij (dG.bind q)).mono fun ts qt J H1 s1 gt=>by
  have g1:Grows B0 H0 B H1:=g.trans t8 (.of s1);have wF:HB B H1:=ha.hb.same s1;refine⟨fun i m cf H'=>m=ts.length - i/\i<=ts.length/\∃B' A' eS,Grows B H1 B' H'/\HA X.K B' A' H'/\bu X.K B' H' cf eS/\dR eS/\dG (XE X B0 H0) (jm T G (ts.drop i) eS A') (kZ X D B0 H0),⟨_,rfl,bP _,B,A,ρ,.refl,ha.same s1,r.same s1,n,qt⟩,?_⟩
  rintro i m cf H' ⟨rfl,hi,B',A',eS,g',dQ,r',n',q'⟩
  by_cases eG:i<ts.length
  ·rw[lI eG]at q';refine .inr ⟨gt.go i B' H' eG g'.gA dQ.hb,fun rX H2=>∃B2 A2 ρ2,Grows B H1 B2 H2/\HA X.K B2 A2 H2/\bu X.K B2 H2 rX ρ2/\dR ρ2/\dG (XE X B0 H0) (jm T G (ts.drop (i+1)) ρ2 A2) (kZ X D B0 H0),
    fun rX H2 x=>⟨ts.length - (i+1),by omega,rfl,eG,x⟩,fun x H2 hx=>?_⟩
   obtain⟨s2,t,et,rt⟩:=gt.zZ i B' H' x H2 eG g'.gA dQ.hb hx;have Od:ts[i]=t:=by rw[aB eG]at et;exact Option.some.inj et
   rw[Od]at q';have g2:Grows B H1 B' H2:=g'.trans wF (.of s2);refine D2 hT wF g2 (dQ.same s2) (r'.same s2) n' rt (dG.bind q') fun ρ1 yJ H3 q1 g3 BX r3 n3 _=>?_
   refine⟨B,H1,B',A',ρ1,wF,g3,BX,r3,n3,((dG.bind q1).imp fun c Vz x=>x.grow t8 g1).mono fun o A4 qo=>?_⟩;cases o with
   |nx ρ2=>exact fun BY B4 H4 g4 o_ r4 n4=>⟨B4,A4,ρ2,g4,o_,r4,n4,qo⟩
   |ct ρ2=>exact fun BY B4 H4 g4 o_ r4 n4=>⟨B4,A4,ρ2,g4,o_,r4,n4,qo⟩
   |bk ρ2=>exact fun BY B4 H4 g4 o_ r4 n4=>qo BY B4 H4 (g1.trans t8 g4) o_ r4 n4
   |ret t=>exact fun v B4 H4 g4 o_ r4=>qo v B4 H4 (g1.trans t8 g4) o_ r4
  ·have e:i=ts.length:=by omega
   subst e;rw[m9]at q';exact .inl ⟨gt.stop B' H' g'.gA,q' cf B' H' (g1.trans t8 g') dQ r' n'⟩⟩
def fA(P:az->Ab->Rz Bool)(G:az->Ab->Rz Out):Nat->az->Ab->Rz Out
 |0,_,_=>.bad
 |m+1,ρ,A=>(P ρ A).bind fun k A=>if k then(G ρ A).bind fun o A=>match o with
   |.nx ρ2=>fA P G m ρ2 A
   |.ct ρ2=>fA P G m ρ2 A
   |.bk ρ2=>.ok (.nx ρ2) A
   |.ret t=>.ok (.ret t) A
  else .ok (.nx ρ) A
theorem G0(m:Nat){body:List Stmt}(hc:PT X c (D0 X P))(hb:kD X body (tZ X G))(hp:PassesOwn (model X.prog X.w) X.A X.env X.xe:=by first|exact i_|exact i7):PS X (.While c body [] pos) (tZ X fun ρ A=>fA P G m ρ A):=
 (Dt hp hc hb).weak fun D σ H ⟨B0,H0,B,A,ρ,t8,g,ha,r,n,q⟩=>by
  refine⟨fun k cf H'=>∃B' A' eS,Grows B0 H0 B' H'/\HA X.K B' A' H'/\bu X.K B' H' cf eS/\dR eS/\dG (XE X B0 H0) (fA P G k eS A') (kZ X D B0 H0),⟨m,B,A,ρ,g,ha,r,n,q⟩,?_⟩
  rintro k Ii H1 ⟨B1,A1,ρ1,g1,iP,r1,n1,q1⟩
  cases k with
  |zero=>exact(show False from q1).elim
  |succ k=>
   refine D1 t8 g1 iP r1 n1 (dG.bind q1) fun t A2 B2 H2 q2 g2 vO r2=>?_
   cases t with
   |false=>
    rw[af cP]at q2⊢;exact q2 Ii B2 H2 g2 vO r2 n1
   |true=>
    rw[ab rfl]at q2⊢;refine⟨fun cf H'=>∃B' A' eS,Grows B0 H0 B' H'/\HA X.K B' A' H'/\bu X.K B' H' cf eS/\dR eS/\dG (XE X B0 H0) (fA P G k eS A') (kZ X D B0 H0),fun cf H' h=>⟨k,i5 k,h⟩,?_⟩;refine⟨B0,H0,B2,A2,ρ1,t8,g2,vO,r2,n1,(dG.bind q2).mono fun o A4 qo=>?_⟩;cases o with
    |nx ρ2=>exact fun BY B4 H4 g4 o_ r4 n4=>⟨B4,A4,ρ2,g4,o_,r4,n4,qo⟩
    |ct ρ2=>exact fun BY B4 H4 g4 o_ r4 n4=>⟨B4,A4,ρ2,g4,o_,r4,n4,qo⟩
    |bk ρ2=>exact qo
    |ret t=>exact qo
end
section
variable {X:Cx}{a e o:Expr}{es:List Expr}{F:az->Ab->Rz Tr}{L:az->Ab->Rz (List Tr)}{name:Str}{apos jB:Pos}{id:String}
def bR(r:Rz Tr)(l:Ab->Rz (List Tr)):Rz (List Tr):=r.bind fun x A=>(l A).bind fun xs A=>.ok (x::xs) A
theorem D3:PA X [] (GW X fun _ A=>.ok [] A):=kG.weak fun σ H Q ⟨B,A,ρ,ha,r,n,q⟩=>q [] B H .refl ha .nil
theorem Ay(h1:PE X a (tE X F))(hr:PA X es (GW X L))(hs:isStar a=false:=by rfl):PA X (a::es) (GW X fun ρ A=>bR (F ρ A) (L ρ)):=
 (iC h1 hr (ba _ _ hs)).weak fun σ H Q ⟨B,A,ρ,ha,r,n,q⟩=>⟨B,A,ρ,ha,r,n,q.bind.mono fun x A1 qx v B1 H1 g1 iP r1=>⟨B1,A1,ρ,iP,r.grow n g1,n,((dG.bind qx).imp fun c A' x=>x.grow ha.hb g1).mono fun xs A2 qs vs B2 H2 g2 vO r2=>qs _ B2 H2 (g1.trans ha.hb g2) vO (.cons (r1.same g2.gA) r2)⟩⟩
def Rl(X:Cx)(r:V->List V->Hp->VK->Prop)(h:Nat->List Tr->Ab->Rz Tr):Prop:=
 ∀(B:bZ) (A:Ab) (H:Hp) (a:Addr) (i:Nat) (xs:List V) (ts:List Tr) (Q:VK),HA X.K B A H->B.ix a=some i->aK X.K (aT B H) xs ts->
  dG (XE X B H) (h i ts A) (fun t A'=>∀v B' H',Grows B H B' H'->HA X.K B' A' H'->Rep X.K (aT B' H') v t->Q v H')->r (.ref a) xs H Q
def BZ(A:Ab)(i:Nat):Bool:=match A[i]? with
 |some (.lst _)=>true
 |_=>false
theorem KG{K:PySem.W.Frag}{B:bZ}{A:Ab}{H:Hp}{a:Addr}{i:Nat}(ha:HA K B A H)(e:B.ix a=some i)(h:BZ A i=true):∃xs,H a=some (.lst xs):=by
 obtain⟨o,eo,ao⟩:=ha.ex e;unfold BZ at h;rw[eo]at h;cases o with
 |lst ts=>obtain⟨_,vs,h1,_⟩:=ao;exact⟨vs,h1⟩
 |kN _=>cases h
 |bj _=>cases h
 |GU _=>cases h
 |tb _ _=>cases h
 |ins _ _=>cases h
def uW(h:Nat->List Tr->Ab->Rz Tr)(r:Rz Tr)(l:Ab->Rz (List Tr)):Rz Tr:=r.bind fun t A=>match t with
 |.at i=>if BZ A i=true then(l A).bind fun ts A=>h i ts A else .bad
 |_=>.bad
variable {r:V->List V->Hp->VK->Prop}{h:Nat->List Tr->Ab->Rz Tr}
theorem OE(slot:Slot "list" name id)(Nm:typeOf (.builtin id)=pure (.type "method_descriptor"))(hm:Q9 X id r)(hz:Rl X r h)(ho:PE X o (tE X F))(ha:PA X (e::es) (GW X L))(pa:PlainAttrs "list":=by exact PySem.F.plainAttrs_list)
  (wZ:isCall o=false:=by rfl) (dD:bt (e::es)=true:=by rfl) (hn:(e::es).length<30:=by decide) (w4:(apos.endLine==jB.line)=true:=by rfl):
  PE X (.Call (.Attribute o name apos) (e::es) [] jB) (tE X fun ρ A=>uW h (F ρ A) (L ρ)):=
 (Nl pa slot Nm hm ho ha (Gp wZ) (by rw[xk dD,bF (show(e::es).length+([]:List Keyword).length+(if([]:List Keyword).isEmpty then 0 else 1)<30 from hn)];rfl) w4 (ba _ _ (aI dD).1) (cE (aI dD).2)).weak fun σ H Q ⟨B,A,ρ,ha,r,n,q⟩=>⟨B,A,ρ,ha,r,n,q.bind.mono fun t A1 qt v B1 H1 g1 iP rv=>by
  split at qt
  ·rename_i i;obtain⟨a,rfl,t9⟩:=rv.sv;obtain⟨hl,q2⟩:=oj qt;obtain⟨xs,W6⟩:=KG iP t9 hl;exact⟨.inl ⟨rfl,xs,iS.of W6⟩,B1,A1,ρ,iP,r.grow n g1,n,((dG.bind q2).imp fun c A' x=>x.grow ha.hb g1).mono fun ts A2 qs vs B2 H2 g2 vO rs=>hz B2 A2 H2 a i vs ts Q vO (g2.gA.x _ _ t9) rs ((qs.imp fun c A' x=>x.grow ha.hb (g1.trans ha.hb g2)).mono fun t A3 qt v B3 H3 g3 BX r3=>qt v B3 H3 ((g1.trans ha.hb g2).trans ha.hb g3) BX r3)⟩
  ·exact qt.elim⟩
def fh(i:Nat):List Tr->Ab->Rz Tr
 |[t],A=>match A[i]? with
  |some (.lst ts)=>if ts.length<ji then .ok .cD (A.set i (.lst (ts++[t])))else .bad
  |_=>.bad
 |_,_=>.bad
theorem mw:Rl X z_ fh:=by
 intro B A H a i xs ts Q ha t9 rs q;unfold fh at q;split at q
 ·obtain⟨y,rfl,r1⟩:=jh rs;split at q
  ·rename_i eo;obtain⟨hz,q⟩:=oj q;obtain⟨hd,vs,h1,h2⟩:=ha.get t9 eo;obtain⟨g,h3⟩:=ha.write (o:=.lst (_++[_])) (u:=.lst (vs++[y])) t9 ⟨hd,_,aG,by rw[lN hd];exact h2.append (.cons r1 .nil)⟩;exact⟨a,vs,y,rfl,rfl,h1,by rw[h2.length,<-iO];exact hz,q .cD B _ g h3 .cD⟩
  ·exact q.elim
 ·exact q.elim
def B5(i:Nat):List Tr->Ab->Rz Tr
 |[.int k],A=>match A[i]? with
  |some (.lst ts)=>if-9223372036854775808<=k/\k<9223372036854775808 then match seqIndex? k ts.length with
   |some j=>match ts[j]? with
    |some t=>.ok t (A.set i (.lst (ts.eraseIdx j)))
    |none=>.bad
   |none=>.bad
   else .bad
  |_=>.bad
 |_,_=>.bad
theorem aK.erase {K:PySem.W.Frag}{W:Vw}:∀{vs:List V} {ts:List Tr} (j:Nat),aK K W vs ts->aK K W (vs.eraseIdx j) (ts.eraseIdx j)
 |[],_,_,r=>by cases r;exact .nil
 |_::_,_,0,r=>by cases r with|cons h r=>exact r
 |_::_,_,j+1,r=>by cases r with|cons h r=>exact .cons h (aK.erase j r)
theorem KH:Rl X DG B5:=by
 intro B A H a i xs ts Q ha t9 rs q;unfold B5 at q;split at q
 ·obtain⟨y,rfl,r1⟩:=jh rs;cases r1.int_inv;split at q
  ·rename_i eo;obtain⟨⟨k1,k2⟩,q⟩:=oj q;obtain⟨hd,vs,h1,h2⟩:=ha.get t9 eo;split at q
   ·rename_i j ej;split at q
    ·rename_i eu;obtain⟨y,ey,ry⟩:=h2.get eu;obtain⟨g,h3⟩:=ha.write (o:=.lst (List.eraseIdx _ j)) (u:=.lst (vs.eraseIdx j)) t9 ⟨hd,_,aG,by rw[lN hd];exact h2.erase j⟩;exact⟨a,vs,_,j,y,rfl,rfl,h1,k1,k2,by rw[h2.length];exact ej,ey,q y B _ g h3 (by rw[lN hd];exact ry)⟩
    ·exact q.elim
   ·exact q.elim
  ·exact q.elim
 ·exact q.elim
end
def fN(r:Rz Out):Rs Tr:=match r with
 |.ok (.nx _) _=>.ok .cD
 |.ok (.ret t) A=>if iu (bT 3 A t)=true then .ok (bT 3 A t)else .bad
 |_=>.bad
theorem my{n:Nat}{ts:List Tr}:dR (startT n ts):=fun i us e=>by
 rcases lL e with q|⟨u,_,q⟩<;>cases q
theorem uf.W7 {P:Program}{w:World}{K:PySem.W.Frag}{mg:Str->Option Value}{base:Heap}{x qual:Str}{st:Stmt}{f:Addr}{fd:FuncData}{N ps:List Str}{k:Nat}{h:List Tr->Rs Tr}(Fn:uf K x qual st f fd)(S:d0 N ps (aF st))(len:∀ts t,h ts=.ok t->ts.length=ps.length)
  (ib:∀(du:Value) (A:Around) (outer:List Env) (s:Shared) (H:Hp) (E:XK),dE k (A.deeper (envOfC qual (aF st) s.heap.objs.size f du))->
   ∃G,kD (jZ oS P w K mg base N qual (aF st) f du A outer s H E).C8 (dv st) (tZ (jZ oS P w K mg base N qual (aF st) f du A outer s H E).C8 G)/\∀ts t,h ts=.ok t->de ts=true/\fN (G (startT N.length ts) [])=.ok t):ia P w K mg base oS (k+1) f fd ps (spT K h):=by
 refine Fn.ok S (fun vs H Q E q=>?_) (fun du A outer s H vs Q E hr q=>?_)
 ·obtain⟨B,ts,hb,r,t,e,_⟩:=q;rw[r.length];exact len ts t e
 ·obtain⟨B,ts,hb,r,t,e,q⟩:=q;obtain⟨G,hG,hE⟩:=ib du A outer s H E hr;obtain⟨na,e1⟩:=hE ts t e
  let B0:bZ:=⟨B.hd,fun _=>none⟩
  have t8:HB B0 H:=hb;have W8:HA K B0 [] H:=⟨t8,fun i o z=>by simp at z,(fun a b i z=>by cases(show(none:Option Nat)=some i from z)),(fun a i z=>by cases(show(none:Option Nat)=some i from z))⟩;have r0:aK K (aT B0 H) vs ts:=aK.DY (W:=aT B H) (W':=aT B0 H) (fun _ _ e=>e) r na;have sm:∀{B':bZ} {H':Hp},Grows B0 H B' H'->ax H H':=fun g b o z=>g.kp b o rfl z;refine⟨_,hG,B0,H,B0,[],startT N.length ts,t8,.refl,W8,bu.start r0,my,?_⟩;cases eo:G (startT N.length ts) []with
  |ok o A1=>
   rw[eo]at e1;cases o with
   |nx ρ=>cases e1;exact fun cf B' H' g ha r' n'=>q .cD H' (sm g) .cD
   |ret u=>
    have e2:(if iu (bT 3 A1 u)=true then Rs.ok (bT 3 A1 u)else .bad)=.ok t:=e1;by_cases z:iu (bT 3 A1 u)=true
    ·rw[ab z]at e2;cases e2;intro v B' H' g ha r';refine q v H' (sm g) (Rep.DY (fun b o z=>?_) (fz ha 3 r') z);have z1:=aE b o z;cases hB:B.hd b with
     |false=>rw[c_ hB];exact z1
     |true=>
      have h2:B'.hd b=true:=g.hd b rfl hB;have h3:B'.ix b=none:=by
       cases h4:B'.ix b with
       |none=>rfl
       |some i=>have h5:=g.nw b i h4 rfl;obtain⟨o2,h6,_⟩:=hb b hB;rw[h5]at h6;cases h6
      have z2:(if B'.un.hd b=true then none else H' b)=some o:=z;rw[show B'.un.hd b=(B'.hd b&&(B'.ix b).isNone)from rfl,h2,h3]at z2;cases z2
    ·rw[af z]at e2;cases e2
   |bk ρ=>cases e1
   |ct ρ=>cases e1
  |exc c A1=>rw[eo]at e1;cases e1
  |bad=>rw[eo]at e1;cases e1
def uj(n m:Nat)(G:az->Ab->Rz Out)(ts:List Tr):Rs Tr:=if ts.length=n/\de ts=true then fN (G (startT m ts) [])else .bad
theorem D4{n m:Nat}{G:az->Ab->Rz Out}{ts:List Tr}{t:Tr}(h:uj n m G ts=.ok t):ts.length=n:=by
 unfold uj at h;split at h
 ·rename_i z;exact z.1
 ·cases h
theorem G1{n m:Nat}{G:az->Ab->Rz Out}{ts:List Tr}{t:Tr}(h:uj n m G ts=.ok t):de ts=true/\fN (G (startT m ts) [])=.ok t:=by
 unfold uj at h;split at h
 ·rename_i z;exact⟨z.2,h⟩
 ·cases h
end L2
namespace L2
open PySem PySem.Spec PyProof.Rows
section
variable {X:Cx}{a b e:Expr}{es:List Expr}{pos:Pos}{F G:az->Rs Tr}{L:az->Rs (List Tr)}{A:az->Rs Bool}
theorem OF(h:PA X es (Ah X L)):PE X (.List es pos) (tF X fun ρ=>vH (L ρ)):=
 (DA h).weak fun σ H Q ⟨B,ρ,hb,r,q⟩=>⟨B,ρ,hb,r,q.bind.mono fun ts qt vs H1 s1 r1=>by
  by_cases hz:ts.length<=ji
  ·rw[ab hz]at qt;refine⟨by rw[r1.length,<-iO];exact hz,fun p hp=>qt (.ref p) _ (s1.Kb (s1.free hp)) (.lst ((hb.same s1).new hp) (r1.same (bc (ax.upd hp)))) fun p' e=>by cases e;exact .upd (s1.free hp) (fun _ _ z=>by cases z)⟩
  ·rw[af hz]at qt;exact qt.elim⟩
theorem KI:PE X (.Dict [] [] pos) (tF X fun _=>.ok (.bj [])):=
 DK.weak fun σ H Q ⟨B,ρ,hb,r,q⟩ p hp=>q (.ref p) _ (ax.upd hp) (.bj (.inl (hb.new hp)) rfl .nil) fun p' e=>by cases e;exact .upd hp (fun _ _ z=>by cases z)
variable {scope:Scope}{N':List Str}{ix:List (Option Nat)}{elt iter tg:Expr}{ifs:List Expr}{T:j3}{W:az->Rs (List Tr)}
theorem B6{σ:St}{H:Hp}{Q:VK}(hT:gK T)(q:tF X (fun ρ=>iD ix T A F (W ρ) ρ) σ H Q):J_ (tI X W) ix (GB X.K T) (GA X.K A) (Gz X.K F) σ H Q:=by
 obtain⟨B,ρ,hb,r,q⟩:=q;refine⟨B,ρ,hb,r,q.bind.mono fun ts qt J H1 s1 gt D hD=>?_⟩;by_cases hz:ts.length<=ji
 ·rw[ab hz]at qt;exact nZ hT (nY ix ρ) (hb.same s1) gt hz ((r.same s1).comp ix (ic hD)) hD (Fi.bind qt) fun ys H' k s' rp=>k _ H' (s1.trans s') rp fun p e=>by cases e;exact .lst (s1.free hD) rp
 ·rw[af hz]at qt;exact qt.elim
theorem G_{i:Nat}{x:Str}{px jf:Pos}(Lk:fL X N' ix scope)(hit:PI X tg iter (tI X W))(j1:Iz X scope N' tg elt ifs T A F)(hT:gK T)(hN:X.N.Nodup:=by assumption) (hc:X.calm=true:=by rfl) (hi:X.N[i]?=some x:=by rfl) (hx:Loc X.env.scope x:=by first|exact Or.inl rfl|exact Or.inr rfl)
  (BO:swapsWith (.ListComp elt [⟨tg,iter,ifs,0⟩] scope pos) (some (.Name x px)) jf.line X.env=pure true:=by rfl) (hs:isSet iter=false:=by rfl) (hf:X.fn x=true\/X.env.scope.names.lookup x=some .local:=by first|exact .inl rfl|exact .inr rfl|assumption):
  PS X (.Assign [.Name x px] (.ListComp elt [⟨tg,iter,ifs,0⟩] scope pos) jf) (tZ X fun ρ A'=>cR i (fg (iD ix T A F (W (a_ A' ρ)) (a_ A' ρ)) A') ρ):=
 (sk Lk hc hN hi hx hit j1.Mx BO (dF hs) hf).weak fun D σ H ⟨B0,H0,B,A',ρ,hb,g,ha,r,n,q⟩=>B6 hT (mr (F:=fun ρ=>iD ix T A F (W ρ) ρ) (ik (F:=fun ρ A'=>fg (iD ix T A F (W (a_ A' ρ)) (a_ A' ρ)) A') hb g ha r n q.bind fun t A2 v B' H' qt g' dQ r' rv _=>qt _ B' H' g' dQ (r'.set i rv) (n.set i t)))
theorem Ha{i:Nat}{x:Str}{px jf:Pos}(Lk:fL X N' ix scope)(hit:PI X tg iter (tI X W))(j1:Iz X scope N' tg elt ifs T A F)(hT:gK T)(hN:X.N.Nodup:=by assumption) (hc:X.calm=true:=by rfl) (hi:X.N[i]?=some x:=by rfl) (hx:Loc X.env.scope x:=by first|exact Or.inl rfl|exact Or.inr rfl)
  (BO:swapsWith (.ListComp elt [⟨tg,iter,ifs,0⟩] scope pos) (some (.Name x px)) jf.line X.env=pure true:=by rfl) (hs:isSet iter=false:=by rfl) (hf:X.fn x=true\/X.env.scope.names.lookup x=some .local:=by first|exact .inl rfl|exact .inr rfl|assumption):
  PS X (.Assign [.Name x px] (.ListComp elt [⟨tg,iter,ifs,0⟩] scope pos) jf) (tZ X fun ρ A'=>cR i (aq (iD ix T A F (W ρ) ρ) A') ρ):=
 (sk Lk hc hN hi hx hit j1.Mx BO (dF hs) hf).weak fun D σ H ⟨B0,H0,B,A',ρ,hb,g,ha,r,n,q⟩=>xq hT (pR (F:=fun ρ=>iD ix T A F (W ρ) ρ) (ik (F:=fun ρ A'=>aq (iD ix T A F (W ρ) ρ) A') hb g ha r n q.bind fun t A2 v B' H' qt g' dQ r' rv _=>qt _ B' H' g' dQ (r'.set i rv) (n.set i t)))
inductive rF(X:Cx)(h:List Tr->Rs Tr)(xs:List V)(H:Hp)(Q:VK):Prop
 |mk (B:bZ) (ts:List Tr):HB B H->aK X.K (aT B H) xs ts->(Fi X H (h ts) fun t=>∀v H',ax H H'->Rep X.K (aT B H') v t->(∀p,v=.ref p->Ky H H' p)->Q v H')->rF X h xs H Q
theorem D5{T:String}{x:Str}{p:Pos}{e:Expr}{h:List Tr->Rs Tr}(hc:gm X (.type T) (rF X h))(hm:X.mg x=none)(ha:PA X (e::es) (Ah X L))(hv:bootBuiltins x=some (.type T):=by rfl) (hg:Gl X x:=by rfl) (hn:x≠"__name__":=by decide) (jA:(x==("__debug__":Str))=false:=by decide)
  (dD:bt (e::es)=true:=by rfl):PE X (.Call (.Name x p) (e::es) [] pos) (tF X fun ρ=>aL h (L ρ)):=
 (gQ hc hg hm hv ha hn jA (ba _ _ (aI dD).1) (cE (aI dD).2)).weak fun σ H Q ⟨B,ρ,hb,r,q⟩=>⟨B,ρ,hb,r,q.bind.mono fun ts qt vs H1 s1 r1=>⟨B,ts,hb.same s1,r1,(qt.same s1).mono fun t qt v H2 s2 r2 fr=>qt v H2 (s1.trans s2) r2 fun p e=>⟨s1.free (fr p e).1,(fr p e).2⟩⟩⟩
theorem Hb:gm X (.type "list") (rF X As):=by
 intro pins s σ H xs us Q I rv ⟨B,ts,hb,r,q⟩;unfold As at q;split at q
 ·obtain⟨x,e,r1⟩:=jh r;obtain⟨a,vs,rfl,h,rr⟩:=r1.cZ;exact nV pins s σ H _ us Q I rv ⟨_,_,e,.inr h.up,fun p hp=>q _ _ (ax.upd hp) (.yY hb hp rr) fun p' e=>by cases e;exact .upd hp (fun _ _ z=>by cases z)⟩
 ·obtain⟨x,e,r1⟩:=jh r;obtain⟨a,vs,rfl,h,rr⟩:=r1.lst_inv;exact nV pins s σ H _ us Q I rv ⟨_,_,e,.inl (.of (ie h)),fun p hp=>q _ _ (ax.upd hp) (.yY hb hp rr) fun p' e=>by cases e;exact .upd hp (fun _ _ z=>by cases z)⟩
 ·exact q.elim
end
end L2
namespace L2
open PySem PySem.Spec PyProof.Rows
inductive Dk:HO->Prop
 |k (aw:List (Key×V)):Dk (.dK aw)
 |t (aw:List (List Key×V)):Dk (.dT aw)
section
variable {X:Cx}{pins:List (Addr×Obj)}{σ:St}{H H1 H':Hp}{s:Shared}{a:Addr}{o:Obj}{u0:HO}{B:bZ}
theorem Inv.frozen (I:Inv X pins σ H s)(ha:H a=some u0)(hk:Dk u0)(ho:s.heap.get? a=some o):Inv X pins σ (upd H a (.gk o u0)) s:=by
 have ne:∀{b:Addr} {u:HO},H b=some u->u≠u0->b≠a:=fun{b u} e d z=>by subst z;rw[ha]at e;cases e;exact d rfl
 have nn:∀{b:Addr},H b=none->b≠a:=fun{b} e z=>by subst z;rw[ha]at e;cases e
 refine⟨I.ok,I.os,I.bare,⟨I.base.keep,I.base.slot,fun b ob e n hx=>?_,I.base.there,fun b xs e=>?_,fun b ob u e=>?_,fun b ps e=>?_⟩,I.loc,I.cell,?_,fun x c e=>?_,fun p hp=>?_,fun b u e=>?_,I.len⟩
 ·have q:=I.base.free b ob e n hx;rw[aj (nn q)];exact q
 ·have q:=I.base.lS b xs e;rw[aj (ne q (fun z=>by subst z;cases hk))];exact q
 ·have q:=I.base.jY b ob u e;rw[aj (ne q (fun z=>by subst z;cases hk))];exact q
 ·obtain⟨m,q⟩:=I.base.kC b ps e;exact⟨m,by rw[aj (ne q (fun z=>by subst z;cases hk))];exact q⟩
 ·rw[aj (nn I.free)];exact I.free
 ·rw[aj (nn (I.gD x c e))];exact I.gD x c e
 ·obtain⟨p1,p2,p3⟩:=I.pin p hp;exact⟨p1,by rw[aj (nn p2)];exact p2,p3⟩
 ·have ow:∀c d,H c=some (.own d)->upd H a (.gk o u0) c=some (.own d):=fun c d q=>by rw[aj (ne q (fun z=>by subst z;cases hk))];exact q
  have tu:∀c xs,H c=some (.tup xs)->upd H a (.gk o u0) c=some (.tup xs):=fun c d q=>by rw[aj (ne q (fun z=>by subst z;cases hk))];exact q
  by_cases z:b=a
  ·subst z;rw[aG]at e;cases e;exact⟨ho,(I.cp b _ ha).ma (fun _ _ _ q=>q) (fun c q=>ow c b q) tu⟩
  ·rw[aj z]at e;exact(I.cp b u e).ma (fun _ _ _ q=>q) (fun c q=>ow c b q) tu
theorem Inv.KJ (I:Inv X pins σ H s)(ha:H a=some (.gk o u0))(hk:Dk u0)(h0:∀o' u,X.wQ a≠some (.gk o' u)):Inv X pins σ (upd H a u0) s:=by
 have ne:∀{b:Addr} {u:HO},H b=some u->u≠ .gk o u0->b≠a:=fun{b u} e d z=>by subst z;rw[ha]at e;cases e;exact d rfl
 have nn:∀{b:Addr},H b=none->b≠a:=fun{b} e z=>by subst z;rw[ha]at e;cases e
 refine⟨I.ok,I.os,I.bare,⟨I.base.keep,I.base.slot,fun b ob e n hx=>?_,I.base.there,fun b xs e=>?_,fun b ob u e=>?_,fun b ps e=>?_⟩,I.loc,I.cell,?_,fun x c e=>?_,fun p hp=>?_,fun b u e=>?_,I.len⟩
 ·have q:=I.base.free b ob e n hx;rw[aj (nn q)];exact q
 ·have q:=I.base.lS b xs e;rw[aj (ne q (fun z=>by cases z))];exact q
 ·have q:=I.base.jY b ob u e;rw[aj (fun z=>by subst z;exact h0 _ _ e)];exact q
 ·obtain⟨m,q⟩:=I.base.kC b ps e;exact⟨m,by rw[aj (ne q (fun z=>by cases z))];exact q⟩
 ·rw[aj (nn I.free)];exact I.free
 ·rw[aj (nn (I.gD x c e))];exact I.gD x c e
 ·obtain⟨p1,p2,p3⟩:=I.pin p hp;exact⟨p1,by rw[aj (nn p2)];exact p2,p3⟩
 ·have ow:∀c d,H c=some (.own d)->upd H a u0 c=some (.own d):=fun c d q=>by rw[aj (ne q (fun z=>by cases z))];exact q
  have tu:∀c xs,H c=some (.tup xs)->upd H a u0 c=some (.tup xs):=fun c d q=>by rw[aj (ne q (fun z=>by cases z))];exact q
  by_cases z:b=a
  ·subst z;rw[aG]at e;cases e;exact(I.cp b _ ha).2.ma (fun _ _ _ q=>q) (fun c q=>ow c b q) tu
  ·rw[aj z]at e;exact(I.cp b u e).ma (fun _ _ _ q=>q) (fun c q=>ow c b q) tu
structure qm(H H':Hp)(a:Addr)(u u':HO)(u0:HO):Prop where
 fr:H a=some u
 to:H'=upd H a u'
 ok:(u=u0/\∃o,u'=.gk o u0)\/(u'=u0/\∃o,u=.gk o u0)
 dk:Dk u0
variable {u u':HO}
theorem qm.l6 (w:qm H H' a u u' u0){b:Addr}{x:HO}(e:H b=some x)(h1:¬Dk x)(h2:∀o u,Dk u->x≠ .gk o u):H' b=some x:=by
 rw[w.to,aj ?_]
 ·exact e
 ·intro z;subst z;rw[w.fr]at e;cases e;rcases w.ok with⟨e1,_⟩|⟨_,o,e1⟩
  ·exact h1 (by rw[e1];exact w.dk)
  ·exact h2 _ _ w.dk e1
theorem gC{B:bZ}{H H':Hp}{b:Addr}{x:HO}(e:(aT B H).H b=some x)(h:H b=some x->H' b=some x):(aT B H').H b=some x:=by
 have e':(if B.hd b=true then none else H b)=some x:=e;show(if B.hd b=true then none else H' b)=some x;split at e'
 ·cases e'
 ·rename_i n;rw[af n];exact h e'
theorem qm.seq {K:PySem.W.Frag}(w:qm H H' a u u' u0){b:Addr}{xs:List V}(h:iS K (aT B H).H b xs):iS K (aT B H').H b xs:=by
 rcases h with(h|⟨o,h⟩)|h
 ·exact .inl (.inl (gC h fun e=>w.l6 e (fun z=>by cases z) fun _ _ d z=>by cases z<;>cases d))
 ·exact .inl (.inr ⟨o,gC h fun e=>w.l6 e (fun z=>by cases z) fun _ _ d z=>by cases z<;>cases d⟩)
 ·exact .inr h
theorem qm.tup {K:PySem.W.Frag}(w:qm H H' a u u' u0){b:Addr}{xs:List V}(h:ir K (aT B H).H b xs):ir K (aT B H').H b xs:=by
 rcases h with(h|⟨o,h⟩)|h
 ·exact .inl (.inl (gC h fun e=>w.l6 e (fun z=>by cases z) fun _ _ d z=>by cases z<;>cases d))
 ·exact .inl (.inr ⟨o,gC h fun e=>w.l6 e (fun z=>by cases z) fun _ _ d z=>by cases z<;>cases d⟩)
 ·exact .inr h
theorem qm.rd (w:qm H H' a u u' u0){b:Addr}{x:HO}(hx:Dk x)(h:Rd (aT B H).H b x):Rd (aT B H').H b x:=by
 by_cases z:b=a
 ·subst z;have hb:B.hd b=false:=by
   cases q:B.hd b with
   |false=>rfl
   |true=>
    have n:(aT B H).H b=none:=by show(if B.hd b=true then none else H b)=none;rw[ab q]
    rcases h with h|⟨o,h⟩<;>(rw[n]at h;cases h)
  have h':Rd H b x:=by unfold Rd at h⊢;rw[c_ hb]at h;exact h
  have dk:=w.dk;have ek:x=u0:=by
   rcases h' with h|⟨o,h⟩<;>rw[w.fr]at h<;>rcases w.ok with⟨e1,_⟩|⟨_,o',e1⟩<;>rw[e1]at h<;>cases h
   ·rfl
   ·cases hx
   ·cases dk
   ·rfl
  subst ek;unfold Rd;rw[c_ hb,w.to,aG];rcases w.ok with⟨_,o',e1⟩|⟨e1,_⟩
  ·rw[e1];exact .inr ⟨o',rfl⟩
  ·rw[e1];exact .inl rfl
 ·have hn:(aT B H').H b=(aT B H).H b:=by
   show(if B.hd b=true then none else H' b)=(if B.hd b=true then none else H b);rw[w.to,aj z]
  unfold Rd;rw[hn];exact h
theorem qm.rep {K:PySem.W.Frag}(w:qm H H' a u u' u0){v:V}{t:Tr}(h:Rep K (aT B H) v t):Rep K (aT B H') v t:=by
 refine Rep.rec (motive_1:=fun v t _=>Rep K (aT B H') v t) (motive_2:=fun vs ts _=>aK K (aT B H') vs ts) ?_ ?_ ?_ ?_ ?_ ?_ ?_ ?_ ?_ ?_ ?_ ?_ ?_ ?_ ?_ h
 ·exact .cD
 ·exact fun b=>.bl b
 ·exact fun i=>.int i
 ·exact fun z h=>.str z h
 ·exact fun n=>.ty n
 ·exact fun h=>.gB (w.seq h)
 ·exact fun h _ r=>.tup (gC h fun e=>w.l6 e (fun z=>by cases z) fun _ _ d z=>by cases z<;>cases d) r
 ·exact fun h _ r=>.lst (gC h fun e=>w.l6 e (fun z=>by cases z) fun _ _ d z=>by cases z<;>cases d) r
 ·exact fun h e _ r=>.kN (w.rd (.k _) h) e r
 ·exact fun h=>.at h
 ·exact fun h e _ r=>.bj (w.rd (.t _) h) e r
 ·exact fun h e _ r=>.ob (gC h fun e=>w.l6 e (fun z=>by cases z) fun _ _ d z=>by cases z<;>cases d) e r
 ·exact fun h c=>.Ag (gC h fun e=>w.l6 e (fun z=>by cases z) fun _ _ d z=>by cases z<;>cases d) c
 ·exact .nil
 ·exact fun _ _ h r=>.cons h r
theorem qm.B7 {K:PySem.W.Frag}(w:qm H H' a u u' u0):∀{vs:List V} {ts:List Tr},aK K (aT B H) vs ts->aK K (aT B H') vs ts
 |[],_,h=>by cases h;exact .nil
 |_::_,_,h=>by cases h with|cons h r=>exact .cons (w.rep h) (qm.B7 w r)
theorem qm.y0 {K:PySem.W.Frag}{ρ:az}(w:qm H H' a u u' u0)(h:bu K B H σ ρ):bu K B H' σ ρ:=
 ⟨h.len,fun i t e=>by obtain⟨v,e1,r⟩:=h.sh i t e;exact⟨v,e1,w.rep r⟩,
   fun i ts e=>by obtain⟨D,ys,e1,e2,e3,r⟩:=h.ow i ts e;exact⟨D,ys,e1,e2,w.l6 e3 (fun z=>by cases z) (fun _ _ d z=>by cases z<;>cases d),w.B7 r⟩,h.ap⟩
theorem qm.hb (w:qm H H' a u u' u0)(h:HB B H):HB B H':=fun b e=>by
 obtain⟨o,q,n⟩:=h b e;by_cases z:b=a
 ·subst z;rw[w.to];refine⟨_,aG,fun vs z=>?_⟩;rcases w.ok with⟨_,o',e1⟩|⟨e1,_⟩
  ·rw[e1]at z;cases z
  ·rw[e1]at z;have d:=w.dk;rw[z]at d;cases d
 ·exact⟨o,by rw[w.to,aj z];exact q,n⟩
def vP(X:Cx)(B:bZ)(H H':Hp):Prop:=ax H H'\/∃H1 a o u0,Dk u0/\ax H H1/\B.hd a=false/\H1 a=some u0/\H'=upd H1 a (.gk o u0)/\∀o u,X.wQ a≠some (.gk o u)
def gr(X:Cx)(H:Hp)(k:Hp->Prop):Prop:=k H\/∃a o u0,Dk u0/\H a=some (.gk o u0)/\(∀o u,X.wQ a≠some (.gk o u))/\k (upd H a u0)
theorem gr.inv {k:Hp->Prop}(q:gr X H k)(I:Inv X pins σ H s):∃H',Inv X pins σ H' s/\k H':=by
 rcases q with q|⟨a,o,u0,hk,e,h0,q⟩
 ·exact⟨H,I,q⟩
 ·exact⟨_,I.KJ e hk h0,q⟩
theorem PE.KL {e:Expr}{t:TE}(h:PE X e t):PE X e (fun σ H Q=>t σ H fun v H'=>gr X H' (Q v)):=fun pins s σ H Q I q=>
 eE (h pins s σ H _ I q) fun u s' ⟨v,H',I',r,z⟩=>by
  obtain⟨H2,I2,q2⟩:=z.inv I';exact⟨v,H2,I2,r,q2⟩
def Ends.KL (X:Cx)(D:Ends):Ends:=⟨fun σ H=>gr X H (D.nx σ),fun v H=>gr X H (D.rt v),fun σ H=>gr X H (D.bk σ),fun σ H=>gr X H (D.ct σ)⟩
theorem PS.KL {st:Stmt}{t:TS}(h:PS X st t):PS X st (fun D σ H=>t (D.KL X) σ H):=fun pins s σ H D I q=>
 eE (h pins s σ H _ I q) fun f s' z=>by
  cases f with
  |next=>obtain⟨cf,H',I',z⟩:=z;obtain⟨H2,I2,q2⟩:=gr.inv z I';exact⟨cf,H2,I2,q2⟩
  |brk=>obtain⟨cf,H',I',z⟩:=z;obtain⟨H2,I2,q2⟩:=gr.inv z I';exact⟨cf,H2,I2,q2⟩
  |cont=>obtain⟨cf,H',I',z⟩:=z;obtain⟨H2,I2,q2⟩:=gr.inv z I';exact⟨cf,H2,I2,q2⟩
  |ret u=>obtain⟨v,cf,H',I',r,z⟩:=z;obtain⟨H2,I2,q2⟩:=gr.inv z I';exact⟨v,cf,H2,I2,r,q2⟩
theorem vP.y0 {K:PySem.W.Frag}{ρ:az}(h:vP X B H H')(r:bu K B H σ ρ):bu K B H' σ ρ:=by
 rcases h with s|⟨H1,a,o,u0,hk,s,hv,ha,rfl,h0⟩
 ·exact r.same s
 ·exact qm.y0 (u:=u0) ⟨ha,rfl,.inl ⟨rfl,o,rfl⟩,hk⟩ (r.same s)
theorem vP.hb (h:vP X B H H')(r:HB B H):HB B H':=by
 rcases h with s|⟨H1,a,o,u0,hk,s,hv,ha,rfl,h0⟩
 ·exact r.same s
 ·exact qm.hb (u:=u0) ⟨ha,rfl,.inl ⟨rfl,o,rfl⟩,hk⟩ (r.same s)
theorem vP.free {p:Addr}(h:vP X B H H')(e:H' p=none):H p=none:=by
 rcases h with s|⟨H1,a,o,u0,hk,s,hv,ha,rfl,h0⟩
 ·exact s.free e
 ·refine s.free ?_
  by_cases z:p=a
  ·subst z;rw[aG]at e;cases e
  ·rw[aj z]at e;exact e
theorem vP.back {H2:Hp}{B2:bZ}{C:bZ}(h:vP X B H H')(si:dj C B H' B2 H2):∃Hu,dj C B H B2 Hu/\(∀{K:PySem.W.Frag} {B3:bZ} {v:V} {t:Tr},Rep K (aT B3 H2) v t->Rep K (aT B3 Hu) v t)/\(∀{K:PySem.W.Frag} {σ:St} {ρ:az},bu K B2 H2 σ ρ->bu K B2 Hu σ ρ)/\∀k:Hp->Prop,k Hu->gr X H2 k:=by
 rcases h with s|⟨H1,a,o,u0,hk,s,hv,ha,rfl,h0⟩
 ·exact⟨H2,⟨fun b o c e=>si.kp b o c (s _ _ e),(bc s).trans si.gA,si.sub,si.hb⟩,fun r=>r,fun r=>r,fun k q=>.inl q⟩
 ·have e1:(aT B (upd H1 a (.gk o u0))).H a=some (.gk o u0):=by rw[c_ hv];exact aG
  have e2:=si.gA.h _ _ e1;have e3:H2 a=some (.gk o u0):=aE _ _ e2;have w:qm H2 (upd H2 a u0) a (.gk o u0) u0 u0:=⟨e3,rfl,.inr ⟨rfl,o,rfl⟩,hk⟩;have Rm:B2.hd a=false:=by
   cases q:B2.hd a with
   |false=>rfl
   |true=>
    have n:(aT B2 H2).H a=none:=by show(if B2.hd a=true then none else H2 a)=none;rw[ab q]
    rw[n]at e2;cases e2
  refine⟨upd H2 a u0,⟨fun b ob c e=>?_,⟨fun b ob e=>?_,fun b i e=>?_⟩,si.sub,w.hb si.hb⟩,fun r=>w.rep r,fun r=>w.y0 r,fun k q=>.inr ⟨a,o,u0,hk,e3,h0,q⟩⟩
  ·have q:=s _ _ e;by_cases z:b=a
   ·subst z;rw[ha]at q;cases q;exact aG
   ·rw[aj z];exact si.kp b ob c (by rw[aj z];exact q)
  ·by_cases z:b=a
   ·subst z;have q:=s _ _ (aE _ _ e);rw[ha]at q;cases q;rw[c_ Rm];exact aG
   ·have q:(aT B (upd H1 a (.gk o u0))).H b=some ob:=gC e fun e=>by rw[aj z];exact s _ _ e
    exact gC (si.gA.h _ _ q) fun e=>by rw[aj z];exact e
  ·exact si.gA.x b i e
theorem vP.IF {H2:Hp}(h:vP X B H H')(hb:HB B H)(s2:ax H' H2):∃Hu,ax H Hu/\(∀{K:PySem.W.Frag} {B3:bZ} {v:V} {t:Tr},Rep K (aT B3 H2) v t->Rep K (aT B3 Hu) v t)/\∀k:Hp->Prop,k Hu->gr X H2 k:=by
 obtain⟨Hu,si,r,_,k⟩:=h.back (C:=B) (B2:=B) (H2:=H2) ⟨fun b o _ e=>s2 _ _ e,bc s2,.refl,(h.hb hb).same s2⟩;exact⟨Hu,si.same,r,k⟩
end
def oo:Key->Tr
 |.inl i=>.int i
 |.inr z=>.str z
def keyOk:Key->Bool
 |.inl _=>true
 |.inr z=>decide (z.length<=jg)
theorem B8{K:PySem.W.Frag}{W:Vw}{k:Key}(h:keyOk k=true):Rep K W (kV k) (oo k):=by
 cases k with
 |inl i=>exact .int i
 |inr z=>exact .str z (cb h)
inductive tJ(X:Cx)(W:az->Rs (List Tr))(σ:St)(H:Hp)(R:It->Hp->Prop):Prop
 |mk (B:bZ) (ρ:az):HB B H->bu X.K B H σ ρ->(Fi X H (W ρ) fun ts=>∀J H',vP X B H H'->jQ X.K B J H' ts->R J H')->tJ X W σ H R
section
variable {X:Cx}{pins:List (Addr×Obj)}{σ:St}
variable {a b e:Expr}{es:List Expr}{pos:Pos}{F G:az->Rs Tr}{A:az->Rs Bool}{scope:Scope}{N':List Str}{ix:List (Option Nat)}{elt iter tg:Expr}{ifs:List Expr}{T:j3}{W:az->Rs (List Tr)}
theorem B9{σ:St}{H:Hp}{Q:VK}(hT:gK T)(q:tP X (fun ρ=>iD ix T A F (W ρ) ρ) σ H Q):J_ (tJ X W) ix (GB X.K T) (GA X.K A) (Gz X.K F) σ H (fun v H'=>gr X H' (Q v)):=by
 obtain⟨B,ρ,hb,r,q⟩:=q;refine⟨B,ρ,hb,r,q.bind.mono fun ts qt J H1 tf gt D hD=>?_⟩;by_cases hz:ts.length<=ji
 ·rw[ab hz]at qt;exact nZ hT (nY ix ρ) (tf.hb hb) gt hz ((tf.y0 r).comp ix (ic hD)) hD (Fi.bind qt) fun ys H' k s' rp=>by
   obtain⟨Hu,su,ru,ku⟩:=tf.IF hb s';exact ku _ (k _ Hu su (ru rp))
 ·rw[af hz]at qt;exact qt.elim
theorem OG(Lk:fL X N' ix scope)(hi:PI X tg iter (tJ X W))(j1:Iz X scope N' tg elt ifs T A F)(hT:gK T)(hc:X.calm=true:=by rfl) (hs:isSet iter=false:=by rfl):
  PE X (.ListComp elt [⟨tg,iter,ifs,0⟩] scope pos) (tP X fun ρ=>iD ix T A F (W ρ) ρ):=
 (Af Lk hc hi j1.Mx (dF hs)).KL.weak fun σ H Q q=>B9 hT q
end
end L2
namespace L2
open PySem PySem.Spec PyProof.Rows
def k_(xs:Array Nat):Prop:=xs.toList.Pairwise (· <·)
theorem k_.lt {xs:Array Nat}(h:k_ xs){i j:Nat}(qH:i<j)(hj:j<xs.size):xs.getD i 0<xs.getD j 0:=by
 have q:=List.pairwise_iff_getElem.mp h i j (by rw[bq];omega) (by rw[bq];exact hj) qH;rw[cw,cw,bV (by omega),bV hj];simpa using q
theorem sA{xs:Array Nat}{j:Nat}(h:k_ xs):∀(f lo hi:Nat),lo<=hi->hi<=xs.size->hi - lo<=f->(∀k,k<lo->xs.getD k 0<j)->(∀k,hi<=k->k<xs.size->j<=xs.getD k 0)->
  ∀p,SetTable.below.go xs j f lo hi=p->p<=xs.size/\(∀k,k<p->xs.getD k 0<j)/\∀k,p<=k->k<xs.size->j<=xs.getD k 0
 |0,lo,hi,h1,h2,h3,h4,h5,p,e=>by
  have:lo=hi:=by omega
  subst this;subst e;exact⟨h2,h4,h5⟩
 |f+1,lo,hi,h1,h2,h3,h4,h5,p,e=>by
  unfold SetTable.below.go at e;by_cases hl:lo<hi
  ·rw[ab hl]at e;dsimp only at e;have hm:(lo+hi)/2<xs.size:=by omega
   have hg:xs.getD ((lo+hi)/2) j=xs.getD ((lo+hi)/2) 0:=by
    rw[cw,cw,bV hm];rfl
   rw[hg]at e;by_cases hv:xs.getD ((lo+hi)/2) 0<j
   ·rw[ab hv]at e;refine sA h f _ hi (by omega) h2 (by omega) (fun k hk=>?_) h5 p e;by_cases B_:k=(lo+hi)/2
    ·rw[B_];exact hv
    ·exact kr (h.lt (show k<(lo+hi)/2 by omega) hm) hv
   ·rw[af hv]at e;refine sA h f lo _ (by omega) (by omega) (by omega) h4 (fun k hk W9=>?_) p e;by_cases B_:k=(lo+hi)/2
    ·rw[B_];omega
    ·have:=h.lt (show(lo+hi)/2<k by omega) W9;omega
  ·rw[af hl]at e;have:lo=hi:=by omega
   subst this;subst e;exact⟨h2,h4,h5⟩
theorem below_at{xs:Array Nat}(h:k_ xs)(j:Nat):SetTable.below xs j<=xs.size/\(∀k,k<SetTable.below xs j->xs.getD k 0<j)/\∀k,SetTable.below xs j<=k->k<xs.size->j<=xs.getD k 0:=
 sA h xs.size 0 xs.size (bP _) (ak _) (ak _) (fun k hk=>absurd hk (Nat.not_lt_zero _)) (fun k h1 h2=>absurd h2 (by omega)) _ rfl
theorem y3{xs:Array Nat}(h:k_ xs):SetTable.below xs 0=0:=by
 have q:=(below_at h 0).2.1;cases e:SetTable.below xs 0 with
 |zero=>rfl
 |succ n=>exact absurd (q 0 (by omega)) (by omega)
theorem y4{xs:Array Nat}(h:k_ xs){i:Nat}(hi:i<xs.size):SetTable.below xs (xs.getD i 0+1)=i+1:=by
 have⟨q0,q1,q2⟩:=below_at h (xs.getD i 0+1);by_cases h1:SetTable.below xs (xs.getD i 0+1)<=i
 ·have:=q2 i h1 hi;omega
 ·by_cases h2:i+1<SetTable.below xs (xs.getD i 0+1)
  ·have:=q1 (i+1) h2;have:=h.lt (show i<i+1 by omega) (by omega);omega
  ·omega
theorem D6{xs:Array Nat}(h:k_ xs){j:Nat}(hj:¬xs[SetTable.below xs j]?=some j):k_ (SetTable.insertAt xs (SetTable.below xs j) j):=by
 have⟨q0,q1,q2⟩:=below_at h j;generalize SetTable.below xs j=p at*;have e:(SetTable.insertAt xs p j).toList=xs.toList.take p++j::xs.toList.drop p:=by
  unfold SetTable.insertAt;simp;exact mR (by simp)
 unfold k_;rw[e,List.pairwise_append];have gl:∀{k:Nat} (hk:k<xs.toList.length),xs.toList[k]=xs.getD k 0:=fun{k} hk=>by
  rw[cw,bV (by rw[<-bq];exact hk)];simp
 have OH:∀a∈xs.toList.take p,a<j:=fun a ha=>by
  obtain⟨k,hk,e⟩:=List.mem_iff_getElem.mp ha;rw[kb,bq]at hk;rw[List.getElem_take,gl (by rw[bq];omega)]at e;rw[<-e];exact q1 k (by omega)
 have IG:∀b∈xs.toList.drop p,j<b:=fun b hb=>by
  obtain⟨k,hk,e⟩:=List.mem_iff_getElem.mp hb;rw[List.length_drop,bq]at hk;rw[List.getElem_drop,gl (by rw[bq];omega)]at e;have h1:=q2 (p+k) (by omega) (by omega);rw[e]at h1;rcases Nat.lt_or_ge j b with h2|h2
  ·exact h2
  ·have h3:b=j:=Nat.le_antisymm h2 h1;subst h3;exfalso;by_cases Ca:k=0
   ·subst Ca;refine hj ?_
    rw[bV (by omega)];rw[cw,bV (by omega)]at e;simpa using e
   ·have h4:=h.lt (show p<p+k by omega) (by omega);have h5:=q2 p (ak _) (by omega);omega
 refine⟨h.sublist (List.take_sublist _ _),List.pairwise_cons.mpr ⟨IG,h.sublist (List.drop_sublist _ _)⟩,fun a ha b hb=>?_⟩;rcases aN.mp hb with rfl|hb
 ·exact OH a ha
 ·exact kr (OH a ha) (IG b hb)
end L2
namespace L2
open PySem PySem.Spec PyProof.Rows
theorem il{α:Type}:∀(l:List α) (i:Nat) (hi:i<l.length),(l[i]::l.eraseIdx i).Perm l
 |x::r,0,_=>List.Perm.refl _
 |x::r,i+1,hi=>by
  have ih:=il r i (by simpa using hi);have qL:i<r.length:=by simpa using hi
  show(r[i]::x::r.eraseIdx i).Perm (x::r);exact(List.Perm.swap _ _ _).trans (ih.cons x)
theorem perm_back{α β:Type}{f:α->β}(g:β->α)(fe:∀p,g (f p)=p){l:List α}{es:List β}(hp:es.Perm (l.map f)):∃l':List α,es=l'.map f/\l'.Perm l:=by
 have h1:∀e∈es,f (g e)=e:=fun e he=>by
  obtain⟨p,_,rfl⟩:=aW.mp (hp.mem_iff.mp he);rw[fe]
 refine⟨es.map g,?_,?_⟩
 ·rw[bC]
  conv=>lhs;rw[<-List.map_id es]
  exact fT fun e he=>(h1 e he).symm
 ·have h2:=hp.map g;rw[bC,show List.map (g∘f) l=l by
   conv=>rhs;rw[<-List.map_id l]
   exact fT fun p _=>fe p]at h2
  exact h2
section
variable {prog:Program}{w:World}{A:Around}{E:Value->Shared->Prop}{s:Shared}
theorem y6{M:Model}{src:Source}{n:Nat}{Q:Nat->Shared->Prop}(hn:n≠0)(h:∀i,i<n->∀d,Q i {s with drawn:=d}):wpAny M A (choose src n) Q E s:=fun Γ p _=>by
 unfold choose;rw[Sem.wp];refine⟨hn,?_⟩;rw[Sem.wp];exact h _ (gg _ (Nat.pos_of_ne_zero hn)) _
theorem l7{M:Model}{α:Type}:∀(n:Nat) (xs:List α) (s:Shared) (Q:List α->Shared->Prop),xs.length=n->(∀ys d,ys.Perm xs->Q ys {s with drawn:=d})->wpAny M A (drawOrder n xs) Q E s
 |0,xs,s,Q,hl,h=>by
  cases xs with
  |nil=>exact ae (h [] s.drawn (List.Perm.refl _))
  |cons _ _=>cases hl
 |n+1,[],s,Q,hl,h=>by cases hl
 |n+1,x::r,s,Q,hl,h=>by
  unfold drawOrder;refine aa (y6 (by simp) fun i hi d=>?_);have hx:(x::r)[i]?=some (x::r)[i]:=aB hi
  rw[hx];dsimp only;refine aa (l7 n _ _ _ (by rw[qU hi];simpa using hl) fun ys d' hp=>?_);refine ae (h _ d' ?_);exact(hp.cons _).trans (il _ i hi)
end
abbrev pf(w:World):Bool:=w.params.followText "set-order"
def kW:Key->Tok->Value
 |.inl i,t=>.int i t
 |.inr x,t=>.str x t
theorem Az{k:Key}{t:Tok}:nN k (kW k t)=true:=by cases k<;>simp[nN,kW,Value.isInt,Value.isStrOf]
end L2
namespace L2
open PySem PySem.Spec PyProof.Rows
theorem cG:Slot "set_iterator" "__next__" "set_iterator.__next__":=.of (owner:="set_iterator") (n:="__next__")
 (by rw[nA,mX];kernel_rfl) (by decide+kernel) (by decide+kernel) (by decide+kernel) (by first|exact .inl (by decide+kernel)|exact .inr (by decide+kernel))
 (by rw[isSubtype_type];kernel_rfl)
theorem jn:entryFor table "set_iterator.__next__"=some Builtin.«set_iterator.__next__»:=entryFor_of_tree (by kernel_rfl)
theorem pS:Manifest.owners.lookup (String.ofList ['r', 'o', 't', 'a', 'r', 'e', 't', 'i', '_', 't', 'e', 's'].reverse)=some Manifest.sig_set_iterator:=by kernel_rfl
theorem jS(a:Value):argsOk "set_iterator.__next__" ⟨[a],[]⟩:=by
 unfold argsOk;rw[signature?_of (id:="set_iterator.__next__") (n:=['_', '_', 't', 'x', 'e', 'n', '_', '_']) (o:=['r', 'o', 't', 'a', 'r', 'e', 't', 'i', '_', 't', 'e', 's']) (by kernel_rfl) pS];kernel_rfl
theorem jT:Slot "set_iterator" "__iter__" "set_iterator.__iter__":=.of (owner:="set_iterator") (n:="__iter__")
 (by rw[nA,mX];kernel_rfl) (by decide+kernel) (by decide+kernel) (by decide+kernel) (by first|exact .inl (by decide+kernel)|exact .inr (by decide+kernel))
 (by rw[isSubtype_type];kernel_rfl)
theorem qv:entryFor table "set.__iter__"=some Builtin.«frozenset.__iter__»:=entryFor_alias (id':="frozenset.__iter__") (by kernel_rfl) rfl (by decide+kernel) (by kernel_rfl)
def pT(F:Value)(i:Nat)(a:Addr)(n ep:Nat):Obj:={cls:=.type "set_iterator",dict:=none,data:=.fields #[F,rawInt i,.ref a,rawInt n,rawInt ep],slots:=#[]}
section
variable {prog:Program}{w:World}{A:Around}{E:Value->Shared->Prop}{s:Shared}{I a:Addr}{o:Obj}{es:Array (Int×Value)}{ep:Nat}{t:SetTable}
theorem iQ{Q:Array (Int×Value)->Shared->Prop}(ho:s.heap.get? a=some o)(hd:o.data=.set es ep t)(hf:t.fits es.size=true)(h:Q es s):wpAny (model prog w) A (setEntries a) Q E s:=by
 unfold setEntries;exact aa (cV ho hd hf (ae h))
theorem sC{α:Type}{R:α->Shared->Prop}(hh:A.handled=none)
  (h:∀h' (x:Addr),Shared.TypeIs {s with heap:=h'} (.ref x) "StopIteration"->(∀b o,s.heap.get? b=some o->h'.get? b=some o)->E (.ref x) {s with heap:=h'}):
  wpAny (model prog w) A.in1 (newExc (.type "StopIteration") []) (fun x s'=>wpAny (model prog w) A.in1 (raiseNew x:Sem α) R E s') E s:=by
 simp only[newExc,newTuple];refine aa (fX ?_ (by size_fits));refine aa (m:=firstArgMember _ _) (wpAny_of_eq (a:=Value.none) (by first|rfl|(simp only[firstArgMember];rfl)) ?_);refine fX ?_ (by size_fits)
 simp only[raiseNew];refine aa (wpAny_handled ?_)
 first|rw[show A.in1.handled=none from hh]|rw[hh]
 refine aa (ae (wpAny_throw ?_));exact h _ _ ⟨_,aU _ rfl,rfl⟩ fun b o e=>aC _ (aC _ e)
theorem vQ{slot i:Nat}{r:Option (Value×Nat)}{Q:Option Value->Shared->Prop}(hh:A.handled=none)(hit:s.heap.get? I=some (pT (rawInt slot) i a es.size ep))(ho:s.heap.get? a=some o)(hd:o.data=.set es ep t)(hf:t.fits es.size=true)
  (hn:∀(B:Around) (E':Value->Shared->Prop) (Q':Option (Value×Nat)->Shared->Prop),Q' r s->wpAny (model prog w) B (setNext a slot i ep) Q' E' s)
  (h1:∀x nx,r=some (x,nx)->∀h',h'.get? I=some (pT (rawInt nx) (i+1) a es.size ep)->Heap.SameBut I s.heap h'->Q (some x) {s with heap:=h'})
  (h2:r=none->∀h',Heap.ExtBut I s.heap h'->Q none {s with heap:=h'}):wpAny (model prog w) A (pyNext (.ref I)) Q E s:=by
 have hT:s.TypeIs (.ref I) "set_iterator":=⟨_,hit,rfl⟩;unfold pyNext;refine aa (hU (iz (name:=Str.ofString "__next__") hT cG (dN cG hT jn ?_ (jS _))));unfold Builtin.«set_iterator.__next__»;refine aa (m:=slotArgs "__next__" 0 _) (ae ?_);refine aa (ja hit rfl ?_);dsimp only;refine aa (iQ ho hd hf ?_);rw[af (by simp)];show wpAny _ _ (setNext a (slot:Int).toNat (i:Int).toNat (ep:Int).toNat>>=_) _ _ s;rw[fk,fk,fk];refine aa (hn _ _ _ ?_);cases r with
 |none=>
  dsimp only;refine aa (kq hit rfl (by show 2<5;decide) ?_);refine aa (sC hh fun h' x hx hk=>?_);refine aa (i9 (T:="StopIteration") (b:=true) hx nH ?_);exact ae (h2 rfl _ fun b o hb e=>hk b o ((dS s.heap I _).extBut b o hb e))
 |some p=>
  obtain⟨x,nx⟩:=p;dsimp only;refine aa (fU hit (by show 0<5;decide) fun dP D7 la=>?_);refine aa (fU (s:={s with heap:=dP}) D7 (by show 1<5;decide) fun kL OI ph=>?_);exact ae ⟨_,rfl,ae (h1 x nx rfl kL OI (la.trans ph))⟩
end
end L2
namespace L2
open PySem PySem.Spec PyProof.Rows
theorem pj:entryFor table "set_iterator.__iter__"=some Builtin.«dict_keyiterator.__iter__»:=entryFor_alias (id':="dict_keyiterator.__iter__") (by kernel_rfl) rfl (by decide+kernel) (by kernel_rfl)
theorem qw(a:Value):argsOk "set_iterator.__iter__" ⟨[a],[]⟩:=by
 unfold argsOk;rw[signature?_of (id:="set_iterator.__iter__") (n:=['_', '_', 'r', 'e', 't', 'i', '_', '_']) (o:=['r', 'o', 't', 'a', 'r', 'e', 't', 'i', '_', 't', 'e', 's']) (by kernel_rfl) pS];kernel_rfl
theorem AA{α:Type}(next:Nat->Nat):∀(fuel k:Nat) (left:List α) (out:Array α),left.length=fuel->(pickOrder.go next fuel k left out).toList.Perm (out.toList++left)
 |0,k,left,out,h=>by
  rw[List.eq_nil_of_length_eq_zero h];simp[pickOrder.go]
 |fuel+1,k,left,out,h=>by
  have hi:next k % left.length<left.length:=gg _ (by omega)
  unfold pickOrder.go;rw[aB hi];dsimp only;refine(AA next fuel (k+1) _ _ (by rw[qU hi];omega)).trans ?_
  rw[iZ,fV];exact(il left _ hi).append_left _
theorem Cb{α:Type}(next:Nat->Nat)(xs:Array α):(pickOrder next xs).toList.Perm xs.toList:=by
 have h:=AA next xs.size 0 xs.toList #[] (by simp)
 unfold pickOrder;simpa using h
def slotAt(t:SetTable):Nat->Nat
 |0=>0
 |i+1=>t.place.getD i 0+1
theorem sD{t:SetTable}(h:k_ t.place):∀{i:Nat},i<=t.place.size->SetTable.below t.place (slotAt t i)=i
 |0,_=>y3 h
 |i+1,hi=>y4 h hi
section
variable {prog:Program}{w:World}{A:Around}{E:Value->Shared->Prop}{s:Shared}{I a:Addr}{o:Obj}{es:Array (Int×Value)}{ep:Nat}{t:SetTable}
theorem vR{F:Value}{i n e:Nat}{Q:Value->Shared->Prop}(hit:s.heap.get? I=some (pT F i a n e))(h:Q (.ref I) s):wpAny (model prog w) A (pyIter (.ref I)) Q E s:=by
 have hT:s.TypeIs (.ref I) "set_iterator":=⟨_,hit,rfl⟩;refine rP hT jT (dN jT hT pj ?_ (qw _));show wpAny _ _ (ret (.ref I)) _ _ s;exact ae ⟨_,rfl,"set_iterator",_,hT,cG.lookup,h⟩
theorem D8{tp:Addr}{i m:Nat}{ot:Obj}{pl:Array Value}{Q:Option Value->Shared->Prop}(hh:A.handled=none)(hit:s.heap.get? I=some (pT (.ref tp) i a es.size ep))(ho:s.heap.get? a=some o)(hd:o.data=.set es ep t)(hf:t.fits es.size=true)
  (Tg:s.heap.get? tp=some ot) (Rn:ot.data=.seq pl m)
  (h1:∀(p:Nat) (e:Int×Value),pl[i]?=some (rawInt p)->es[p]?=some e->∀h',h'.get? I=some (pT (.ref tp) (i+1) a es.size ep)->Heap.SameBut I s.heap h'->Q (some e.2) {s with heap:=h'})
  (h2:pl[i]?=none->∀h',Heap.ExtBut I s.heap h'->Q none {s with heap:=h'})
  (oX:∀v,pl[i]?=some v->∃(p:Nat) (e:Int×Value),v=rawInt p/\es[p]?=some e):wpAny (model prog w) A (pyNext (.ref I)) Q E s:=by
 have hT:s.TypeIs (.ref I) "set_iterator":=⟨_,hit,rfl⟩;unfold pyNext;refine aa (hU (iz (name:=Str.ofString "__next__") hT cG (dN cG hT jn ?_ (jS _))));unfold Builtin.«set_iterator.__next__»;refine aa (m:=slotArgs "__next__" 0 _) (ae ?_);refine aa (ja hit rfl ?_);dsimp only;refine aa (iQ ho hd hf ?_);rw[af (by simp)];show wpAny _ _ (seqItems? (.ref tp)>>=_) _ _ s;refine aa (dO Tg Rn ?_);dsimp only;rw[fk];cases hv:pl[i]? with
 |none=>
  dsimp only;refine aa (fU hit (by show 0<5;decide) fun dP D7 la=>?_);refine aa (fU (s:={s with heap:=dP}) D7 (by show 2<5;decide) fun kL OI ph=>?_);refine aa (sC hh fun h' x hx hk=>?_);refine aa (i9 (T:="StopIteration") (b:=true) hx nH ?_);exact ae (h2 hv _ fun b o hb e=>hk b o (ph.extBut b o hb (la.extBut b o hb e)))
 |some v=>
  obtain⟨p,e,rfl,he⟩:=oX v hv;show wpAny _ _ (setNextDrawn a (p:Int).toNat (ep:Int).toNat>>=_) _ _ s;rw[fk,fk];refine aa ?_
  unfold setNextDrawn;refine aa (cV ho hd hf ?_);dsimp only;rw[af (by simp),he];dsimp only;refine ae ?_
  refine aa (fU hit (by show 1<5;decide) fun dP D7 la=>?_);exact ae ⟨_,rfl,ae (h1 p e hv he dP D7 la)⟩
theorem lO{Q:Bool->Shared->Prop}(h:Q (pf w) s):wpAny (model prog w) A setsByText Q E s:=by
 unfold setsByText;exact aa (wpAny_askSetting (ae h))
theorem uX{slot i:Nat}{Q:Option (Value×Nat)->Shared->Prop}(hb:pf w=true)(ho:s.heap.get? a=some o)(hd:o.data=.set es ep t)(hf:t.fits es.size=true)
  (h:Q (((pickOrder (w.params.setOrder a ep) es)[i]?).map fun e=>(e.2,slot)) s):wpAny (model prog w) A (setNext a slot i ep) Q E s:=by
 unfold setNext;refine aa (cV ho hd hf ?_);dsimp only;refine aa (lO ?_);rw[hb,ab rfl];simp only[gW,aV,aR];refine aa ?_
 unfold setWalk;refine aa (cV ho hd hf ?_);dsimp only;refine aa (lO ?_);rw[hb,ab rfl];refine aa (wpAny_askSetting ?_);exact ae (ae h)
theorem xB{slot i:Nat}{Q:Option (Value×Nat)->Shared->Prop}(hb:pf w=false)(hl:t.led=true)(hz:t.plain=true\/es.size<=1)(ho:s.heap.get? a=some o)(hd:o.data=.set es ep t)(hf:t.fits es.size=true)
  (h:Q (match es[SetTable.below t.place slot]?,t.place[SetTable.below t.place slot]? with
   |some (_,x),some j=>some (x,j+1)
   |_,_=>none) s):wpAny (model prog w) A (setNext a slot i ep) Q E s:=by
 unfold setNext;refine aa (cV ho hd hf ?_);dsimp only;refine aa (lO ?_);rw[hb];simp only[aV,aR];refine fZ (fun ui=>absurd (show(!t.plain&&decide (es.size>1))=true from ui) ?_) (fun _=>?_)
 ·rcases hz with z|z
  ·rw[z];exact cP
  ·rw[bg (p:=es.size>1) (by omega),kn];exact cP
 ·refine aa (m:=(if(!t.led&&!es.isEmpty)=true then unsupported "set:maker-not-led"else pure ())) ?_
  rw[hl,af (by simp)];exact ae (ae h)
end
end L2
namespace PySem
section
variable {prog:Program}{w:World}{A:Around}{E:Value->Shared->Prop}{s:Shared}
theorem xC(a:Value){Q₁:Value->Shared->Prop}
  (h:Q₁ (.ref s.heap.objs.size) {s with heap:=s.heap.push {cls:=.type "set",dict:=none,data:=.set #[] 0 (.fresh 0 0 (!L2.pf w))}}):
  codeAny (model prog w) A (.call (.builtin "set.__new__") ⟨[.type "set",a],[]⟩) (wants Q₁ E) s:=by
 refine codeAny_of_tree ?_
 show wpAny _ A.in1 (do checkBuiltinCall "set.__new__" ⟨[.type "set",a],[]⟩;again (.builtin "set.__new__" ⟨[.type "set",a],[]⟩)) _ _ s;refine aa (wpAny_of_eq (F.newCall_set_1 a) (ae ⟨eC F.plain_set_new _,dZ F.entry_set_new ?_⟩));rw[fj F.plain_set_new _];unfold Builtin.«set.__new__» Builtin.Frozenset.newClass;have GV:=sub_set_self;obtain⟨hp,g,d,tk,os⟩:=s;dsimp only
 wp_walk
 refine wpAny_askSetting (ae ?_);dsimp only;simp only[newObj];refine aa (wpAny_alloc (ae ?_));exact ae h
end
end PySem
namespace L2
open PySem PySem.Spec PySem.Calls PyProof.Rows
section
variable {prog:Program}{w:World}{A:Around}{E:Value->Shared->Prop}{s:Shared}{a:Addr}{ss:List Key}
theorem D9{Q:Bool->Shared->Prop}(hT:s.TypeIs (.ref a) "set")(h:Q false s):wpAny (model prog w) A (Builtin.List.listLengthHint (.ref a)) Q E s:=by
 unfold Builtin.List.listLengthHint;refine aa (g8 hT PySem.F.slot_set_len.lookup ?_);generalize aT:("set.__len__":String)=W_
 wp_delta
 rw[show splitId W_=some ("set","__len__")from by subst aT;decide+kernel];subst aT;refine aa (i9 (T:="set") (b:=true) hT (by rw[isSubtype_type];kernel_rfl) ?_);refine fZ (fun ui=>absurd ui (by decide)) (fun _=>?_);refine fZ (fun _=>?_) (fun ui=>absurd (by decide+kernel) ui);exact aa (h8 hT (ae h))
end
end L2
namespace L2
open PySem PySem.Spec PyProof.Rows
theorem Inv.AB {X:Cx}{pins:List (Addr×Obj)}{σ:St}{H:Hp}{s:Shared}(I:Inv X pins σ H s)(d:Drawn):Inv X pins σ H {s with drawn:=d}:=
 I.step (h':=s.heap) (H':=H) (g':=s.gens) (t':=s.toks) (d':=d) (ch:=[]) (fun _ z=>nomatch z) (fun b o _ _ _ e _=>e) (fun b o _ _ _ e _=>⟨o.slots,e⟩) (fun b o _ _ n=>n) (fun b o _ e=>⟨o,e⟩) (fun _ _ e=>e) (fun _ _ _ e=>e)
   (fun b ps e=>⟨#[],by rw[e];simp⟩) (fun m hm=>hm) I.cp I.bare
end L2
namespace L2
open PySem PySem.Spec PyProof.Rows
section
variable {prog:Program}{w:World}{A:Around}{E:Value->Shared->Prop}{s:Shared}
theorem sE{it t:Addr}{i:Nat}{items:Array Value}{x:Value}{Q:Value->Shared->Prop}(hit:s.heap.IsTupleIter it t i)(ht:s.heap.IsTuple t items)(hx:items[i]?=some x)
  (hQ:∀h',h'.IsTupleIter it t (i+1)->Heap.SameBut it s.heap h'->Q x {s with heap:=h'}):wpAny (model prog w) A (Builtin.SmallTypes.nextOf (.ref it)) Q E s:=by
 have key:wpAny (model prog w) A (pyNext (.ref it)) (fun r s'=>∃v,r=some v/\Q v s') (fun _ _=>False) s:=rb hit ht hx fun h' a b=>⟨x,rfl,hQ h' a b⟩;obtain⟨o,ho,hc,hd⟩:=id hit;obtain⟨ol,Hc,_,nl,Hd⟩:=ht;unfold Builtin.SmallTypes.nextOf;refine aa (iz (name:=Str.ofString "__next__") hit.typeIs mN (dN mN hit.typeIs F.entry_tuple_iterator_next ?_ (F.args_tuple_iterator_next_1 _)));show wpAny _ _ (field (.ref it) 0>>=_) _ _ s;refine aa (dA ho hd (x:=.ref t) rfl ?_);show wpAny _ _ (if(Value.ref t==Value.none)=true then _ else _) _ _ s;rw[af (show¬((Value.ref t==Value.none)=true)from cP)];show wpAny _ _ (field (.ref it) 1>>=_) _ _ s;refine aa (dA ho hd (x:=.int i 0) rfl ?_);show wpAny _ _ (seqItems? (.ref t)>>=_) _ _ s;refine aa (dO Hc Hd ?_);simp only[fk,hx];refine aa (kq ho hd (by simp) (ae ⟨x,rfl,ae (hQ _ ?_ (dS ..))⟩));exact⟨_,iA _ ho (Obj.isFreed_of_fields (m_ hd _)),(Obj.cls_mapFields ..).trans hc,by rw[m_ hd];simp[rawInt]⟩
theorem Cc{it t:Addr}{i:Nat}{items:Array Value}{Q:Value->Shared->Prop}(hh:A.handled=none)(hit:s.heap.IsTupleIter it t i)(ht:s.heap.IsTuple t items)(hx:items[i]?=none)
  (hE:∀h' (e:Addr),Heap.ExtBut it s.heap h'->Shared.TypeIs {s with heap:=h'} (.ref e) "StopIteration"->E (.ref e) {s with heap:=h'}):wpAny (model prog w) A (Builtin.SmallTypes.nextOf (.ref it)) Q E s:=by
 obtain⟨o,ho,hc,hd⟩:=id hit;obtain⟨ol,Hc,_,nl,Hd⟩:=ht;unfold Builtin.SmallTypes.nextOf;refine aa (iz (name:=Str.ofString "__next__") hit.typeIs mN (dN mN hit.typeIs F.entry_tuple_iterator_next ?_ (F.args_tuple_iterator_next_1 _)));show wpAny _ _ (field (.ref it) 0>>=_) _ _ s;refine aa (dA ho hd (x:=.ref t) rfl ?_);show wpAny _ _ (if(Value.ref t==Value.none)=true then _ else _) _ _ s;rw[af (show¬((Value.ref t==Value.none)=true)from cP)];show wpAny _ _ (field (.ref it) 1>>=_) _ _ s;refine aa (dA ho hd (x:=.int i 0) rfl ?_);show wpAny _ _ (seqItems? (.ref t)>>=_) _ _ s;refine aa (dO Hc Hd ?_);simp only[fk,hx];refine aa (fv (aa (kq ho hd (by simp) ?_)));show wpAny _ _ (newExc (.type "StopIteration") []>>=_) _ _ _;refine aa (sC hh fun h' x Cd hk=>?_);exact hE h' x (fun b o hb e=>hk b o ((dS ..).extBut b o hb e)) Cd
structure ZA(z TI TO i1 i2:Addr):Prop where
 TIz:TI≠z
 TOz:TO≠z
 i1z:i1≠z
 i2z:i2≠z
 TITO:TI≠TO
 TIi1:TI≠i1
 TIi2:TI≠i2
 TOi1:TO≠i1
 TOi2:TO≠i2
 i12:i1≠i2
theorem Ce{z TI TO i1 i2 l1 l2:Addr}{k1 k2:Nat}{xs ys:Array Value}{x y a b:Value}{Q:Option Value->Shared->Prop}(D:ZA z TI TO i1 i2)(hz:IsZip s.heap z TI TO .none)(y8:IsPair s.heap TI (.ref i1) (.ref i2))(Cf:IsPair s.heap TO a b)
  (h1:s.heap.IsTupleIter i1 l1 k1) (h2:s.heap.IsTupleIter i2 l2 k2) (Cg:s.heap.IsTuple l1 xs) (C9:s.heap.IsTuple l2 ys) (d1:l1≠z/\l1≠TO/\l1≠i1/\l1≠i2) (d2:l2≠z/\l2≠TO/\l2≠i1/\l2≠i2) (hx:xs[k1]?=some x) (hy:ys[k2]?=some y)
  (hQ:∀h',IsZip h' z TI TO (rawInt s.heap.objs.size)->IsPair h' TO x y->h'.IsTupleIter i1 l1 (k1+1)->h'.IsTupleIter i2 l2 (k2+1)->IsPair h' s.heap.objs.size x y->
   (∀c o,c≠z->c≠TO->c≠i1->c≠i2->s.heap.get? c=some o->h'.get? c=some o)->Q (some (.ref s.heap.objs.size)) {s with heap:=h'}):wpAny (model prog w) A (pyNext (.ref z)) Q E s:=by
 have hT:s.TypeIs (.ref z) "zip":=⟨_,hz,rfl⟩;unfold pyNext;refine aa (hU (iz (name:=Str.ofString "__next__") hT nB (dN nB hT F.entry_zip_next ?_ (F.args_zip_next_1 _))));show wpAny _ _ (field (.ref z) 2>>=_) _ _ _;refine aa (dA hz rfl (x:=.bool false) rfl ?_);show wpAny _ _ (field (.ref z) 3>>=_) _ _ _;refine aa (dA hz rfl (x:=.ref TI) rfl (aa (dO y8 rfl ?_)));show wpAny _ _ (Builtin.SmallTypes.ownedTupleIsFree (.ref z)>>=_) _ _ _;refine aa ?_
 unfold Builtin.SmallTypes.ownedTupleIsFree;refine aa (dA hz rfl (x:=.none) rfl (ae ?_));simp only[dC];refine aa (fv (aa (dA hz rfl (x:=.ref TO) rfl ?_)));refine aa (fU hz (by simp) fun dP sF la=>?_);replace sF:IsZip dP z TI TO .ellipsis:=sF;refine aa ?_
 simp only[List.zipIdx_cons,List.zipIdx_nil,rH,List.forIn_nil];refine aa (aa (wpAny_onRaise ?_));show wpAny _ _ (Builtin.SmallTypes.nextOf (.ref i1)>>=_) _ _ _;refine aa (sE (s:={s with heap:=dP}) (h1.extBut la.extBut D.i1z) (Cg.extBut la.extBut d1.1) hx fun kL OJ ph=>ae ?_);have D_:IsPair kL TO a b:=ph.extBut _ _ D.TOi1 (la.extBut _ _ D.TOz Cf);refine aa (dO D_ rfl (aa (wpAny_updateSeq_pair D_ fun xf y9 vS=>?_)));replace y9:IsPair xf TO x b:=y9;refine aa (wpAny_letGo (ae (aa (aa (wpAny_onRaise ?_)))));show wpAny _ _ (Builtin.SmallTypes.nextOf (.ref i2)>>=_) _ _ _;refine aa (sE (s:={s with heap:=xf}) (((h2.extBut la.extBut D.i2z).extBut ph.extBut D.i12.symm).extBut vS.extBut D.TOi2.symm) (((C9.extBut la.extBut d2.1).extBut ph.extBut d2.2.2.1).extBut vS.extBut d2.2.1) hy fun J8 OK D'=>ae ?_);have Ea:IsPair J8 TO x b:=D'.extBut _ _ D.TOi2 y9;refine aa (dO Ea rfl (aa (wpAny_updateSeq_pair Ea fun lV vU Eb=>?_)));replace vU:IsPair lV TO x y:=vU;refine aa (wpAny_letGo (ae (ae ?_)));refine aa (dO vU rfl (aa (nJ ?_)));have hsz:lV.objs.size=s.heap.objs.size:=by rw[Eb.1,D'.1,vS.1,ph.1,la.1]
 have IH:IsZip lV z TI TO .ellipsis:=Eb.extBut _ _ D.TOz.symm (D'.extBut _ _ D.i2z.symm (vS.extBut _ _ D.TOz.symm (ph.extBut _ _ D.i1z.symm sF)));have OL:∀c o,c≠z->c≠TO->c≠i1->c≠i2->s.heap.get? c=some o->lV.get? c=some o:=fun c o c1 c2 c3 c4 e=>Eb.extBut _ _ c2 (D'.extBut _ _ c4 (vS.extBut _ _ c2 (ph.extBut _ _ c3 (la.extBut _ _ c1 e))));have OM:lV.IsTupleIter i1 l1 (k1+1):=((OJ.extBut vS.extBut D.TOi1.symm).extBut D'.extBut D.i12).extBut Eb.extBut D.TOi1.symm;have ON:lV.IsTupleIter i2 l2 (k2+1):=OK.extBut Eb.extBut D.TOi2.symm;have OO:z<lV.objs.size:=ar IH;show wpAny _ _ (Builtin.SmallTypes.ownedTupleHandOut (.ref z) (.ref lV.objs.size)>>=_) _ _ _;refine aa ?_
 unfold Builtin.SmallTypes.ownedTupleHandOut;have OP:IsZip (lV.push {cls:=.type "tuple",data:=.seq #[x,y]}) z TI TO .ellipsis:=aC _ IH;refine aa (fU OP (by simp) fun Th Ec OQ=>?_);replace Ec:IsZip Th z TI TO (rawInt lV.objs.size):=Ec;refine fU Ec (by simp) fun He AD OR=>?_
 replace AD:IsZip He z TI TO (rawInt lV.objs.size):=AD;have up:∀c o,c≠z->lV.get? c=some o->He.get? c=some o:=fun c o c1 e=>OR.extBut _ _ c1 (OQ.extBut _ _ c1 (aC _ e));have II:IsPair He lV.objs.size x y:=OR.extBut _ _ (cy OO) (OQ.extBut _ _ (cy OO) (aU _ rfl));rw[hsz]at AD II;refine ae ⟨_,rfl,ae ?_⟩;show Q (some (.ref lV.objs.size)) _;rw[hsz];exact hQ He AD (up _ _ D.TOz vU) (OM.at fun o e=>up _ o D.i1z e) (ON.at fun o e=>up _ o D.i2z e) II fun c o c1 c2 c3 c4 e=>up c o c1 (OL c o c1 c2 c3 c4 e)
theorem Ed{z TI TO i1 i2 l1:Addr}{k1:Nat}{xs:Array Value}{a b:Value}{Q:Option Value->Shared->Prop}(hh:A.handled=none)(D:ZA z TI TO i1 i2)(hz:IsZip s.heap z TI TO .none)(y8:IsPair s.heap TI (.ref i1) (.ref i2))(Cf:IsPair s.heap TO a b)
  (h1:s.heap.IsTupleIter i1 l1 k1) (Cg:s.heap.IsTuple l1 xs) (d1:l1≠z) (hx:xs[k1]?=none)
  (hQ:∀h',(∀c o,c≠z->c≠i1->s.heap.get? c=some o->h'.get? c=some o)->Q none {s with heap:=h'}):wpAny (model prog w) A (pyNext (.ref z)) Q E s:=by
 have hT:s.TypeIs (.ref z) "zip":=⟨_,hz,rfl⟩;unfold pyNext;refine aa (hU (iz (name:=Str.ofString "__next__") hT nB (dN nB hT F.entry_zip_next ?_ (F.args_zip_next_1 _))));show wpAny _ _ (field (.ref z) 2>>=_) _ _ _;refine aa (dA hz rfl (x:=.bool false) rfl ?_);show wpAny _ _ (field (.ref z) 3>>=_) _ _ _;refine aa (dA hz rfl (x:=.ref TI) rfl (aa (dO y8 rfl ?_)));show wpAny _ _ (Builtin.SmallTypes.ownedTupleIsFree (.ref z)>>=_) _ _ _;refine aa ?_
 unfold Builtin.SmallTypes.ownedTupleIsFree;refine aa (dA hz rfl (x:=.none) rfl (ae ?_));simp only[dC];refine aa (fv (aa (dA hz rfl (x:=.ref TO) rfl ?_)));refine aa (fU hz (by simp) fun dP sF la=>?_);replace sF:IsZip dP z TI TO .ellipsis:=sF;refine aa ?_
 simp only[List.zipIdx_cons,List.zipIdx_nil,rH,List.forIn_nil];refine aa (aa (wpAny_onRaise ?_));show wpAny _ _ (Builtin.SmallTypes.nextOf (.ref i1)>>=_) _ _ _;refine aa (Cc (s:={s with heap:=dP}) hh (h1.extBut la.extBut D.i1z) (Cg.extBut la.extBut d1) hx fun kL e ph he=>?_);have IJ:IsZip kL z TI TO .ellipsis:=ph _ _ D.i1z.symm sF;obtain⟨oe,VA,VB⟩:=he;have Xa:e≠z:=fun q=>by
  have OS:kL.get? e=some oe:=VA;rw[q,IJ]at OS;cases OS;simp at VB
 refine fU (s:={s with heap:=kL}) IJ (by simp) fun xf _ vS=>?_
 refine aa (i9 (s:={s with heap:=xf}) (T:="StopIteration") (b:=true) ⟨oe,vS.extBut _ _ Xa VA,VB⟩ nH ?_);exact ae (hQ xf fun c o c1 c2 q=>vS.extBut _ _ c1 (ph _ _ c2 (la.extBut _ _ c1 q)))
end
end L2
namespace PySem
abbrev Ro(h:Heap)(l1:Addr):Heap:=h.push {cls:=.type "tuple_iterator",data:=.fields #[.ref l1,.int 0 0]}
abbrev Rp(h:Heap)(l1 l2:Addr):Heap:=(Ro h l1).push {cls:=.type "tuple_iterator",data:=.fields #[.ref l2,.int 0 0]}
abbrev Rq(h:Heap)(l1 l2:Addr):Heap:=(Rp h l1 l2).push {cls:=.type "tuple",data:=.seq #[.ref h.objs.size,.ref (Ro h l1).objs.size]}
abbrev Rr(h:Heap)(l1 l2:Addr):Heap:=(Rq h l1 l2).push {cls:=.type "tuple",data:=.seq #[.none,.none]}
abbrev MA(h:Heap)(l1 l2:Addr):Heap:=(Rr h l1 l2).push {cls:=.type "zip",data:=.fields #[.none,.bool false,.bool false,.ref (Rp h l1 l2).objs.size,.ref (Rq h l1 l2).objs.size]}
theorem y_(l1 l2:Addr)(xs ys:Array Value):Meets (Builtin.«zip.__new__» ⟨[.type "zip",.ref l1,.ref l2],[]⟩)
  (fun _ R s=>s.heap.IsTuple l1 xs/\s.heap.IsTuple l2 ys/\R (.ok (.ret (.ref (Rr s.heap l1 l2).objs.size))) {s with heap:=MA s.heap l1 l2}):=
 .of_wp fun prog w A R s h=>by
  obtain⟨hp,g,d,tk,os⟩:=s;obtain⟨Cg,C9,h⟩:=h;have GV:=sub_zip;have OT:Heap.IsTuple (Shared.heap ⟨hp,g,d,tk,os⟩) l1 xs:=Cg;have Xb:Heap.IsTuple (Shared.heap ⟨hp.push {cls:=.type "tuple_iterator",data:=.fields #[.ref l1,.int 0 0]},g,d,tk,os⟩) l2 ys:=C9.at fun o e=>aC _ e
  wp_walk using i4 OT,i4 Xb
  exact⟨_,rfl,h⟩
section
variable {prog:Program}{w:World}{A:Around}{E:Value->Shared->Prop}{s:Shared}
theorem Ci{l1 l2:Addr}{xs ys:Array Value}{Q:Value->Shared->Prop}(Cg:s.heap.IsTuple l1 xs)(C9:s.heap.IsTuple l2 ys)
  (h:∀h',IsZip h' (s.heap.objs.size+4) (s.heap.objs.size+2) (s.heap.objs.size+3) .none->IsPair h' (s.heap.objs.size+2) (.ref s.heap.objs.size) (.ref (s.heap.objs.size+1))->
   IsPair h' (s.heap.objs.size+3) .none .none->h'.IsTupleIter s.heap.objs.size l1 0->h'.IsTupleIter (s.heap.objs.size+1) l2 0->(∀c o,s.heap.get? c=some o->h'.get? c=some o)->Q (.ref (s.heap.objs.size+4)) {s with heap:=h'}):
  wpAny (model prog w) A (call (.type "zip") [.ref l1,.ref l2]) Q E s:=by
 refine callType_new F.called_zip (by decide) (F.typeCall_zip_2 _ _) (F.newCall_zip_2 _ _) (fun obj=>F.args_object_init_3 obj _ _) F.entry_zip_new (y_ l1 l2 xs ys) ⟨Cg,C9,?_⟩;have z1:(Ro s.heap l1).objs.size=s.heap.objs.size+1:=gc ..;have z2:(Rp s.heap l1 l2).objs.size=s.heap.objs.size+2:=by rw[gc,z1]
 have z3:(Rq s.heap l1 l2).objs.size=s.heap.objs.size+3:=by rw[gc,z2]
 have z4:(Rr s.heap l1 l2).objs.size=s.heap.objs.size+4:=by rw[gc,z3]
 have up:∀{h:Heap} {c:Addr} {o o':Obj},h.get? c=some o->(h.push o').get? c=some o:=fun e=>aC _ e;have g5:(MA s.heap l1 l2).get? (Rr s.heap l1 l2).objs.size=some _:=aU _ rfl;have g4:(MA s.heap l1 l2).get? (Rq s.heap l1 l2).objs.size=some _:=up (aU _ rfl);have g3:(MA s.heap l1 l2).get? (Rp s.heap l1 l2).objs.size=some _:=up (up (aU _ rfl));have g2:(MA s.heap l1 l2).get? (Ro s.heap l1).objs.size=some _:=up (up (up (aU _ rfl)));have g1:(MA s.heap l1 l2).get? s.heap.objs.size=some _:=up (up (up (up (aU _ rfl))));show _/\_;rw[z2,z3,z4]at g5;rw[z1,z2]at g3;rw[z3]at g4;rw[z1]at g2;rw[z4];exact⟨⟨_,g5,rfl⟩,h _ g5 g3 g4 ⟨_,g1,rfl,rfl⟩ ⟨_,g2,rfl,rfl⟩ fun c o x=>up (up (up (up (up x))))⟩
end
end PySem
namespace L2
open PySem PySem.Spec PyProof.Rows
section
variable {X:Cx}{pins:List (Addr×Obj)}{σ:St}{H:Hp}{s:Shared}{h':Heap}
theorem ir.apart {a b:Addr}{xs:List V}(I:Inv X pins σ H s)(h:ir X.K H a xs)(f:jy X pins H b):a≠b:=by
 rcases h with(h|⟨o,h⟩)|⟨o,aZ,n,hk,_⟩
 ·exact aQ h f.1
 ·exact aQ h f.1
 ·intro e;subst e;have hb:=I.ok.mod.MY a o hk;rcases f.2.2.2.1 with q|q
  ·exact I.ok.BE a o hb q
  ·exact absurd (bN (ar (I.ok.bs a o hb).1) q) (cX _)
theorem Inv.Cj {ch:List Addr}{T:Addr}{o:HO}{t':Nat}(I:Inv X pins σ H s)(uv:∀b∈ch,jy X pins H b)(k:∀b o,b∉ch->s.heap.get? b=some o->h'.get? b=some o)(hT:s.heap.objs.size<=T)
  (new:bQ X.prog X.w (upd H T o) h' T o):Inv X pins σ (upd H T o) {s with heap:=h',toks:=t'}:=by
 have IE:H T=none:=I.cp.fresh hT;have Dm:∀b u,H b=some u->b∉ch:=fun b u e m=>by rw[(uv b m).1]at e;cases e
 refine I.step (g':=s.gens) (d':=s.drawn) (ch:=ch) (fun b hb=>?_) (fun b o _ _ hc e _=>k b o hc e) (fun b o _ _ hc e _=>⟨o.slots,k b o hc e⟩) (fun b o _ e n=>?_) (fun b o hc e=>⟨o,k b o hc e⟩) (fun b xs e=>?_) (fun b o u e=>?_) (fun b ps e=>⟨#[],?_⟩) (fun m hm=>?_) (fun b u e=>?_) I.bare
 ·obtain⟨_,x1,_,x3,x4,x5⟩:=uv b hb;exact⟨x3,x1,x4,x5⟩
 ·rw[aj (aM (bN (ar e) hT))];exact n
 ·rw[aj (aQ e IE)];exact e
 ·rw[aj (aQ e IE)];exact e
 ·rw[aj (aQ e IE),e];simp
 ·exact hm.at' fun o e=>k _ o (fun z=>(uv _ z).2.1 rfl) e
 ·by_cases hb:b=T
  ·subst hb;rw[aG]at e;cases e;exact new
  ·rw[aj hb]at e;refine(I.cp b u e).ma (fun c v hc q=>k c v ?_ q) (fun c q=>by rw[aj (aQ q IE)];exact q) fun c xs q=>by rw[aj (aQ q IE)];exact q
   rcases hc with rfl|hc
   ·exact Dm c u e
   ·exact Dm c _ hc
theorem Inv.Ck {ch:List Addr}{t':Nat}(I:Inv X pins σ H s)(uv:∀b∈ch,jy X pins H b)(k:∀b o,b∉ch->s.heap.get? b=some o->h'.get? b=some o):Inv X pins σ H {s with heap:=h',toks:=t'}:=by
 have Dm:∀b u,H b=some u->b∉ch:=fun b u e m=>by rw[(uv b m).1]at e;cases e
 refine I.step (g':=s.gens) (d':=s.drawn) (ch:=ch) (fun b hb=>?_) (fun b o _ _ hc e _=>k b o hc e) (fun b o _ _ hc e _=>⟨o.slots,k b o hc e⟩) (fun b o _ e n=>n) (fun b o hc e=>⟨o,k b o hc e⟩) (fun b xs e=>e) (fun b o u e=>e) (fun b ps e=>⟨#[],by rw[e];simp⟩) (fun m hm=>?_) (fun b u e=>?_) I.bare
 ·obtain⟨_,x1,_,x3,x4,x5⟩:=uv b hb;exact⟨x3,x1,x4,x5⟩
 ·exact hm.at' fun o e=>k _ o (fun z=>(uv _ z).2.1 rfl) e
 ·refine(I.cp b u e).ma (fun c v hc q=>k c v ?_ q) (fun c q=>q) fun c xs q=>q;rcases hc with rfl|hc
  ·exact Dm c u e
  ·exact Dm c _ hc
end
def Ti(K:PySem.W.Frag)(a b:Addr):It:=
 ⟨fun i H=>∃xs ys x y,ir K H a xs/\ir K H b ys/\xs[i]?=some x/\ys[i]?=some y,
  fun i H v H'=>∃T x y,v=.ref T/\H T=none/\H'=upd H T (.tup [x,y])/\(∀xs,ir K H a xs->xs[i]?=some x)/\(∀ys,ir K H b ys->ys[i]?=some y),
  fun i H=>∃xs,ir K H a xs/\xs.length<=i⟩
theorem OU{G:Prop}(k:∀P:Prop,(G->P)->P):G:=k G id
theorem Ee{P:Program}{w:World}{K:PySem.W.Frag}{es:List Expr}{x1:Nat}{pos:Pos}{z TI TO i1 i2 a b:Addr}(D:ZA z TI TO i1 i2):
  Turn P w K (.Tuple es x1 pos) (Ti K a b) [z,TI,TO,i1,i2] z (fun i h=>IsZip h z TI TO .none/\IsPair h TI (.ref i1) (.ref i2)/\(∃p q,IsPair h TO p q)/\h.IsTupleIter i1 a i/\h.IsTupleIter i2 b i) where
 mem:=by simp
 obj:=fun i h st c hc=>by
  obtain⟨hz,y8,⟨p,q,Cf⟩,⟨o1,e1,c1,d1⟩,⟨o2,e2,c2,d2⟩⟩:=st;simp only[aN,eM,dB]at hc;rcases hc with rfl|rfl|rfl|rfl|rfl
  ·exact⟨_,hz,fun v e=>by cases(show Data.fields _=Data.cell v from e)⟩
  ·exact⟨_,y8,fun v e=>by cases(show Data.seq _ _=Data.cell v from e)⟩
  ·exact⟨_,Cf,fun v e=>by cases(show Data.seq _ _=Data.cell v from e)⟩
  ·exact⟨o1,e1,fun v e=>by rw[d1]at e;cases e⟩
  ·exact⟨o2,e2,fun v e=>by rw[d2]at e;cases e⟩
 keep:=fun i h h' st k=>by
  obtain⟨hz,y8,⟨p,q,Cf⟩,h1,h2⟩:=st;exact⟨k z (by repeat constructor) _ hz,k TI (by repeat constructor) _ y8,⟨p,q,k TO (by repeat constructor) _ Cf⟩,h1.at fun o e=>k i1 (by repeat constructor) o e,h2.at fun o e=>k i2 (by repeat constructor) o e⟩
 item:=by
  intro X hP hw hK hc i pins s σ H E I hf st hg;subst hP hw hK;refine OU fun P go=>?_
  obtain⟨xs,ys,x,y,MB,KN,hx,hy⟩:=hg;obtain⟨hz,y8,⟨p,q,Cf⟩,h1,h2⟩:=st;obtain⟨Ef,Rt,p1,_⟩:=I.tuple MB;obtain⟨wY,zc,p2,_⟩:=I.tuple KN;obtain⟨u1,Xc,Xd⟩:=Rt.get hx;obtain⟨u2,Xe,Xf⟩:=zc.get hy;have Ru:∀c∈[z,TI,TO,i1,i2],a≠c:=fun c m=>MB.apart I (hf c m);have Rv:∀c∈[z,TI,TO,i1,i2],b≠c:=fun c m=>KN.apart I (hf c m);refine go ?_
  refine Ce D hz y8 Cf h1 h2 (show s.heap.IsTuple a Ef.toArray from p1) (show s.heap.IsTuple b wY.toArray from p2) ⟨Ru _ (by repeat constructor),Ru _ (by repeat constructor),Ru _ (by repeat constructor),Ru _ (by repeat constructor)⟩ ⟨Rv _ (by repeat constructor),Rv _ (by repeat constructor),Rv _ (by repeat constructor),Rv _ (by repeat constructor)⟩
   (x:=u1) (y:=u2) (by simpa using Xc) (by simpa using Xe) fun dP g1 g2 g3 g4 g5 kk=>?_
  refine⟨_,rfl,wpAny_letOwnedTupleGo_zip g1 fun kL k1 sb=>?_⟩;have lt:∀{c:Addr} {o:Obj},s.heap.get? c=some o->s.heap.objs.size≠c:=fun e=>cy (ar e);have Xg:s.heap.objs.size≠z:=lt hz;have up:∀c o,c∉[z,TO,i1,i2]->s.heap.get? c=some o->kL.get? c=some o:=fun c o m e=>by
   simp only[aN,eM,dB,not_or]at m;exact sb.extBut _ _ m.1 (kk c o m.1 m.2.1 m.2.2.1 m.2.2.2 e)
  have BK:IsPair kL s.heap.objs.size u1 u2:=sb.extBut _ _ Xg g5;refine⟨.ref s.heap.objs.size,_,I.Cj (t':=s.toks) (ch:=[z,TO,i1,i2]) (T:=s.heap.objs.size) (o:=.tup [x,y]) (fun c m=>hf c ?_) up (ak _) ⟨by show 2<=sizeLine;decide,[u1,u2],.cons Xd (.cons Xf .nil),⟨_,BK,rfl,_,rfl,rfl⟩⟩,rfl,
   ⟨s.heap.objs.size,x,y,rfl,I.fresh,rfl,fun Xh h=>by rw[I.lJ h MB];exact hx,fun YS h=>by rw[I.lJ h KN];exact hy⟩,
   ⟨k1,sb.extBut _ _ D.TIz (kk _ _ D.TIz D.TITO D.TIi1 D.TIi2 y8),⟨u1,u2,sb.extBut _ _ D.TOz g2⟩,g3.extBut sb.extBut D.i1z,g4.extBut sb.extBut D.i2z⟩,fun c m=>?_⟩
  ·simp only[aN,eM,dB]at m;rcases m with rfl|rfl|rfl|rfl<;>repeat constructor
  ·rw[aj ?_]
   ·exact(hf c m).1
   ·simp only[aN,eM,dB]at m;obtain⟨o1,e1,_⟩:=h1;obtain⟨o2,e2,_⟩:=h2;rcases m with rfl|rfl|rfl|rfl|rfl
    ·exact(lt hz).symm
    ·exact(lt y8).symm
    ·exact(lt Cf).symm
    ·exact(lt e1).symm
    ·exact(lt e2).symm
 done:=by
  intro X hP hw hK hc i pins s σ H E I hf st hg;subst hP hw hK;obtain⟨xs,MB,hx⟩:=hg;obtain⟨hz,y8,⟨p,q,Cf⟩,h1,h2⟩:=st;obtain⟨Ef,Rt,p1,_⟩:=I.tuple MB;have hl:=Rt.length;refine Ed (I.ok.hd hc) D hz y8 Cf h1 (show s.heap.IsTuple a Ef.toArray from p1) (MB.apart I (hf z (by repeat constructor))) (by simp;omega) fun h' kk=>⟨rfl,?_⟩;refine I.Ck (t':=s.toks) (ch:=[z,i1]) (fun c m=>hf c ?_) fun c o m e=>?_
  ·simp only[aN,eM,dB]at m⊢;rcases m with h|h<;>simp[h]
  ·simp only[aN,eM,dB,not_or]at m;exact kk c o m.1 m.2 e
 self:=fun _ _ _ _ _ st h=>wpAny_pyIter_zip st.1 h
theorem KO(n:Nat):ZA (n+4) (n+2) (n+3) n (n+1):=⟨aM (by omega),aM (by omega),aM (by omega),aM (by omega),aM (by omega),cy (by omega),cy (by omega),cy (by omega),cy (by omega),aM (by omega)⟩
def Tj(K:PySem.W.Frag)(ta:TA):TI:=fun σ H R=>ta σ H fun vs H1=>∃a b xs ys,vs=[.ref a,.ref b]/\ir K H1 a xs/\ir K H1 b ys/\R (Ti K a b) H1
theorem Cm:bootBuiltins "zip"=some (.type "zip"):=by decide+kernel
theorem KQ{X:Cx}{es:List Expr}{x1:Nat}{nT:Pos}{a b:Expr}{ta:TA}{p pos:Pos}(hg:Gl X "zip")(hm:X.mg "zip"=none)(ha:PA X [a,b] ta)(hs:starEach [a,b] X.env=[(false,eval a X.env),(false,eval b X.env)]:=by rfl) (VC:starEach [b] X.env=[(false,eval b X.env)]:=by rfl):
  PI X (.Tuple es x1 nT) (.Call (.Name "zip" p) [a,b] [] pos) (Tj X.K ta):=by
 intro pins s σ H R I h;refine Call_ (oW I hg hm Cm (qT (eE (ha pos pins s σ H _ I h) fun us s1 ⟨vs,H1,I1,r1,q1⟩=>?_) (by rw[hs,VC]) (by rw[VC];rfl)));obtain⟨c,d,xs,ys,e,hc,hd,q⟩:=q1;subst e;obtain⟨u,v,rfl,ru,rv⟩:=vals2 r1;cases(show u=Value.ref c from ru);cases(show v=Value.ref d from rv);obtain⟨Ef,Rt,p1,_⟩:=I1.tuple hc;obtain⟨wY,zc,p2,_⟩:=I1.tuple hd;refine Ci (show s1.heap.IsTuple c Ef.toArray from p1) (show s1.heap.IsTuple d wY.toArray from p2) fun h' hz y8 Cf g1 g2 kk=>?_
 have I2:Inv X pins σ H1 {s1 with heap:=h'}:=I1.kept (t':=s1.toks) kk;refine wpAny_pyIter_zip hz ⟨s1.heap.objs.size+4,[s1.heap.objs.size+4,s1.heap.objs.size+2,s1.heap.objs.size+3,s1.heap.objs.size,s1.heap.objs.size+1],_,_,H1,rfl,I2,Ee (KO _),⟨hz,y8,⟨_,_,Cf⟩,g1,g2⟩,fun b m=>?_,q⟩;have hb:s1.heap.objs.size<=b:=by
  simp only[aN,eM,dB]at m;rcases m with rfl|rfl|rfl|rfl|rfl
  ·exact kc _ 4
  ·exact kc _ 2
  ·exact kc _ 3
  ·exact ak _
  ·exact kc _ 1
 exact I1.ua hb (I1.cp.fresh hb)
end L2
namespace L2
open PySem PySem.Spec PyProof.Rows
def Cn(us ws:List Tr):List Tr:=List.zipWith (fun a b=>.tup [a,b]) us ws
section
variable {X:Cx}{a b e:Expr}{pos p nT:Pos}{L:az->Rs (List Tr)}{es:List Expr}{x1:Nat}
theorem Co{K:PySem.W.Frag}{B:bZ}{H:Hp}{a b:Addr}{vs ws:List V}{ts us:List Tr}(h:ir K (aT B H) a vs)(r:aK K (aT B H) vs ts)(h2:ir K (aT B H) b ws)(r2:aK K (aT B H) ws us)(hl:ts.length<=us.length):jQ K B (Ti K a b) H (Cn ts us) where
 go:=fun i B' H' hi s hb=>by
  have qL:i<ts.length:=by unfold Cn at hi;rw[rf]at hi;omega
  have hv:i<vs.length:=by rw[r.length];exact qL
  have hw:i<ws.length:=by rw[r2.length];omega
  exact⟨vs,ws,vs[i],ws[i],ax.tup aE (s.h.tup h),ax.tup aE (s.h.tup h2),by simp[hv],by simp[hw]⟩
 zZ:=fun i B' H' x Gw hi s hb ⟨T,y,z,e1,e2,e3,q,q2⟩=>by
  subst e1 e3;obtain⟨t,et,rt⟩:=r.xi (q vs (ax.tup aE (s.h.tup h)));obtain⟨u,eu,ru⟩:=r2.xi (q2 ws (ax.tup aE (s.h.tup h2)));refine⟨ax.upd e2,.tup [t,u],by unfold Cn;rw[List.getElem?_zipWith,et,eu],.tup (hb.new e2) (.cons ((rt.same s).same (bc (ax.upd e2))) (.cons ((ru.same s).same (bc (ax.upd e2))) .nil))⟩
 stop:=fun B' H' s=>⟨vs,ax.tup aE (s.h.tup h),by unfold Cn;rw[rf,r.length];omega⟩
def Tn(l:Rs (List Tr)):Rs (List Tr):=l.bind fun ts=>match ts with
 |[.tup us,.tup ws]=>if us.length<=ws.length then .ok (Cn us ws)else .bad
 |_=>.bad
theorem OV(hm:X.mg "zip"=none)(ha:PA X [a,b] (Ah X L))(hg:Gl X "zip":=by rfl) (hs:bt [a,b]=true:=by rfl):PI X (.Tuple es x1 nT) (.Call (.Name "zip" p) [a,b] [] pos) (tI X fun ρ=>Tn (L ρ)):=
 (KQ hg hm ha (by rw[ba _ _ (aI hs).1,ba _ _ (aI (aI hs).2).1];rfl) (by rw[ba _ _ (aI (aI hs).2).1];rfl)).weak fun σ H R ⟨B,ρ,hb,r,q⟩=>⟨B,ρ,hb,r,q.bind.mono fun ts qt vs H1 s1 r1=>by
  split at qt
  ·obtain⟨x,y,e,h1,h2⟩:=sr r1;obtain⟨_,_,rfl,h,rr⟩:=h1.cZ;obtain⟨_,_,rfl,h',xu⟩:=h2.cZ;split at qt
   ·rename_i hl;exact⟨_,_,_,_,e,ax.tup aE h,ax.tup aE h',qt _ H1 s1 (Co h rr h' xu hl)⟩
   ·exact qt.elim
  ·exact qt.elim⟩
variable {F:az->Rs Tr}
def qz:List Tr->Rs (List String)
 |[]=>.ok []
 |.ty n::ts=>(qz ts).bind fun ns=>.ok (n::ns)
 |_::_=>.bad
theorem AE:∀{ts:List Tr} {ns:List String},qz ts=.ok ns->ts=ns.map Tr.ty
 |[],ns,h=>by cases h;rfl
 |t::ts,ns,h=>by
  cases t with
  |ty n=>
   cases e:qz ts with
   |ok ms=>
    rw[qz,e]at h;cases h;rw[AE e];rfl
   |exc c=>rw[qz,e]at h;cases h
   |bad=>rw[qz,e]at h;cases h
  |_=>cases h
theorem xD:∀{ts:List Tr} {c:Tr},qz ts≠ .exc c
 |[],c,h=>by cases h
 |t::ts,c,h=>by
  cases t with
  |ty n=>
   cases e:qz ts with
   |ok ms=>rw[qz,e]at h;cases h
   |exc c'=>exact xD e
   |bad=>rw[qz,e]at h;cases h
  |_=>cases h
theorem xE{K:PySem.W.Frag}{H:Vw}:∀{ns:List String} {vs:List V},aK K H vs (ns.map Tr.ty)->vs=ns.map V.ty
 |[],_,r=>by cases r;rfl
 |n::ns,_,r=>by
  cases r with
  |cons h r=>cases h;rw[xE r];rfl
theorem AG(K:PySem.W.Frag)(a:String)(ha:a∈["NoneType","bool","int","str","tuple","list","dict"]):∀(cs:List String),(∀c∈cs,c∈kinds)->PySem.W.kitAny K (.type a) (cs.map Value.type)=some (cs.any fun c=>a==c||(a=="bool"&&c=="int"))
 |[],_=>rfl
 |c::cs,h=>by
  have ih:=AG K a ha cs fun d m=>h d (aO _ m);have k1:=Au K a ha c (h c (aS ..));rw[aA,PySem.W.kitAny,k1,ih,g_];cases(a==c||(a=="bool"&&c=="int"))<;>rfl
def IK:List Tr->Rs Tr
 |[t,.tup cs]=>(qz cs).bind fun ns=>if Vy t=true/\ns.all (fun c=>kinds.contains c)=true then .ok (.bl (ns.any (Rj t)))else .bad
 |_=>.bad
theorem OW{K:PySem.W.Frag}{W:Vw}{H:Hp}{x:V}{t:Tr}(r:Rep K W x t)(f:Vy t=true):sy t∈["NoneType","bool","int","str","tuple","list","dict"]/\Iq x=true/\nU K H x (.type (sy t)):=by
 cases r with
 |cD=>exact⟨.head _,rfl,.cD⟩
 |bl b=>exact⟨.tail _ (.head _),rfl,.bl b⟩
 |int i=>exact⟨.tail _ (.tail _ (.head _)),rfl,.int i⟩
 |str z _=>exact⟨.tail _ (.tail _ (.tail _ (.head _))),rfl,.str z⟩
 |_=>cases f
theorem KR:jP X (.builtin "isinstance") IK:=by
 intro pins s σ H xs us Q I rv ⟨B,ts,hb,r,q⟩;unfold IK at q;split at q
 ·rename_i t cs;obtain⟨x1,x2,rfl,h1,h2⟩:=sr r;obtain⟨a,vs,rfl,h,rr⟩:=h2.cZ;cases e:qz cs with
  |exc c=>exact(xD e).elim
  |bad=>rw[e]at q;exact(show False from q).elim
  |ok ns=>
   rw[e]at q;have f:=gp q;have ec:=AE e;subst ec;have ev:=xE rr;subst ev;have mem:∀c∈ns,c∈kinds:=fun c m=>by
    have:=bG.mp f.1.2 c m;simpa using this
   obtain⟨ha,fx,tx⟩:=OW (H:=H) h1 f.1.1;refine BP pins s σ H _ us Q I rv ⟨_,_,ns,.type (sy t),_,rfl,fx,h.up,tx,AG X.K _ ha ns mem,?_⟩;have e2:(ns.any fun c=>sy t==c||(sy t=="bool"&&c=="int"))=ns.any (Rj t):=rfl;rw[e2];exact f.2 _ H (ax.refl H) (.bl _)
 ·exact(show False from q).elim
end
end L2
namespace L2
open PySem PySem.Spec PyProof.Rows
def To(K:PySem.W.Frag)(B:bZ)(H:Hp)(E:XK):Tr->Ab->Prop:=fun c A=>∀B' H',Grows B H B' H'->HA K B' A H'->E (Ox K c) none H'
inductive yC(K:PySem.W.Frag)(f:List Tr->Ab->Rz Tr)(vs:List V)(H:Hp)(Q:VK)(E:XK):Prop
 |mk (B:bZ) (A:Ab) (ts:List Tr):HA K B A H->aK K (aT B H) vs ts->(dG (To K B H E) (f ts A) fun t A'=>∀v B' H',Grows B H B' H'->HA K B' A' H'->Rep K (aT B' H') v t->Q v H')->yC K f vs H Q E
def eY(r:Rz Out):Rz Tr:=r.bind fun o A=>match o with
 |.nx _=>.ok .cD A
 |.ret t=>.ok t A
 |_=>.bad
theorem uf.yD {P:Program}{w:World}{K:PySem.W.Frag}{mg:Str->Option Value}{base:Heap}{x qual:Str}{st:Stmt}{f:Addr}{fd:FuncData}{N ps:List Str}{k:Nat}{h:List Tr->Ab->Rz Tr}(Fn:uf K x qual st f fd)(S:d0 N ps (aF st))(len:∀ts A,h ts A≠ .bad->ts.length=ps.length)
  (ib:∀(du:Value) (A:Around) (outer:List Env) (s:Shared) (H:Hp) (E:XK),dE k (A.deeper (envOfC qual (aF st) s.heap.objs.size f du))->
   ∃G,kD (jZ (t7 P w) P w K mg base N qual (aF st) f du A outer s H E) (dv st) (tZ (jZ (t7 P w) P w K mg base N qual (aF st) f du A outer s H E) G)/\∀ts A,h ts A≠ .bad->h ts A=eY (G (startT N.length ts) A)):ia P w K mg base (t7 P w) (k+1) f fd ps (yC K h):=by
 obtain⟨oc,od,kV,doc,pm,an,du,ct,z8,rfl,lk,qf⟩:=Fn.ex;have nb:∀{B:bZ} {A:Ab} {H:Hp} {E:XK} {ts:List Tr} {k:Tr->Ab->Prop},dG (To K B H E) (h ts A) k->h ts A≠ .bad:=fun{B A H E ts k} q z=>by rw[z]at q;exact q
 refine DB lk qf S (fun vs H Q E ⟨B,A,ts,ha,r,q⟩=>by rw[r.length];exact len ts A (nb q)) fun A outer s H vs Q E hr ⟨B,A1,ts,ha,r,q⟩=>?_
 obtain⟨G,hG,hE⟩:=ib du A outer s H E hr;refine⟨_,hG,B,H,B,A1,startT N.length ts,ha.hb,.refl,ha,bu.start r,my,?_⟩;rw[hE ts A1 (nb q)]at q;refine(dG.bind q).imp (fun c A2 z B' H' g dQ e s x=>xA x (z B' H' g dQ))|>.mono fun o A2 z=>?_
 cases o with
 |nx ρ=>exact fun cf B' H' g dQ r' n'=>z .cD B' H' g dQ .cD
 |ret t=>exact fun v B' H' g dQ r'=>z v B' H' g dQ r'
 |bk ρ=>exact(show False from z).elim
 |ct ρ=>exact(show False from z).elim
def oq(n m:Nat)(G:az->Ab->Rz Out)(ts:List Tr)(A:Ab):Rz Tr:=if ts.length=n then eY (G (startT m ts) A)else .bad
theorem sG{n m:Nat}{G:az->Ab->Rz Out}{ts:List Tr}{A:Ab}(h:oq n m G ts A≠ .bad):ts.length=n:=by
 unfold oq at h;by_cases z:ts.length=n
 ·exact z
 ·rw[af z]at h;exact absurd rfl h
theorem AH{n m:Nat}{G:az->Ab->Rz Out}{ts:List Tr}{A:Ab}(h:oq n m G ts A≠ .bad):oq n m G ts A=eY (G (startT m ts) A):=by
 unfold oq;rw[ab (sG h)]
section
variable {X:Cx}{o e:Expr}{es:List Expr}{p pos apos:Pos}{F:az->Ab->Rz Tr}{L:az->Ab->Rz (List Tr)}{h:List Tr->Ab->Rz Tr}{x:Str}{st:Stmt}{ps:List Str}{f:Addr}{fd:FuncData}{k:Nat}
theorem KU{B B1:bZ}{H H1:Hp}{A1:Ab}{vs:List V}{ts:List Tr}{Q:VK}(hb:HB B H)(g:Grows B H B1 H1)(ha:HA X.K B1 A1 H1)(r:aK X.K (aT B1 H1) vs ts)(q:dG (XE X B H) (h ts A1) fun t A'=>∀v B' H',Grows B H B' H'->HA X.K B' A' H'->Rep X.K (aT B' H') v t->Q v H'):yC X.K h vs H1 Q (EX X):=
 ⟨B1,A1,ts,ha,r,(q.imp fun c A' z=>z.grow hb g).mono fun t A' z v B' H' g' dQ rv=>z v B' H' (g.trans hb g') dQ rv⟩
theorem OX(D:uH X.K X.mg x st ps f fd)(G:ia X.prog X.w X.K X.mg X.base (t7 X.prog X.w) k f fd ps (yC X.K h))(hr:dE k X.A)(ha:PA X (e::es) (GW X L))(hx:X.ex=[]:=by rfl) (hg:Gl X x:=by rfl) (jA:(x==("__debug__":Str))=false:=by decide) (dD:bt (e::es)=true:=by rfl):
  PE X (.Call (.Name x p) (e::es) [] pos) (tE X fun ρ A=>(L ρ A).bind h):=
 (z7 (p:=p) (pos:=pos) G hr hg D.mg D.fn.kp D.bd .nil (BV hx) ha (jA:=jA) (he:=ba _ _ (aI dD).1) (oX:=cE (aI dD).2)).weak fun σ H Q ⟨B,A,ρ,ha,r,n,q⟩=>⟨B,A,ρ,ha,r,n,q.bind.mono fun ts A1 qt vs B1 H1 g1 iP r1=>by
  show yC X.K h (vs++[]) H1 Q (EX X);rw[dW];exact KU ha.hb g1 iP r1 qt⟩
variable {c m:Str}
end
end L2
namespace L2
open PySem PySem.Spec PyProof.Rows
abbrev VD:List Value:=[.type "ValueError",.type "Exception",.type "BaseException",.type "object"]
structure OY(K:PySem.W.Frag)(mg:Str->Option Value)(x:Str):Prop where
 mg:mg x=some (.ref (clsAt K x))
 ex:PySem.W.excIn K (clsAt K x) VD "ValueError.__new__"=true
theorem Cp{e o i:Expr}{p:Pos}{n:Nat}{env:Env}:swapsWith e (some (.Subscript o i p)) n env=pure false:=by cases e<;>rfl
structure OZ(K:PySem.W.Frag)(xs:List Str)(f:Str):Prop where
 all:∀x∈xs,Mq K (clsAt K x)/\JL K (clsAt K x) f
end L2
namespace L2
open PySem PySem.Spec PyProof.Rows
theorem AI{X:Cx}{H:Hp}{xc:Tr->Ab->Prop}{r:Rs Tr}{A:Ab}{k:Tr->Ab->Prop}(q:dG xc (vN r A) k):Fi X H r fun t=>uV t=true/\k t A:=by
 cases r with
 |ok t=>exact oj q
 |exc c=>exact(show False from q).elim
 |bad=>exact q
section
variable {X:Cx}{a b o i e value:Expr}{es:List Expr}{pos pos' p apos jB:Pos}{F G E:az->Ab->Rz Tr}{L:az->Ab->Rz (List Tr)}{h:Tr->Tr->Rs Tr}
def jG(h:Tr->Tr->Rs Tr)(a:Rz Tr)(b:Ab->Rz Tr):Rz Tr:=a.bind fun x A=>(b A).bind fun y A=>vN (h (bT 1 A x) (bT 1 A y)) A
theorem uY{σ:St}{H:Hp}{Q:VK}(q:tE X (fun ρ A=>jG h (F ρ A) (G ρ)) σ H Q):Mp (rT X h) (tE X F) (tE X G) σ H Q:=by
 obtain⟨B,A,ρ,ha,r,n,q⟩:=q;refine⟨B,A,ρ,ha,r,n,q.bind.mono fun x A1 qx v B1 H1 g1 iP rv=>⟨B1,A1,ρ,iP,r.grow n g1,n,((dG.bind qx).imp fun c A' z=>z.grow ha.hb g1).mono fun y A2 qy u B2 H2 g2 vO ru=>?_⟩⟩;refine⟨B2.un,bT 1 A2 x,bT 1 A2 y,xx vO.hb,fz vO 1 (rv.same g2.gA),fz vO 1 ru,(AI qy).mono fun t ⟨ft,k⟩ w H3 s3 md=>?_⟩;exact k w B2 H3 ((g1.trans ha.hb g2).trans ha.hb (.of s3)) (vO.same s3) (o9 (vO.same s3) md ft)
theorem O0{op:CmpOp}(ho:uI X (compareOp op) h)(h1:PE X a (tE X F))(h2:PE X b (tE X G))(hm:behindInMarks op b=false:=by first|exact kF _|rfl|with_unfolding_all rfl):PE X (.Compare a [op] [b] pos) (tE X fun ρ A=>jG h (F ρ A) (G ρ)):=(z5 ho h1 h2 hm).weak fun _ _ _ q=>uY q
def ou(r:Rz Tr):Rz Bool:=r.bind fun t A=>match t with
 |.bl b=>.ok b A
 |_=>.bad
theorem KY{op:CmpOp}(ho:uI X (compareOp op) h)(h1:PE X a (tE X F))(h2:PE X b (tE X G))(hm:behindInMarks op b=false:=by first|exact kF _|rfl|with_unfolding_all rfl):PT X (.Compare a [op] [b] pos) (D0 X fun ρ A=>ou (jG h (F ρ A) (G ρ))):=
 (z6 ho h1 h2 hm).weak fun σ H Q ⟨B,A,ρ,ha,r,n,q⟩=>by
  refine uY (Q:=fun x H'=>∃k,x=.bl k/\Q k H') ⟨B,A,ρ,ha,r,n,(dG.bind q).mono fun t A' qt v B' H' g' dQ rv=>?_⟩;cases rv with
  |bl b=>exact⟨b,rfl,qt B' H' g' dQ⟩
  |_=>exact(show False from qt).elim
def pU(h:List Tr->Rs Tr)(l:Rz (List Tr)):Rz Tr:=l.bind fun ts A=>vN (h (ts.map (bT 1 A))) A
theorem ze{h:List Tr->Rs Tr}{σ:St}{H:Hp}{Q:VK}(q:tE X (fun ρ A=>pU h (L ρ A)) σ H Q):Q7 (rC X h) (GW X L) σ H Q:=by
 obtain⟨B,A,ρ,ha,r,n,q⟩:=q;refine⟨B,A,ρ,ha,r,n,q.bind.mono fun ts A1 qt vs B1 H1 g1 iP rs=>?_⟩;exact⟨B1.un,ts.map (bT 1 A1),xx iP.hb,jl (fun r=>fz iP 1 r) rs,(AI qt).mono fun t ⟨ft,k⟩ w H3 s3 md=>k w B1 H3 (g1.trans ha.hb (.of s3)) (iP.same s3) (o9 (iP.same s3) md ft)⟩
theorem Eg{T:String}{x:Str}{h:List Tr->Rs Tr}(hc:jP X (.type T) h)(hm:X.mg x=none)(ha:PA X (e::es) (GW X L))(hv:bootBuiltins x=some (.type T):=by rfl) (hg:Gl X x:=by rfl) (hn:x≠"__name__":=by decide) (jA:(x==("__debug__":Str))=false:=by decide)
  (dD:bt (e::es)=true:=by rfl):PE X (.Call (.Name x p) (e::es) [] pos) (tE X fun ρ A=>pU h (L ρ A)):=
 (gQ hc hg hm hv ha hn jA (ba _ _ (aI dD).1) (cE (aI dD).2)).weak fun _ _ _ q=>ze q
end
end L2
namespace L2
open PySem PySem.Spec PyProof.Rows
end L2
namespace L2
open PySem PySem.Spec PyProof.Rows
theorem bu.none {K:PySem.W.Frag}{B:bZ}{H:Hp}{σ:St}:bu K B H σ (List.replicate σ.length .no):=by
 have no:∀(i:Nat) (c:Cell),(List.replicate σ.length Cell.no)[i]?=some c->c=.no:=fun i c e=>by
  rw[mO]at e;split at e
  ·exact(Option.some.inj e).symm
  ·cases e
 exact⟨mT,(fun i t e=>by cases no i _ e),(fun i ts e=>by cases no i _ e),(fun i j ts us D _ e=>by cases no i _ e)⟩
end L2
namespace L2
open PySem PySem.Spec PyProof.Rows
structure AJ(K:PySem.W.Frag)(mg:Str->Option Value)(c:Str)(xs:List Str):Prop where
 mg:mg c=some (.ref (clsAt K c))
 all:∀x∈xs,PySem.W.exmOne K (.ref (clsAt K x)) (.ref (clsAt K c))=some true
end L2
namespace L2
open PySem PySem.Spec PyProof.Rows
section
variable {X:Cx}{a b e:Expr}{es:List Expr}{pos:Pos}{F G:az->Rs Tr}{L:az->Rs (List Tr)}{A:az->Rs Bool}{scope:Scope}{N':List Str}{ix:List (Option Nat)}{elt iter tg:Expr}{ifs:List Expr}{T:j3}{W:az->Rs (List Tr)}
theorem zf{σ:St}{H:Hp}{Q:VK}(hT:gK T)(q:tF X (fun ρ=>iD ix T A F (W ρ) ρ) σ H Q):J_ (tJ X W) ix (GB X.K T) (GA X.K A) (Gz X.K F) σ H (fun v H'=>gr X H' (Q v)):=by
 obtain⟨B,ρ,hb,r,q⟩:=q;refine⟨B,ρ,hb,r,q.bind.mono fun ts qt J H1 tf gt D hD=>?_⟩;by_cases hz:ts.length<=ji
 ·rw[ab hz]at qt;exact nZ hT (nY ix ρ) (tf.hb hb) gt hz ((tf.y0 r).comp ix (ic hD)) hD (Fi.bind qt) fun ys H' k s' rp=>by
   obtain⟨Hu,su,ru,ku⟩:=tf.IF hb s';exact ku _ (k _ Hu su (ru rp) fun p e=>by cases e;exact .lst (tf.free hD) (ru rp))
 ·rw[af hz]at qt;exact qt.elim
theorem Eh{i:Nat}{x:Str}{px jf:Pos}(Lk:fL X N' ix scope)(hit:PI X tg iter (tJ X W))(j1:Iz X scope N' tg elt ifs T A F)(hT:gK T)(hN:X.N.Nodup:=by assumption) (hc:X.calm=true:=by rfl) (hi:X.N[i]?=some x:=by rfl) (hx:Loc X.env.scope x:=by first|exact Or.inl rfl|exact Or.inr rfl)
  (BO:swapsWith (.ListComp elt [⟨tg,iter,ifs,0⟩] scope pos) (some (.Name x px)) jf.line X.env=pure true:=by rfl) (hs:isSet iter=false:=by rfl) (hf:X.fn x=true\/X.env.scope.names.lookup x=some .local:=by first|exact .inl rfl|exact .inr rfl|assumption):
  PS X (.Assign [.Name x px] (.ListComp elt [⟨tg,iter,ifs,0⟩] scope pos) jf) (tZ X fun ρ A'=>cR i (fg (iD ix T A F (W (a_ A' ρ)) (a_ A' ρ)) A') ρ):=
 (sk Lk hc hN hi hx hit j1.Mx BO (dF hs) hf).KL.weak fun D σ H ⟨B0,H0,B,A',ρ,hb,g,ha,r,n,q⟩=>zf (Q:=fun v H'=>D.nx (σ.set i (some v)) H') hT (mr (F:=fun ρ=>iD ix T A F (W ρ) ρ) (ik (F:=fun ρ A'=>fg (iD ix T A F (W (a_ A' ρ)) (a_ A' ρ)) A') hb g ha r n q.bind fun t A2 v B' H' qt g' dQ r' rv _=>qt _ B' H' g' dQ (r'.set i rv) (n.set i t)))
end
end L2
namespace L2
open PySem PySem.Spec PySem.Calls PyProof.Rows PySem.W
structure O1(K:Frag)(D:Addr):Prop where
 ga:findIn K (.ref D) "__getattribute__"=some (some (.builtin "BaseException.__getattribute__"))
 gh:findIn K (.ref D) "__getattr__"=some none
 cl:findIn K (.ref D) "__class__"=some (some (.builtin "object.__class__"))
 ob:mroIn K D (.type "object")=some true
 be:mroIn K D (.type "BaseException")=some true
structure IL(K:Frag)(u:Value)(tab:List (Str×Bool)):Prop where
 all:∀x b,tab.lookup x=some b->kitOne K (.ref (clsAt K x)) u=some b/\O1 K (clsAt K x)/\(clsIn K (clsAt K x)).isSome=true
end L2
set_option maxRecDepth 6000
namespace L2
open PySem PySem.Spec PySem.Calls PyProof.Rows
def pk:Heap:={}
theorem eZ(b:Addr):pk.get? b=none:=by
 cases e:pk.get? b with
 |none=>rfl
 |some o=>exact absurd (ar e) (Nat.not_lt_zero _)
def zg(h:Heap)(L:Addr):List (Addr×Obj):=(List.range h.objs.size).filterMap fun b=>if b=L then none else(h.get? b).map fun o=>(b,o)
theorem zh{h:Heap}{L b:Addr}{o:Obj}:(b,o)∈zg h L↔b≠L/\h.get? b=some o:=by
 unfold zg;rw[iW];constructor
 ·rintro ⟨c,_,e⟩
  by_cases z:c=L
  ·rw[ab z]at e;cases e
  ·rw[af z]at e;cases q:h.get? c with
   |none=>rw[q]at e;cases e
   |some u=>rw[q]at e;cases e;exact⟨z,q⟩
 ·rintro ⟨n,e⟩
  exact⟨b,cC.mpr (ar e),by rw[af n,e];rfl⟩
section
variable {X:Cx}{pins:List (Addr×Obj)}{σ:St}{H:Hp}{s:Shared}
theorem Inv.xF {m:Str->Option Value}{h':Heap}{tk:Nat}(I:Inv X pins σ H s)(Xi:s.heap.Ns X.env.locals m)(hn:h'.Ns X.env.locals m)(kp:∀b o,b≠X.env.locals->s.heap.get? b=some o->h'.get? b=some o):Inv X pins σ H {s with heap:=h',toks:=tk}:=by
 obtain⟨m0,Xj,hl⟩:=id I.loc;have Dj:=I.Dj;have lo:∀{b:Addr} {o:Obj},X.fb.heap.get? b=some o->b≠X.env.locals:=fun{b o} e=>aM (bN (ar e) I.ok.above);have em:m0=m:=by
  obtain⟨o1,iT,YT,a1,b1,_,d1⟩:=Xj;obtain⟨o2,AK,YU,a2,b2,_,d2⟩:=Xi;rw[a1]at a2;cases a2;rw[b1]at b2;cases b2;funext x;rw[<-d1 x,<-d2 x]
 subst em;refine⟨I.ok,I.os,I.bare,⟨fun b o e n hb hx=>kp b o (lo e) (I.base.keep b o e n hb hx),fun b o e n hb hx=>?_,I.base.free,fun b o e hx=>?_,I.base.lS,I.base.jY,I.base.kC⟩,⟨m0,hn,fun j y v' e1 e2 e3=>?_⟩,fun y c e=>?_,I.free,I.gD,fun p hp=>?_,fun b u e=>?_,I.len⟩
 ·obtain⟨sl,e1⟩:=I.base.slot b o e n hb hx;exact⟨sl,kp b _ (lo e) e1⟩
 ·obtain⟨o',e1⟩:=I.base.there b o e hx;exact⟨o',kp b o' (lo e) e1⟩
 ·obtain⟨u',r',q⟩:=hl j y v' e1 e2 e3;refine⟨u',r',?_⟩;rcases q with⟨k,e⟩|⟨k,c,e,z⟩
  ·exact .inl ⟨k,e⟩
  ·obtain⟨oc,e5,e6⟩:=id z;exact .inr ⟨k,c,e,oc,kp c oc (Dj y c e) e5,e6⟩
 ·obtain⟨w',z⟩:=I.cell y c e;obtain⟨oc,e5,e6⟩:=id z;exact⟨w',oc,kp c oc (Dj y c e) e5,e6⟩
 ·obtain⟨e,n,ne,nf,d⟩:=I.pin p hp;exact⟨kp p.1 p.2 ne e,n,ne,nf,d⟩
 ·refine(I.cp b u e).ma (fun c w' hc q=>kp c w' ?_ q) (fun _ q=>q) fun _ _ q=>q
  rintro rfl
  rcases hc with rfl|hc
  ·rw[I.free]at e;cases e
  ·rw[I.free]at hc;cases hc
end
def jo:List Tr->Rs Tr
 |[.kN aD]=>.ok (.int aD.length)
 |ts=>GO ts
theorem mz{X:Cx}:jP X (.builtin "len") jo:=by
 intro pins s σ H xs us Q I rv ⟨B,ts,hb,r,q⟩;by_cases z:∃aD,ts=[.kN aD]
 ·obtain⟨aD,rfl⟩:=z;cases r with
  |cons h r=>
   cases r;cases h with
   |@kN a aw _ h ek rr=>
    obtain⟨u,rfl,ru⟩:=vals1 rv;cases ru;have hl:aw.length=aD.length:=by have:=bJ List.length ek;rw[ah,ah]at this;exact this
    exact Nt I (h.same aE) fun t s' I'=>⟨.int aw.length,H,I',⟨t,rfl⟩,(show∀v H',ax H H'->Rep X.K (aT B H') v (.int aD.length)->Q v H' from q) _ H (ax.refl H) (by rw[hl];exact .int _)⟩
 ·have e:jo ts=GO ts:=by
   unfold jo;split
   ·exact absurd ⟨_,rfl⟩ z
   ·rfl
  rw[e]at q;exact Ol pins s σ H xs us Q I rv ⟨B,ts,hb,r,q⟩
end L2
namespace L2
open PySem PySem.Spec PySem.Calls PyProof.Rows
theorem Cq:typeLookup (.type "list") "keys"=pure none:=by rw[nA,mX];kernel_rfl
section
variable {prog:Program}{w:World}{A:Around}{E:Value->Shared->Prop}{s:Shared}{a:Addr}{xs:Array Value}{k:Nat}{sl:Array (Option Value)}
theorem zi{Q:Option Value->Shared->Prop}(hx:s.heap.get? a=some {cls:=.type "list",dict:=none,data:=.seq xs k,slots:=sl}) (hA:A.handled=none)
  (h:∀h' tk,(∀b o,s.heap.get? b=some o->h'.get? b=some o)->Q none {s with heap:=h',toks:=tk}):wpAny (model prog w) A (getAttr? (.ref a) "keys") Q E s:=by
 obtain⟨hp,g,d,tk,os⟩:=s;have hT:∀uk,(⟨hp,g,d,uk,os⟩:Shared).TypeIs (.ref a) "list":=fun _=>⟨_,hx,rfl⟩;have f1:=sub_AttributeError;have f3:=ra.lookup;have f4:=ra.bind (.ref a);have f5:=am_list_getattr_none;unfold getAttr? getAttrBy? getAttrBy
 repeat(any_goals (first|assumption|exact hT _|((with_reducible show wpAny _ _ (call (Value.builtin "list.__getattribute__") _ _) _ _ _);refine jd ra (hT _) am_entry_list_getattribute (F.args_list_getattribute_2 _ _) (meets_getattribute_miss_list a xs k sl "keys" _ Cq (by decide+kernel) (by size_fits)) ⟨hx,hA,fun h' uk e Cd=>?_⟩)|wp_step))
 obtain⟨t',u',he⟩:=Cd.there;have Tp:∀uk,(⟨h',g,d,uk,os⟩:Shared).TypeIs (.ref e) "AttributeError":=fun _=>⟨_,he,rfl⟩;show wpAny _ _ (getattributeRaised _ _ _ _ _ _ _) _ _ _;unfold getattributeRaised
 repeat(any_goals (first|assumption|exact Tp _|wp_step))
 exact h h' uk Cd.of.keeps
theorem uZ:entryFor table "dict.update.loop"=some Builtin.«dict.update.loop»:=entryFor_of_tree (by kernel_rfl)
theorem jq:plainId "dict.update.loop"=true:=by decide+kernel
end
end L2
namespace L2
open PySem PySem.Spec PySem.Calls PyProof.Rows Builtin Builtin.ObjectAttr
structure O2(K:PySem.W.Frag)(f:Addr):Prop where
 get:PySem.W.specialIn K (.ref f) "__get__"=some (some (.builtin "function.__get__"))
 tk:PySem.W.takesIn K (.ref f)=some false
end L2
namespace L2
open PySem PySem.Spec PySem.Calls PyProof.Rows
def dg{α:Type}(n:Nat)(lt:Nat->Nat->Bool):PySem.W.KasT α->Option α
 |.ret a=>some a
 |.ask i j k=>if i<n/\j<n/\i≠j then dg n lt (k (lt i j))else none
theorem lP{α:Type}{n:Nat}{lt:Nat->Nat->Bool}{cmp:Nat->Nat->(Bool->Shared->Prop)->Shared->Prop}{Q:α->Shared->Prop}{s:Shared}(hc:∀i j C,i<n->j<n->i≠j->C (lt i j) s->cmp i j C s):∀(t:PySem.W.KasT α) {a:α},dg n lt t=some a->Q a s->t.kasWp cmp Q s
 |.ret b,a,e,h=>by cases e;exact h
 |.ask i j k,a,e,h=>by
  unfold dg at e;by_cases z:i<n/\j<n/\i≠j
  ·rw[ab z]at e;exact hc i j _ z.1 z.2.1 z.2.2 (lP hc (k (lt i j)) e h)
  ·rw[af z]at e;cases e
theorem Inv.adopt {X:Cx}{pins:List (Addr×Obj)}{σ:St}{H:Hp}{s:Shared}{b:Addr}{o:HO}(I:Inv X pins σ H s)(h0:X.fb.heap.objs.size<=b)(f:jy X pins H b)(new:bQ X.prog X.w (upd H b o) s.heap b o):Inv X pins σ (upd H b o) s:=by
 obtain⟨hn,hL,_,_,hC,hP⟩:=f;refine⟨I.ok,I.os,I.bare,⟨I.base.keep,I.base.slot,fun c u e n hx=>?_,I.base.there,fun c xs e=>?_,fun c u v e=>?_,fun c ps e=>?_⟩,I.loc,I.cell,?_,fun x c e=>?_,fun p hp=>?_,fun c u e=>?_,I.len⟩
 ·rw[aj (aM (bN (ar e) h0))];exact I.base.free c u e n hx
 ·have q:=I.base.lS c xs e;rw[aj (aQ q hn)];exact q
 ·have q:=I.base.jY c u v e;rw[aj (aQ q hn)];exact q
 ·obtain⟨more,q⟩:=I.base.kC c ps e;exact⟨more,by rw[aj (aQ q hn)];exact q⟩
 ·rw[aj hL.symm];exact I.free
 ·rw[aj (hC x c e)];exact I.gD x c e
 ·obtain⟨e,n,r⟩:=I.pin p hp;exact⟨e,by rw[aj (hP p hp)];exact n,r⟩
 ·by_cases z:c=b
  ·subst z;rw[aG]at e;cases e;exact new
  ·rw[aj z]at e;exact(I.cp c u e).ma (fun _ _ _ q=>q) (fun d q=>by rw[aj (aQ q hn)];exact q) fun d xs q=>by rw[aj (aQ q hn)];exact q
end L2
namespace L2
open PySem PySem.Spec PySem.Calls PyProof.Rows
section
variable {prog:Program}{w:World}{A:Around}{E:Value->Shared->Prop}{s:Shared}
theorem jU{a:Addr}{vs:List Value}{n:Nat}{P:PySem.Fin->Shared->Prop}(ho:s.heap.get? a=some (seqObj "list" vs.toArray n))(h2:vs.length<2)
  (h:∀h' c,(∀b o,b≠a->s.heap.get? b=some o->h'.get? b=some o)->h'.get? a=some (seqObj "list" vs.toArray c)->P (.done (.ret .none)) {s with heap:=h'}):
  wpAny (model prog w) A (Builtin.«list.sort» ⟨[.ref a],[]⟩) P E s:=by
 rw[list_sort_plain];have ha:a<s.heap.objs.size:=ar ho;refine aa (listItems_at ho rfl ?_);refine aa (jc ho rfl ?_ (by rw[bf,bH];omega) (bP _));obtain⟨e1,IM⟩:∃e1,(s.heap.update a (Obj.mapSeq fun _=>#[])).get? a=some (seqObj "list" #[] e1):=⟨_,nM ho (fun _=>#[])⟩;refine aa (seqEpoch_at IM rfl ?_);refine aa (nJ ?_ (by rw[bH];simp;omega));refine aa (kz ?_ (bP _));refine cn ?_
 have VE:(((s.heap.update a (Obj.mapSeq fun _=>#[])).push (seqObj "tuple" vs.toArray 0)).push (seqObj "list" #[] 0)).get? a=some (seqObj "list" #[] e1):=by
  rw[Heap.get?_push_ne _ _ _ (by rw[size_push',Heap.size_update];exact aM (f_ ha)),Heap.get?_push_ne _ _ _ (by rw[Heap.size_update];exact aM ha)];exact IM
 show wpAny (model prog w) A _ P E {s with heap:=((s.heap.update a (Obj.mapSeq fun _=>#[])).push (seqObj "tuple" vs.toArray 0)).push (seqObj "list" #[] 0)};dsimp only;have FN:vs.toArray.size<2:=by simpa using h2
 rw[ab FN,ab FN];refine aa (ae ?_);rw[StateT.run_pure];refine aa (ae ?_);dsimp only;refine aa (seqEpoch_at VE rfl ?_);refine aa (jc VE rfl ?_ (bP _) (by rw[Array.size_map];show(pairsOf vs).size<=_;rw[pairsOf_size,bH];omega));simp only[gW,aV,aR];refine ae ?_
 have eo:(vs.toArray.zip vs.toArray).map (·.2)=vs.toArray:=by
  apply Array.toList_inj.mp;simp only[Array.toList_map,Array.toList_zip];exact List.map_snd_zip (ak _)
 obtain⟨e,he⟩:=sortedHeap_at (out:=(vs.toArray.zip vs.toArray).map (·.2)) ho;refine h (sortedHeap s.heap a vs ((vs.toArray.zip vs.toArray).map (·.2))) e (fun b o hb q=>(sortedHeap_old hb (ar q)).trans q) ?_
 rw[he,eo]
end
def qM(h:Heap)(L D:Addr):List (Addr×Obj):=(zg h L).filter fun p=>decide (p.1≠D)
theorem cI{h:Heap}{L D b:Addr}{o:Obj}:(b,o)∈qM h L D↔b≠L/\b≠D/\h.get? b=some o:=by
 unfold qM;rw[cx,zh,ck];exact⟨fun z=>⟨z.1.1,z.2,z.1.2⟩,fun z=>⟨⟨z.1,z.2.2⟩,z.2.1⟩⟩
section
variable {X:Cx}
variable {o:Expr}{p1 apos jB pos:Pos}{F:az->Rs Tr}
theorem qN{K:PySem.W.Frag}{W:Vw}{f:Nat->V}{g:Nat->Tr}:∀{p:List Nat},(∀i∈p,Rep K W (f i) (g i))->aK K W (p.map f) (p.map g)
 |[],_=>.nil
 |i::p,h=>.cons (h i (aS ..)) (qN fun j m=>h j (aO _ m))
end
end L2
namespace L2
open PySem PySem.Spec PyProof.Rows
structure QE(X:Cx)(e:Expr)(F:az->Rs Tr):Prop where
 h:PE X e (tP X F)
structure QT(X:Cx)(e:Expr)(F:az->Rs Bool):Prop where
 h:PT X e (tQ X F)
structure QW(X:Cx)(e:Expr)(F:az->Rs Bool):Prop where
 h:PW X e (tQ X F)
structure QA(X:Cx)(e:List Expr)(F:az->Rs (List Tr)):Prop where
 h:PA X e (Ah X F)
structure QS(X:Cx)(e:Stmt)(F:az->Rs Out):Prop where
 h:PS X e (tS X F)
structure QB(X:Cx)(e:List Stmt)(F:az->Rs Out):Prop where
 h:kD X e (tS X F)
structure QG(X:Cx)(e:Expr)(F:j3):Prop where
 h:PG X e (tG X F)
structure O3(X:Cx)(e:List Expr)(F:List Tr->az->Rs az):Prop where
 h:FG X e (Mw X F)
structure QI(X:Cx)(tg e:Expr)(F:az->Rs (List Tr)):Prop where
 h:PI X tg e (tI X F)
structure QJ(X:Cx)(tg e:Expr)(F:az->Rs (List Tr)):Prop where
 h:PI X tg e (tJ X F)
structure QF(X:Cx)(e:List Expr)(F:az->Rs Bool):Prop where
 h:PF X e (tQ X F)
structure ZE(X:Cx)(e:Expr)(F:az->Ab->Rz Tr):Prop where
 h:PE X e (tE X F)
structure ZO(X:Cx)(e:Expr)(F:az->Ab->Rz Tr):Prop where
 h:PE X e (tE X F)
theorem FP{X:Cx}{e:Expr}{F:az->Ab->Rz Tr}(h:ZE X e F):ZO X e F:=⟨h.h⟩
structure NE(X:Cx)(e:Expr)(F:az->Rs Tr):Prop where
 h:PE X e (tF X F)
structure ZT(X:Cx)(e:Expr)(F:az->Ab->Rz Bool):Prop where
 h:PT X e (D0 X F)
structure ZL(X:Cx)(e:List Expr)(F:az->Ab->Rz (List Tr)):Prop where
 h:PA X e (GW X F)
structure ZS(X:Cx)(e:Stmt)(F:az->Ab->Rz Out):Prop where
 h:PS X e (tZ X F)
structure ZB(X:Cx)(e:List Stmt)(F:az->Ab->Rz Out):Prop where
 h:kD X e (tZ X F)
structure xG(X:Cx)(scope:Scope)(N':List Str)(tg elt:Expr)(ifs:List Expr)(T:j3)(A:az->Rs Bool)(F:az->Rs Tr):Prop where
 all:∀s H ex,QG (mG X scope N' s H ex) tg T/\QF (mG X scope N' s H ex) ifs A/\QE (mG X scope N' s H ex) elt F
theorem xG.to {X:Cx}{scope:Scope}{N':List Str}{tg elt:Expr}{ifs:List Expr}{T:j3}{A:az->Rs Bool}{F:az->Rs Tr}(b:xG X scope N' tg elt ifs T A F):Iz X scope N' tg elt ifs T A F:=
 ⟨fun s H ex=>⟨(b.all s H ex).1.h,(b.all s H ex).2.1.h,(b.all s H ex).2.2.h⟩⟩
section
variable {X:Cx}{a b c:Expr}{pos:Pos}{F G E:az->Rs Tr}
theorem ai(i:Nat){x:Str}{pos:Pos}(hN:X.N[i]?=some x:=by rfl) (hv:Jw X.env.scope x:=by first|exact Or.inl rfl|exact Or.inr (Or.inl rfl)|exact Or.inr (Or.inr rfl)) (hd:(x==("__debug__":Str))=false:=by decide) (qf:(x==("__classdict__":Str))=false:=by decide):QE X (.Name x pos) (fun ρ=>au ρ i):=⟨NO i hN hv hd qf⟩
theorem cg{i:Int}{j pos}:QE X (.Constant (.int i) j pos) (fun _=>.ok (.int i)):=⟨NP⟩
theorem Hf{b:Bool}{j pos}:QE X (.Constant (.bool b) j pos) (fun _=>.ok (.bl b)):=⟨S3⟩
theorem IP{j pos}:QE X (.Constant .none j pos) (fun _=>.ok .cD):=⟨NQ⟩
theorem xH{x:Str}{n:String}(hm:X.mg x=none)(hv:bootBuiltins x=some (.type n):=by rfl) (hg:Gl X x:=by rfl) (hn:x≠"__name__":=by decide) (hd:(x==("__debug__":Str))=false:=by decide):QE X (.Name x pos) (fun _=>.ok (.ty n)):=⟨S4 hm hv hg hn hd⟩
theorem e8{op:Operator}{h:Tr->Tr->Rs Tr}(ho:uI X (binaryOp op) h)(ha:QE X a F)(hb:QE X b G):QE X (.BinOp a op b pos) (fun ρ=>cO h (F ρ) (G ρ)):=⟨NR ho ha.h hb.h⟩
theorem Ei{op:CmpOp}{h:Tr->Tr->Rs Tr}(ho:uI X (compareOp op) h)(ha:QE X a F)(hb:QE X b G)(hm:behindInMarks op b=false:=by first|exact kF _|rfl|with_unfolding_all rfl):QE X (.Compare a [op] [b] pos) (fun ρ=>cO h (F ρ) (G ρ)):=⟨NS ho ha.h hb.h hm⟩
theorem jr{op:CmpOp}{h:Tr->Tr->Rs Tr}(ho:uI X (compareOp op) h)(ha:QE X a F)(hb:QE X b G)(hm:behindInMarks op b=false:=by first|exact kF _|rfl|with_unfolding_all rfl):QT X (.Compare a [op] [b] pos) (fun ρ=>kP (cO h (F ρ) (G ρ))):=⟨NU ho ha.h hb.h hm⟩
theorem u4(ha:QE X a F)(he:o5 a=true:=by rfl):QT X a (fun ρ=>(F ρ).bind qj):=⟨NW ha.h he⟩
end
section
variable {X:Cx}{a b c:Expr}{pos:Pos}{F G E:az->Rs Tr}{A B:az->Rs Bool}{rest:List Expr}
theorem IQ(ha:QT X a A):QT X (.UnaryOp .Not a pos) (fun ρ=>DP (A ρ)):=⟨NX ha.h⟩
theorem Ej(ha:QT X a A):QW X (.BoolOp .Or [a] pos) A:=⟨NY ha.h⟩
theorem KZ(ha:QT X a A)(hb:QW X (.BoolOp .Or (b::rest) pos) B):QW X (.BoolOp .Or (a::b::rest) pos) (fun ρ=>Mv (A ρ) (B ρ)):=⟨w_or ha.h hb.h⟩
theorem zj{op}{es:List Expr}(h:QW X (.BoolOp op es pos) A):QT X (.BoolOp op es pos) A:=⟨Ke h.h⟩
theorem Ek(ha:QE X a F)(hb:QE X (.BoolOp .And (b::rest) pos) G):QE X (.BoolOp .And (a::b::rest) pos) (fun ρ=>Kf (F ρ) (G ρ)):=⟨NZ ha.h hb.h⟩
theorem IS{op}(h:QE X a F):QE X (.BoolOp op [a] pos) F:=⟨N0 h.h⟩
end
section
variable {X:Cx}{a b c:Expr}{pos:Pos}{F G E:az->Rs Tr}{A B:az->Rs Bool}{rest:List Expr}{es:List Expr}{L:az->Rs (List Tr)}
theorem aX:QA X [] (fun _=>.ok []):=⟨N1⟩
theorem av(ha:QE X a F)(hr:QA X es L)(hs:isStar a=false:=by rfl):QA X (a::es) (fun ρ=>ag (F ρ) (L ρ)):=⟨Kg ha.h hr.h hs⟩
theorem lb{x1}(h:QA X es L):QE X (.Tuple es x1 pos) (fun ρ=>fc (L ρ)):=⟨N2 h.h⟩
theorem dw{id:String}{x:Str}{p:Pos}{e:Expr}{h:List Tr->Rs Tr}(hc:jP X (.builtin id) h)(hm:X.mg x=none)(ha:QA X (e::es) L)(hv:bootBuiltins x=some (.builtin id):=by rfl) (hg:Gl X x:=by rfl) (hn:x≠"__name__":=by decide) (jA:(x==("__debug__":Str))=false:=by decide) (dD:bt (e::es)=true:=by rfl):QE X (.Call (.Name x p) (e::es) [] pos) (fun ρ=>aL h (L ρ)):=⟨Gv hc hm ha.h hv hg hn jA dD⟩
theorem lg{T:String}{x:Str}{p:Pos}{e:Expr}{h:List Tr->Rs Tr}(hc:jP X (.type T) h)(hm:X.mg x=none)(ha:QA X (e::es) L)(hv:bootBuiltins x=some (.type T):=by rfl) (hg:Gl X x:=by rfl) (hn:x≠"__name__":=by decide) (jA:(x==("__debug__":Str))=false:=by decide) (dD:bt (e::es)=true:=by rfl):QE X (.Call (.Name x p) (e::es) [] pos) (fun ρ=>aL h (L ρ)):=⟨DQ hc hm ha.h hv hg hn jA dD⟩
theorem O4{x:Str}{st:Stmt}{ps:List Str}{f:Addr}{fd:FuncData}{k:Nat}{h:List Tr->Rs Tr}{e:Expr}{p:Pos}(D:uH X.K X.mg x st ps f fd)(G:ia X.prog X.w X.K X.mg X.base oS k f fd ps (spT X.K h))(hr:dE k X.A)(ha:QA X (e::es) L)(hg:Gl X x:=by rfl) (jA:(x==("__debug__":Str))=false:=by decide) (dD:bt (e::es)=true:=by rfl):QE X (.Call (.Name x p) (e::es) [] pos) (fun ρ=>aL h (L ρ)):=⟨N3 D G hr ha.h hg jA dD⟩
end
section
variable {X:Cx}{a b c e:Expr}{pos:Pos}{F:az->Rs Tr}{G G':az->Rs Out}{A:az->Rs Bool}{st:Stmt}{rest N4:List Stmt}
theorem xI:QB X [] (fun ρ=>.ok (.nx ρ)):=⟨N5⟩
theorem pq(h1:QS X st G)(h2:QB X rest G'):QB X (st::rest) (fun ρ=>xn (G ρ) G'):=⟨Kh h1.h h2.h⟩
theorem pV(h1:QS X st G):QB X [st] G:=⟨N6 h1.h⟩
theorem O5{i:Nat}{x:Str}{pos':Pos}(he:QE X e F)(hN:X.N.Nodup:=by assumption) (hi:X.N[i]?=some x:=by rfl) (hx:Loc X.env.scope x:=by first|exact Or.inl rfl|exact Or.inr rfl) (hs:mm e=false:=by rfl) (hf:X.fn x=true\/X.env.scope.names.lookup x=some .local:=by first|exact .inl rfl|exact .inr rfl|assumption):QS X (.Assign [.Name x pos'] e pos) (fun ρ=>Ki i (F ρ) ρ):=⟨N8 he.h hN hi hx hs hf⟩
theorem pW(he:QE X e F):QS X (.Return (some e) pos) (fun ρ=>sx (F ρ)):=⟨N9 he.h⟩
theorem El{ys ns:List Stmt}(hc:QT X c A)(ha:QB X ys G)(hb:QB X ns G'):QS X (.If c ys ns pos) (fun ρ=>N_ (A ρ) (G ρ) (G' ρ)):=⟨S6 hc.h ha.h hb.h⟩
theorem eV(i:Nat){x:Str}(hN:X.N.Nodup:=by assumption) (hi:X.N[i]?=some x:=by rfl) (hx:Loc X.env.scope x:=by first|exact Or.inl rfl|exact Or.inr rfl) (hf:X.fn x=true\/X.env.scope.names.lookup x=some .local:=by first|exact .inl rfl|exact .inr rfl|assumption):QG X (.Name x pos) (gN i):=⟨Kk i hN hi hx hf⟩
theorem IT:O3 X [] (uK []):=⟨Oa⟩
theorem sH{es:List Expr}{i:Nat}{is:List Nat}{x:Str}(h2:O3 X es (uK is))(hN:X.N.Nodup:=by assumption) (hi:X.N[i]?=some x:=by rfl) (hx:Loc X.env.scope x:=by first|exact Or.inl rfl|exact Or.inr rfl) (hf:X.fn x=true\/X.env.scope.names.lookup x=some .local:=by first|exact .inl rfl|exact .inr rfl|assumption) (hs:(assignEach (.Name x pos::es) X.env).map (·.2)=assign (.Name x pos) X.env::(assignEach es X.env).map (·.2):=by rfl):O3 X (.Name x pos::es) (uK (i::is)):=⟨Kl h2.h hN hi hx hf hs⟩
theorem O6{es:List Expr}{k:Nat}{is:List Nat}(h:O3 X es (uK is))(hc:X.calm=true:=by rfl) (hn:(assignEach es X.env).length=is.length:=by rfl) (dD:(assignEach es X.env).findIdx? (·.1)=none:=by rfl):QG X (.Tuple es k pos) (gT is):=⟨Ob h.h hc hn dD⟩
theorem u5{tg l:Expr}(hl:QE X l F):QI X tg l (fun ρ=>mn (F ρ)):=⟨Oc hl.h⟩
end
section
variable {X:Cx}{a b c e:Expr}{pos:Pos}{F:az->Rs Tr}{G G':az->Rs Out}{A:az->Rs Bool}{st:Stmt}{rest N4:List Stmt}{L:az->Rs (List Tr)}{tg:Expr}{p:Pos}
theorem sI(hm:X.mg "range"=none)(ha:QA X [a] L)(hg:Gl X "range":=by rfl) (hs:bt [a]=true:=by rfl):QI X tg (.Call (.Name "range" p) [a] [] pos) (fun ρ=>nX (L ρ)):=⟨DR hm ha.h hg hs⟩
end
section
variable {X:Cx}{a b c e:Expr}{pos:Pos}{F:az->Rs Tr}{G G':az->Rs Out}{A:az->Rs Bool}{st:Stmt}{rest N4:List Stmt}{L:az->Rs (List Tr)}{tg:Expr}{p:Pos}{scope:Scope}{N':List Str}{ix:List (Option Nat)}{elt iter:Expr}{ifs:List Expr}{T:j3}{W:az->Rs (List Tr)}
theorem AL{X:Cx}:QF X [] (fun _=>.ok true):=⟨Of⟩
theorem xJ{X:Cx}{c:Expr}{A:az->Rs Bool}(h:QT X c A):QF X [c] A:=⟨Og h.h⟩
theorem Hg(Lk:fL X N' ix scope)(hi:QI X tg iter W)(j1:xG X scope N' tg elt ifs T A F)(hT:gK T)(hc:X.calm=true:=by rfl) (hs:isSet iter=false:=by rfl):QE X (.ListComp elt [⟨tg,iter,ifs,0⟩] scope pos) (fun ρ=>iD ix T A F (W ρ) ρ):=⟨S9 Lk hi.h j1.to hT hc hs⟩
end
section
variable {X:Cx}{a b e:Expr}{pos:Pos}{F G:az->Rs Tr}
theorem Hh(hu:X.A.units+1<cLine)(ha:QE X a F)(hb:QE X b G)(hs:qF b:=by exact fun _ _=>rfl):QE X (.Subscript a b pos) (fun ρ=>cO Ku (F ρ) (G ρ)):=⟨Tb hu ha.h hb.h hs⟩
end
section
variable {X:Cx}{a b e:Expr}{pos p nT:Pos}{L:az->Rs (List Tr)}{es:List Expr}{x1:Nat}
theorem O7(hm:X.mg "zip"=none)(ha:QA X [a,b] L)(hg:Gl X "zip":=by rfl) (hs:bt [a,b]=true:=by rfl):QI X (.Tuple es x1 nT) (.Call (.Name "zip" p) [a,b] [] pos) (fun ρ=>Tn (L ρ)):=⟨OV hm ha.h hg hs⟩
end
section
variable {X:Cx}{pins:List (Addr×Obj)}{σ:St}{a b e:Expr}{es:List Expr}{pos:Pos}{F G:az->Rs Tr}{A:az->Rs Bool}{scope:Scope}{N':List Str}{ix:List (Option Nat)}{elt iter tg:Expr}{ifs:List Expr}{T:j3}{W:az->Rs (List Tr)}
theorem O8(Lk:fL X N' ix scope)(hi:QJ X tg iter W)(j1:xG X scope N' tg elt ifs T A F)(hT:gK T)(hc:X.calm=true:=by rfl) (hs:isSet iter=false:=by rfl):QE X (.ListComp elt [⟨tg,iter,ifs,0⟩] scope pos) (fun ρ=>iD ix T A F (W ρ) ρ):=⟨OG Lk hi.h j1.to hT hc hs⟩
end
section
variable {X:Cx}{e:Expr}{es:List Expr}{F:az->Rs Tr}{P:az->Rs Bool}{L:az->Rs (List Tr)}{FZ GZ:az->Ab->Rz Tr}{LZ:az->Ab->Rz (List Tr)}
theorem Tq(h:NE X e F):QE X e F:=⟨W5 h.h⟩
theorem aH(h:QE X e F):ZE X e (fun ρ A=>aq (F ρ) A):=⟨Kz h.h⟩
theorem AM(h:QT X e P):ZT X e (fun ρ A=>aq (P ρ) A):=⟨GX h.h⟩
theorem zk(h:QE X e F):ZE X e (fun ρ A=>vN (F (a_ A ρ)) A):=⟨KA h.h⟩
theorem qO(h:QT X e P):ZT X e (fun ρ A=>aq (P (a_ A ρ)) A):=⟨GY h.h⟩
theorem pX(h:NE X e F):ZE X e (fun ρ A=>fg (F (a_ A ρ)) A):=⟨Oy h.h⟩
end
section
variable {X:Cx}{a b c e:Expr}{pos:Pos}{F:az->Ab->Rz Tr}{G G':az->Ab->Rz Out}{P:az->Ab->Rz Bool}{st:Stmt}{rest N4:List Stmt}
theorem u6:ZB X [] (fun ρ A=>.ok (.nx ρ) A):=⟨Oz⟩
theorem bz(h1:ZS X st G)(h2:ZB X rest G'):ZB X (st::rest) (fun ρ A=>bS (G ρ A) G'):=⟨KC h1.h h2.h⟩
theorem eB(h1:ZS X st G):ZB X [st] G:=⟨OA h1.h⟩
theorem eK{i:Nat}{x:Str}{pos':Pos}(he:ZE X e F)(hN:X.N.Nodup:=by assumption) (hi:X.N[i]?=some x:=by rfl) (hx:Loc X.env.scope x:=by first|exact Or.inl rfl|exact Or.inr rfl) (hs:mm e=false:=by rfl) (hf:X.fn x=true\/X.env.scope.names.lookup x=some .local:=by first|exact .inl rfl|exact .inr rfl|assumption):ZS X (.Assign [.Name x pos'] e pos) (fun ρ A=>cR i (F ρ A) ρ):=⟨OB he.h hN hi hx hs hf⟩
theorem l8(he:ZE X e F):ZS X (.Return (some e) pos) (fun ρ A=>jF (F ρ A)):=⟨OC he.h⟩
theorem mB(he:ZE X e F)(hs:mm e=false:=by rfl):ZS X (.Expr e pos) (fun ρ A=>eJ (F ρ A) ρ):=⟨KD he.h hs⟩
theorem Cr{ys ns:List Stmt}(hc:ZT X c P)(h1:ZB X ys G)(h2:ZB X ns G'):ZS X (.If c ys ns pos) (fun ρ A=>BW (P ρ A) (G ρ) (G' ρ)):=⟨Tf hc.h h1.h h2.h⟩
theorem AN{tg iter:Expr}{body:List Stmt}{W:az->Rs (List Tr)}{T:j3}(hi:QI X tg iter W)(hg:QG X tg T)(hT:gK T)(hb:ZB X body G)(hp:PassesOwn (model X.prog X.w) X.A X.env X.xe:=by first|exact i_|exact i7) (hc:X.calm=true:=by rfl) (hs:isSet iter=false:=by rfl):ZS X (.For tg iter body [] pos) (fun ρ A=>jR T G (aq (W ρ) A) ρ):=⟨OD hi.h hg.h hT hb.h hp hc hs⟩
theorem AO(m:Nat){body:List Stmt}(hc:ZT X c P)(hb:ZB X body G)(hp:PassesOwn (model X.prog X.w) X.A X.env X.xe:=by first|exact i_|exact i7):ZS X (.While c body [] pos) (fun ρ A=>fA P G m ρ A):=⟨G0 m hc.h hb.h hp⟩
end
section
variable {X:Cx}{a e o:Expr}{es:List Expr}{F:az->Ab->Rz Tr}{L:az->Ab->Rz (List Tr)}{name:Str}{apos jB:Pos}{id:String}
theorem cN:ZL X [] (fun _ A=>.ok [] A):=⟨D3⟩
theorem bA(h1:ZE X a F)(hr:ZL X es L)(hs:isStar a=false:=by rfl):ZL X (a::es) (fun ρ A=>bR (F ρ A) (L ρ)):=⟨Ay h1.h hr.h hs⟩
end
section
variable {X:Cx}{a e o:Expr}{es:List Expr}{F:az->Ab->Rz Tr}{L:az->Ab->Rz (List Tr)}{name:Str}{apos jB:Pos}{id:String}{r:V->List V->Hp->VK->Prop}{h:Nat->List Tr->Ab->Rz Tr}
theorem pY(slot:Slot "list" name id)(Nm:typeOf (.builtin id)=pure (.type "method_descriptor"))(hm:Q9 X id r)(hz:Rl X r h)(ho:ZO X o F)(ha:ZL X (e::es) L)(pa:PlainAttrs "list":=by exact PySem.F.plainAttrs_list) (wZ:isCall o=false:=by rfl) (dD:bt (e::es)=true:=by rfl) (hn:(e::es).length<30:=by decide) (w4:(apos.endLine==jB.line)=true:=by rfl):ZE X (.Call (.Attribute o name apos) (e::es) [] jB) (fun ρ A=>uW h (F ρ A) (L ρ)):=⟨OE slot Nm hm hz ho.h ha.h pa wZ dD hn w4⟩
end
section
variable {X:Cx}{a b e:Expr}{es:List Expr}{pos:Pos}{F G:az->Rs Tr}{L:az->Rs (List Tr)}{A:az->Rs Bool}
theorem xK(h:QA X es L):NE X (.List es pos) (fun ρ=>vH (L ρ)):=⟨OF h.h⟩
theorem K4:NE X (.Dict [] [] pos) (fun _=>.ok (.bj [])):=⟨KI⟩
end
section
variable {X:Cx}{a b e:Expr}{es:List Expr}{pos:Pos}{F G:az->Rs Tr}{L:az->Rs (List Tr)}{A:az->Rs Bool}{scope:Scope}{N':List Str}{ix:List (Option Nat)}{elt iter tg:Expr}{ifs:List Expr}{T:j3}{W:az->Rs (List Tr)}
theorem Hi{i:Nat}{x:Str}{px jf:Pos}(Lk:fL X N' ix scope)(hit:QI X tg iter W)(j1:xG X scope N' tg elt ifs T A F)(hT:gK T)(hN:X.N.Nodup:=by assumption) (hc:X.calm=true:=by rfl) (hi:X.N[i]?=some x:=by rfl) (hx:Loc X.env.scope x:=by first|exact Or.inl rfl|exact Or.inr rfl) (BO:swapsWith (.ListComp elt [⟨tg,iter,ifs,0⟩] scope pos) (some (.Name x px)) jf.line X.env=pure true:=by rfl) (hs:isSet iter=false:=by rfl) (hf:X.fn x=true\/X.env.scope.names.lookup x=some .local:=by first|exact .inl rfl|exact .inr rfl|assumption):ZS X (.Assign [.Name x px] (.ListComp elt [⟨tg,iter,ifs,0⟩] scope pos) jf) (fun ρ A'=>cR i (fg (iD ix T A F (W (a_ A' ρ)) (a_ A' ρ)) A') ρ):=⟨G_ Lk hit.h j1.to hT hN hc hi hx BO hs hf⟩
theorem Hj{i:Nat}{x:Str}{px jf:Pos}(Lk:fL X N' ix scope)(hit:QI X tg iter W)(j1:xG X scope N' tg elt ifs T A F)(hT:gK T)(hN:X.N.Nodup:=by assumption) (hc:X.calm=true:=by rfl) (hi:X.N[i]?=some x:=by rfl) (hx:Loc X.env.scope x:=by first|exact Or.inl rfl|exact Or.inr rfl) (BO:swapsWith (.ListComp elt [⟨tg,iter,ifs,0⟩] scope pos) (some (.Name x px)) jf.line X.env=pure true:=by rfl) (hs:isSet iter=false:=by rfl) (hf:X.fn x=true\/X.env.scope.names.lookup x=some .local:=by first|exact .inl rfl|exact .inr rfl|assumption):ZS X (.Assign [.Name x px] (.ListComp elt [⟨tg,iter,ifs,0⟩] scope pos) jf) (fun ρ A'=>cR i (aq (iD ix T A F (W ρ) ρ) A') ρ):=⟨Ha Lk hit.h j1.to hT hN hc hi hx BO hs hf⟩
theorem lh{T:String}{x:Str}{p:Pos}{e:Expr}{h:List Tr->Rs Tr}(hc:gm X (.type T) (rF X h))(hm:X.mg x=none)(ha:QA X (e::es) L)(hv:bootBuiltins x=some (.type T):=by rfl) (hg:Gl X x:=by rfl) (hn:x≠"__name__":=by decide) (jA:(x==("__debug__":Str))=false:=by decide) (dD:bt (e::es)=true:=by rfl):NE X (.Call (.Name x p) (e::es) [] pos) (fun ρ=>aL h (L ρ)):=⟨D5 hc hm ha.h hv hg hn jA dD⟩
end
section
variable {X:Cx}{o e:Expr}{es:List Expr}{p pos apos:Pos}{F:az->Ab->Rz Tr}{L:az->Ab->Rz (List Tr)}{h:List Tr->Ab->Rz Tr}{x:Str}{st:Stmt}{ps:List Str}{f:Addr}{fd:FuncData}{k:Nat}
theorem O9(D:uH X.K X.mg x st ps f fd)(G:ia X.prog X.w X.K X.mg X.base (t7 X.prog X.w) k f fd ps (yC X.K h))(hr:dE k X.A)(ha:ZL X (e::es) L)(hx:X.ex=[]:=by rfl) (hg:Gl X x:=by rfl) (jA:(x==("__debug__":Str))=false:=by decide) (dD:bt (e::es)=true:=by rfl):ZE X (.Call (.Name x p) (e::es) [] pos) (fun ρ A=>(L ρ A).bind h):=⟨OX D G hr ha.h hx hg jA dD⟩
end
section
variable {X:Cx}{a b o i e value:Expr}{es:List Expr}{pos pos' p apos jB:Pos}{F G E:az->Ab->Rz Tr}{L:az->Ab->Rz (List Tr)}{h:Tr->Tr->Rs Tr}
theorem O_{op:CmpOp}(ho:uI X (compareOp op) h)(h1:ZE X a F)(h2:ZE X b G)(hm:behindInMarks op b=false:=by first|exact kF _|rfl|with_unfolding_all rfl):ZE X (.Compare a [op] [b] pos) (fun ρ A=>jG h (F ρ A) (G ρ)):=⟨O0 ho h1.h h2.h hm⟩
theorem vV{op:CmpOp}(ho:uI X (compareOp op) h)(h1:ZE X a F)(h2:ZE X b G)(hm:behindInMarks op b=false:=by first|exact kF _|rfl|with_unfolding_all rfl):ZT X (.Compare a [op] [b] pos) (fun ρ A=>ou (jG h (F ρ A) (G ρ))):=⟨KY ho h1.h h2.h hm⟩
theorem xM{T:String}{x:Str}{h:List Tr->Rs Tr}(hc:jP X (.type T) h)(hm:X.mg x=none)(ha:ZL X (e::es) L)(hv:bootBuiltins x=some (.type T):=by rfl) (hg:Gl X x:=by rfl) (hn:x≠"__name__":=by decide) (jA:(x==("__debug__":Str))=false:=by decide) (dD:bt (e::es)=true:=by rfl):ZE X (.Call (.Name x p) (e::es) [] pos) (fun ρ A=>pU h (L ρ A)):=⟨Eg hc hm ha.h hv hg hn jA dD⟩
end
section
variable {X:Cx}{a b e:Expr}{es:List Expr}{pos:Pos}{F G:az->Rs Tr}{L:az->Rs (List Tr)}{A:az->Rs Bool}{scope:Scope}{N':List Str}{ix:List (Option Nat)}{elt iter tg:Expr}{ifs:List Expr}{T:j3}{W:az->Rs (List Tr)}
theorem Em{i:Nat}{x:Str}{px jf:Pos}(Lk:fL X N' ix scope)(hit:QJ X tg iter W)(j1:xG X scope N' tg elt ifs T A F)(hT:gK T)(hN:X.N.Nodup:=by assumption) (hc:X.calm=true:=by rfl) (hi:X.N[i]?=some x:=by rfl) (hx:Loc X.env.scope x:=by first|exact Or.inl rfl|exact Or.inr rfl) (BO:swapsWith (.ListComp elt [⟨tg,iter,ifs,0⟩] scope pos) (some (.Name x px)) jf.line X.env=pure true:=by rfl) (hs:isSet iter=false:=by rfl) (hf:X.fn x=true\/X.env.scope.names.lookup x=some .local:=by first|exact .inl rfl|exact .inr rfl|assumption):ZS X (.Assign [.Name x px] (.ListComp elt [⟨tg,iter,ifs,0⟩] scope pos) jf) (fun ρ A'=>cR i (fg (iD ix T A F (W (a_ A' ρ)) (a_ A' ρ)) A') ρ):=⟨Eh Lk hit.h j1.to hT hN hc hi hx BO hs hf⟩
end
theorem uf.Xk {P:Program}{w:World}{K:PySem.W.Frag}{mg:Str->Option Value}{base:Heap}{x qual:Str}{st:Stmt}{f:Addr}{fd:FuncData}{N ps:List Str}{k:Nat}{h:List Tr->Rs Tr}(Fn:uf K x qual st f fd)(S:d0 N ps (aF st))(len:∀ts t,h ts=.ok t->ts.length=ps.length)
  (ib:∀(du:Value) (A:Around) (outer:List Env) (s:Shared) (H:Hp) (E:XK),dE k (A.deeper (envOfC qual (aF st) s.heap.objs.size f du))->
   ∃G,QB (jZ oS P w K mg base N qual (aF st) f du A outer s H E).C8 (dv st) G/\∀ts t,h ts=.ok t->kR (G (startT N.length ts))=.ok t):ia P w K mg base oS (k+1) f fd ps (spT K h):=
 Fn.WR S len fun du A outer s H E hr=>let⟨G,h,q⟩:=ib du A outer s H E hr;⟨G,h.h,q⟩
theorem uf.Ts {P:Program}{w:World}{K:PySem.W.Frag}{mg:Str->Option Value}{base:Heap}{x qual:Str}{st:Stmt}{f:Addr}{fd:FuncData}{N ps:List Str}{k:Nat}{h:List Tr->Rs Tr}(Fn:uf K x qual st f fd)(S:d0 N ps (aF st))(len:∀ts t,h ts=.ok t->ts.length=ps.length)
  (ib:∀(du:Value) (A:Around) (outer:List Env) (s:Shared) (H:Hp) (E:XK),dE k (A.deeper (envOfC qual (aF st) s.heap.objs.size f du))->
   ∃G,ZB (jZ oS P w K mg base N qual (aF st) f du A outer s H E).C8 (dv st) G/\∀ts t,h ts=.ok t->de ts=true/\fN (G (startT N.length ts) [])=.ok t):ia P w K mg base oS (k+1) f fd ps (spT K h):=
 Fn.W7 S len fun du A outer s H E hr=>let⟨G,h,q⟩:=ib du A outer s H E hr;⟨G,h.h,q⟩
theorem uf.Tt {P:Program}{w:World}{K:PySem.W.Frag}{mg:Str->Option Value}{base:Heap}{x qual:Str}{st:Stmt}{f:Addr}{fd:FuncData}{N ps:List Str}{k:Nat}{h:List Tr->Ab->Rz Tr}(Fn:uf K x qual st f fd)(S:d0 N ps (aF st))(len:∀ts A,h ts A≠ .bad->ts.length=ps.length)
  (ib:∀(du:Value) (A:Around) (outer:List Env) (s:Shared) (H:Hp) (E:XK),dE k (A.deeper (envOfC qual (aF st) s.heap.objs.size f du))->
   ∃G,ZB (jZ (t7 P w) P w K mg base N qual (aF st) f du A outer s H E) (dv st) G/\∀ts A,h ts A≠ .bad->h ts A=eY (G (startT N.length ts) A)):ia P w K mg base (t7 P w) (k+1) f fd ps (yC K h):=
 Fn.yD S len fun du A outer s H E hr=>let⟨G,h,q⟩:=ib du A outer s H E hr;⟨G,h.h,q⟩
end L2
namespace L2
open PySem PySem.Spec PyProof.Rows
def AQ:List Tr->Option (List Key)
 |[]=>some []
 |t::ts=>match GJ t,AQ ts with
  |some k,some ks=>some (k::ks)
  |_,_=>none
def pz:Tr->Option (List Key)
 |.tup ts=>AQ ts
 |_=>none
def jH(aD:List (List Key×Tr))(k:List Key):Option Tr:=(aD.find? fun kv=>decide (kv.1=k)).map (·.2)
section
variable {K:PySem.W.Frag}
theorem u7{H:Vw}:∀{ts:List Tr} {vs:List V} {ks:List Key},aK K H vs ts->AQ ts=some ks->vs=ks.map kV
 |[],_,_,r,e=>by cases e;cases r;rfl
 |t::ts,_,ks,r,e=>by
  cases r with
  |cons h r=>
   unfold AQ at e;split at e
   ·rename_i e1 e2;cases e;rw[Aq h e1,u7 r e2];rfl
   ·cases e
theorem lj{B:bZ}{H:Hp}{v:V}{t:Tr}{ks:List Key}(r:Rep K (aT B H) v t)(e:pz t=some ks):∃b,v=.ref b/\H b=some (.tup (ks.map kV)):=by
 unfold pz at e;split at e
 ·obtain⟨a,vs,rfl,h,rr⟩:=r.iN;have:=u7 rr e;subst this;exact⟨a,rfl,aE _ _ h⟩
 ·cases e
theorem sJ{H:Vw}(k:List Key):∀{aw:List (List Key×V)} {aD:List (List Key×Tr)},aw.map (·.1)=aD.map (·.1)->aK K H (aw.map (·.2)) (aD.map (·.2))->(jH aD k=none/\lU aw k=none)\/∃t v,jH aD k=some t/\lU aw k=some v/\Rep K H v t
 |[],[],_,_=>.inl ⟨rfl,rfl⟩
 |[],_::_,e,_=>by cases e
 |_::_,[],e,_=>by cases e
 |(k1,v1)::aw,(k2,t2)::aD,e,r=>by
  rw[aA,aA]at e;injection e with e1 e2
  have qJ:k1=k2:=e1;subst qJ;cases r with
  |cons h r=>
   by_cases q:k1=k
   ·refine .inr ⟨t2,v1,?_,kH q,h⟩;unfold jH;rw[dY,bF (show(k1,t2).1=k from q)]
    rfl
   ·rw[kI q];have e3:jH ((k1,t2)::aD) k=jH aD k:=by
     unfold jH;rw[dY,bg (show¬(k1,t2).1=k from q)]
    rw[e3];exact sJ k e2 r
theorem Rep.vW {H:Vw}{v:V}{aD:List (List Key×Tr)}(h:Rep K H v (.bj aD)):∃a aw,v=.ref a/\Rd H.H a (.dT aw)/\aw.map (·.1)=aD.map (·.1)/\aK K H (aw.map (·.2)) (aD.map (·.2)):=by
 cases h;exact⟨_,_,rfl,by assumption,by assumption,by assumption⟩
theorem IU{B:bZ}{H:Hp}{x y:V}{ty:Tr}{aD:List (List Key×Tr)}{k:List Key}(r:Rep K (aT B H) x (.bj aD))(r2:Rep K (aT B H) y ty)(ek:pz ty=some k):
  ∃a o,x=.ref a/\sg H a y o/\((jH aD k=none/\o=none)\/∃t v,jH aD k=some t/\o=some v/\Rep K (aT B H) v t):=by
 obtain⟨a,aw,rfl,h,e,rr⟩:=r.vW;obtain⟨b,rfl,hb⟩:=lj r2 ek;refine⟨a,_,rfl,.inr ⟨aw,k,b,h.same aE,rfl,hb,rfl⟩,?_⟩;rcases sJ k e rr with⟨h1,h2⟩|⟨t,v,h1,h2,h3⟩
 ·exact .inl ⟨h1,h2⟩
 ·exact .inr ⟨t,v,h1,h2,h3⟩
end
section
variable {X:Cx}{a b:Expr}{pos:Pos}{F G:az->Rs Tr}
def oU:Tr->Tr->Rs Tr
 |.bj aD,t=>(C' (pz t)).bind fun k=>C' (jH aD k)
 |_,_=>.bad
theorem O'(hu:X.A.units+1<cLine):Mu X (rT X oU):=by
 intro value slice pins s σ H x y v u Q I rx ry ⟨B,tx,ty,hb,r1,r2,q⟩ hs;unfold oU at q;split at q
 ·obtain⟨k,ek,qk⟩:=gL (Fi.bind q);obtain⟨t,et,qt⟩:=gL qk;obtain⟨a,o,rfl,g,ho⟩:=IU r1 r2 ek;rcases ho with⟨h1,_⟩|⟨t',w,h1,rfl,md⟩
  ·cases et.symm.trans h1
  ·cases et.symm.trans h1;cases(show v=Value.ref a from rx);exact tail_any (pN I g) qV.lookup (oZ hu I g ry fun w' s' I' rv=>⟨w,H,I',rv,qt w H (ax.refl H) md⟩) hs
 ·exact(show False from q).elim
theorem pZ(hu:X.A.units+1<cLine)(ha:QE X a F)(hb:QE X b G)(hs:qF b:=by exact fun _ _=>rfl):QE X (.Subscript a b pos) (fun ρ=>cO oU (F ρ) (G ρ)):=
 ⟨(Ip (O' hu) ha.h hb.h hs).weak fun _ _ _ q=>kO q⟩
def FQ:Tr->Tr->Rs Tr
 |x,.bj aD=>(C' (pz x)).bind fun k=>.ok (.bl (jH aD k).isSome)
 |_,_=>.bad
theorem IV(hu:X.A.units+1<cLine):uI X (compareOp .In) FQ:=by
 intro pins s σ H x y v u Q I rx ry ⟨B,tx,ty,hb,r1,r2,q⟩;unfold FQ at q;split at q
 ·obtain⟨k,ek,qk⟩:=gL (Fi.bind q);obtain⟨a,o,rfl,g,ho⟩:=IU r2 r1 ek;cases(show u=Value.ref a from ry);refine SO hu I g rx fun s' I'=>⟨.bl _,H,I',rfl,?_⟩;rcases ho with⟨h1,rfl⟩|⟨t',w,h1,rfl,_⟩<;>rw[h1]at qk<;>exact qk _ H (ax.refl H) (.bl _)
 ·exact(show False from q).elim
end
end L2
namespace L2
open PySem PySem.Spec PyProof.Rows
def lq(aD:List (List Key×Tr))(k:List Key)(t:Tr):List (List Key×Tr):=
 if(aD.any fun kv=>decide (kv.1=k))=true then aD.map (fun kv=>if kv.1=k then(kv.1,t)else kv)else aD++[(k,t)]
def lr(aD more:List (List Key×Tr)):List (List Key×Tr):=more.foldl (fun acc kv=>lq acc kv.1 kv.2) aD
structure di(K:PySem.W.Frag)(H:Vw)(aw:List (List Key×V))(aD:List (List Key×Tr)):Prop where
 keys:aw.map (·.1)=aD.map (·.1)
 vals:aK K H (aw.map (·.2)) (aD.map (·.2))
section
variable {K:PySem.W.Frag}{H H':Vw}
theorem di.nil:di K H [] []:=⟨rfl,.nil⟩
theorem di.same {aw:List (List Key×V)}{aD:List (List Key×Tr)}(s:cJ H H')(h:di K H aw aD):di K H' aw aD:=⟨h.keys,h.vals.same s⟩
theorem di.cons {k:List Key}{v:V}{t:Tr}{aw:List (List Key×V)}{aD:List (List Key×Tr)}(r:Rep K H v t)(h:di K H aw aD):di K H ((k,v)::aw) ((k,t)::aD):=⟨by rw[aA,aA,h.keys],.cons r h.vals⟩
theorem di.inv {k:List Key}{v:V}{aw:List (List Key×V)}{aD:List (List Key×Tr)}(h:di K H ((k,v)::aw) aD):∃t r,aD=(k,t)::r/\Rep K H v t/\di K H aw r:=by
 obtain⟨e,r⟩:=h
 match aD,e,r with
 |(k2,t)::rest,e,r=>
  rw[aA,aA]at e;injection e with e1 e2
  have qJ:k=k2:=e1;subst qJ;cases r with
  |cons h1 h2=>exact⟨t,rest,rfl,h1,e2,h2⟩
theorem di.any (k:List Key):∀{aw:List (List Key×V)} {aD:List (List Key×Tr)},di K H aw aD->(aw.any fun kv=>decide (kv.1=k))=aD.any fun kv=>decide (kv.1=k)
 |[],aD,h=>by
  have e:=h.keys;cases aD with
  |nil=>rfl
  |cons a b=>cases e
 |(j,v)::aw,aD,h=>by
  obtain⟨t,r,rfl,_,h2⟩:=h.inv;rw[g_,g_,di.any k h2]
theorem di.map (k:List Key){y:V}{u:Tr}(ry:Rep K H y u):∀{aw:List (List Key×V)} {aD:List (List Key×Tr)},di K H aw aD->di K H (aw.map fun kv=>if kv.1=k then(kv.1,y)else kv) (aD.map fun kv=>if kv.1=k then(kv.1,u)else kv)
 |[],aD,h=>by
  have e:=h.keys;cases aD with
  |nil=>exact .nil
  |cons a b=>cases e
 |(j,v)::aw,aD,h=>by
  obtain⟨t,r,rfl,h1,h2⟩:=h.inv;rw[aA,aA];by_cases e:j=k
  ·rw[ab (show(j,v).1=k from e),ab (show(j,t).1=k from e)];exact .cons ry (di.map k ry h2)
  ·rw[af (show¬(j,v).1=k from e),af (show¬(j,t).1=k from e)];exact .cons h1 (di.map k ry h2)
theorem di.snoc (k:List Key){y:V}{u:Tr}(ry:Rep K H y u):∀{aw:List (List Key×V)} {aD:List (List Key×Tr)},di K H aw aD->di K H (aw++[(k,y)]) (aD++[(k,u)])
 |[],aD,h=>by
  have e:=h.keys;cases aD with
  |nil=>exact .cons ry .nil
  |cons a b=>cases e
 |(j,v)::aw,aD,h=>by
  obtain⟨t,r,rfl,h1,h2⟩:=h.inv;exact .cons h1 (di.snoc k ry h2)
theorem di.put (k:List Key){y:V}{u:Tr}(ry:Rep K H y u){aw:List (List Key×V)}{aD:List (List Key×Tr)}(h:di K H aw aD):di K H (putK aw k y) (lq aD k u):=by
 unfold putK lq;rw[h.any k];by_cases e:(aD.any fun kv=>decide (kv.1=k))=true
 ·rw[ab e,ab e];exact h.map k ry
 ·rw[af e,af e];exact h.snoc k ry
theorem di.length {aw:List (List Key×V)}{aD:List (List Key×Tr)}(h:di K H aw aD):aw.length=aD.length:=by
 have e:=bJ List.length h.keys;rw[ah,ah]at e;exact e
end
def p7(A:Ab)(t tk tv:Tr):Option Ab:=match t,pz tk with
 |.at i,some k=>match A[i]? with
  |some (.bj aD)=>if aD.length<ji then some (A.set i (.bj (lq aD k tv)))else none
  |_=>none
 |_,_=>none
def IW(v:Rz Tr)(o k:Ab->Rz Tr)(ρ:az):Rz Out:=v.bind fun tv A=>(o A).bind fun t A=>(k A).bind fun tk A=>match p7 A t tk tv with
 |some A'=>.ok (.nx ρ) A'
 |none=>.bad
theorem sL{A A':Ab}{t tk tv:Tr}(e:p7 A t tk tv=some A'):∃j aD key,t=.at j/\pz tk=some key/\A[j]?=some (.bj aD)/\aD.length<ji/\A'=A.set j (.bj (lq aD key tv)):=by
 unfold p7 at e;split at e
 ·rename_i ek;split at e
  ·rename_i eo;split at e
   ·rename_i hl;cases e;exact⟨_,_,_,rfl,ek,eo,hl,rfl⟩
   ·cases e
  ·cases e
 ·cases e
section
variable {X:Cx}{o i value:Expr}{pos pos':Pos}{F G E:az->Ab->Rz Tr}
theorem Hk(hu:X.A.units+1<cLine)(ho:ZO X o F)(hi:ZE X i G)(hv:ZE X value E):
  ZS X (.Assign [.Subscript o i pos'] value pos) (fun ρ A=>IW (E ρ A) (F ρ) (G ρ) ρ):=
 ⟨(Gg hu ho.h hi.h hv.h Cp).weak fun D σ H ⟨B0,H0,B,A,ρ,hb,g,ha,r,n,q⟩=>ik hb g ha r n q.bind fun tv A1 v B1 H1 q1 g1 iP r1 rv _=>ik hb g1 iP r1 n (dG.bind q1) fun t A2 w B2 H2 q2 g2 vO r2 md Tu=>ik hb g2 vO r2 n (dG.bind q2) fun tk A3 y B3 H3 q3 g3 BX r3 ry Pa=>by
   have Xl:=md.same Pa.gA;have Xm:=(rv.same Tu.gA).same Pa.gA;split at q3
   ·rename_i ed;obtain⟨j,aD,key,rfl,ek,eo,hl,rfl⟩:=sL ed;obtain⟨c,rfl,t9⟩:=Xl.sv;obtain⟨hd,aw,h1,h2,h3⟩:=BX.get t9 eo;have h2:di X.K (aT B3 H3) aw aD:=⟨h2,h3⟩;obtain⟨b,rfl,eb⟩:=lj ry ek;have hp:=h2.put key Xm;obtain⟨g4,h6⟩:=BX.write (o:=.bj (lq aD key tv)) (u:=.dT (putK aw key v)) t9 ⟨hd,_,aG,hp.keys,by rw[lN hd];exact hp.vals⟩;exact⟨c,_,rfl,vB.t h1 eb (by rw[h2.length,<-iO];exact hl),q3 σ B3 _ (g3.trans hb g4) h6 (r3.grow n g4) n⟩
   ·exact q3.elim⟩
end
end L2
namespace L2
open PySem PySem.Spec PyProof.Rows
def En(A:Ab)(t tk:Tr):Option Int:=match t,pz tk with
 |.at i,some k=>match A[i]? with
  |some (.bj aD)=>match jH aD k with
   |some (.int n)=>some n
   |_=>none
  |_=>none
 |_,_=>none
theorem Cs{A:Ab}{t tk:Tr}{n:Int}(e:En A t tk=some n):∃j aD key,t=.at j/\pz tk=some key/\A[j]?=some (.bj aD)/\jH aD key=some (.int n):=by
 unfold En at e;split at e
 ·rename_i ek;split at e
  ·rename_i eo;split at e
   ·rename_i ev;cases e;exact⟨_,_,_,rfl,ek,eo,ev⟩
   ·cases e
  ·cases e
 ·cases e
def Eo(o k v:Ab->Rz Tr)(ρ:az)(A:Ab):Rz Out:=(o A).bind fun t A=>(k A).bind fun tk A=>match En A t tk with
 |some n=>(v A).bind fun tv A=>match tv with
  |.int c=>match p7 A t tk (.int (n - c))with
   |some A'=>.ok (.nx ρ) A'
   |none=>.bad
  |_=>.bad
 |none=>.bad
section
variable {X:Cx}{o i value:Expr}{pos pos':Pos}{F G E:az->Ab->Rz Tr}
theorem Hl(hu:X.A.units+1<cLine)(ho:ZO X o F)(hi:ZE X i G)(hv:ZE X value E)(ha:∀ov iv new,augStore i ov iv new=(do holding [new,ov,iv] (setItem ov iv new);release [new,ov,iv] [];pure .next):=by intros;rfl):
  ZS X (.AugAssign (.Subscript o i pos') .Sub value pos) (fun ρ A=>Eo (F ρ) (G ρ) (E ρ) ρ A):=
 ⟨(Gh hu ho.h hi.h hv.h JO ha).weak fun D σ H ⟨B0,H0,B,A,ρ,hb,g,ha,r,n,q⟩=>ik hb g ha r n q.bind fun t A1 w B1 H1 q1 g1 iP r1 md _=>ik hb g1 iP r1 n (dG.bind q1) fun tk A2 y B2 H2 q2 g2 vO r2 ry Tu=>by
   have Xn:=md.same Tu.gA;split at q2
   ·rename_i m em;obtain⟨j,aD,key,rfl,ek,eo,ev⟩:=Cs em;obtain⟨c,rfl,t9⟩:=Xn.sv;obtain⟨hd,aw,h1,h2,h3⟩:=vO.get t9 eo;obtain⟨b,rfl,eb⟩:=lj ry ek;rcases sJ key h2 h3 with⟨z1,_⟩|⟨t',v,z1,z2,rv⟩
    ·cases ev.symm.trans z1
    ·cases ev.symm.trans z1;cases rv.int_inv;refine⟨c,_,rfl,by have:=sg.t h1 eb;rw[z2]at this;exact this,ik hb g2 vO r2 n (dG.bind q2) fun tv A3 u B3 H3 q3 g3 BX r3 ru Pa=>?_⟩;split at q3
     ·rename_i cc;refine⟨m,cc,rfl,ru.int_inv,?_⟩;split at q3
      ·rename_i ed;obtain⟨j',Pb,Xo,ej,Xp,Xq,hl,rfl⟩:=sL ed;cases ej;cases ek.symm.trans Xp;have Pc:=Pa.gA.x _ _ t9;obtain⟨VF,Pd,f1,f2,f3⟩:=BX.get Pc Xq;have f2:di X.K (aT B3 H3) Pd Pb:=⟨f2,f3⟩;have hp:=f2.put key (.int (m - cc));obtain⟨b',Xr,Xs⟩:=lj (ry.same Pa.gA) ek;cases Xr;obtain⟨g4,h6⟩:=BX.write (o:=.bj (lq Pb key (.int (m - cc)))) (u:=.dT (putK Pd key (.int (m - cc)))) Pc ⟨VF,_,aG,hp.keys,by rw[lN VF];exact hp.vals⟩;exact⟨_,vB.t f1 Xs (by rw[f2.length,<-iO];exact hl),q3 σ B3 _ (g3.trans hb g4) h6 (r3.grow n g4) n⟩
      ·exact q3.elim
     ·exact q3.elim
   ·exact q2.elim⟩
end
end L2
namespace L2
open PySem PySem.Spec PyProof.Rows
def K5(i:Nat)(r:Ab->Rz Tr)(ρ:az)(A:Ab):Rz Out:=match au ρ i with
 |.ok (.int n)=>(r A).bind fun t A=>match t with
  |.int c=>.ok (.nx (ρ.set i (.sh (.int (n+c))))) A
  |_=>.bad
 |_=>.bad
section
variable {X:Cx}{e:Expr}{pos pos':Pos}{F:az->Ab->Rz Tr}
theorem K6(i:Nat){x:Str}(he:ZE X e F)(hN:X.N.Nodup:=by assumption) (hi:X.N[i]?=some x:=by rfl) (hx:Loc X.env.scope x:=by first|exact Or.inl rfl|exact Or.inr rfl) (hf:X.fn x=true\/X.env.scope.names.lookup x=some .local:=by first|exact .inl rfl|exact .inr rfl|assumption):
  ZS X (.AugAssign (.Name x pos') .Add e pos) (fun ρ A=>K5 i (F ρ) ρ A):=
 ⟨(JD hN hi hx he.h JN hf).weak fun D σ H ⟨B0,H0,B,A,ρ,hb,g,ha,r,n,q⟩=>by
   unfold K5 at q;split at q
   ·rename_i m em;have e1:ρ[i]?=some (.sh (.int m)):=by
     unfold au at em;split at em
     ·rename_i h;cases em;exact h
     ·cases em
    obtain⟨v,ev,rv⟩:=r.sh i _ e1;cases rv.int_inv;refine⟨_,ev,ik hb g ha r n q.bind fun t A1 w B1 H1 q1 g1 iP r1 md _=>?_⟩;split at q1
    ·rename_i c;exact⟨m,c,rfl,md.int_inv,q1 _ B1 H1 g1 iP (r1.set i (.int (m+c))) (n.set i _)⟩
    ·exact q1.elim
   ·exact q.elim⟩
end
end L2
namespace L2
open PySem PySem.Spec PyProof.Rows
section
variable {prog:Program}{w:World}{A:Around}{E:Value->Shared->Prop}{s:Shared}{d it:Addr}{o:Obj}{es:Array DictEntry}{ep i:Nat}
theorem xN{Q:Value->Shared->Prop}(T:s.TypeIs (.ref d) "dict")(nd:(d==sysModules)=false)(e1:s.heap.get? d=some o)(e2:o.data=.dict es ep)
  (q:Q (.ref s.heap.objs.size) {s with heap:=s.heap.push {cls:=.type "dict_keyiterator",data:=.fields #[.ref d,.int 0 0,.int es.size 0,.int ep 0]}}):wpAny (model prog w) A (pyIter (.ref d)) Q E s:=by
 refine rP T F.slot_dict_iter (dN F.slot_dict_iter T F.entry_dict_iter ?G (F.args_dict_iter_1 _))
 case G=>
  unfold Builtin.«dict.__iter__»;refine aa ?G2
  case G2=>
   unfold Builtin.Dict.dictSlotNone;refine aa (wpAny_notOrdered_dict T (show wpAny _ _ (pure (Value.ref d)) _ _ s from ae ?G3))
   case G3=>
    show wpAny _ _ (Builtin.Dict.showsAll d>>=_) _ _ s;unfold Builtin.Dict.showsAll;rw[af (fun z=>by rw[nd]at z;cases z)];refine aa (ae (aa (rQ e1 e2 (aa (wpAny_dictEpoch e1 e2 (aa (fX (ae ⟨_,rfl,"dict_keyiterator",_,⟨_,aU _ rfl,rfl⟩,j5.lookup,?_⟩))))))));simpa[rawInt]using q
theorem xO{Q:Option Value->Shared->Prop}(st:s.heap.IsKeyIter it d i es.size ep)(e1:s.heap.get? d=some o)(e2:o.data=.dict es ep)(hi:i<es.size)
  (q:∀h',h'.IsKeyIter it d (i+1) es.size ep->Heap.SameBut it s.heap h'->Q (some es[i].key) {s with heap:=h'}):wpAny (model prog w) A (pyNext (.ref it)) Q E s:=by
 have T:=st.typeIs;obtain⟨oi,f1,f2,f3⟩:=id st;unfold pyNext;refine aa (hU (iz (name:=Str.ofString "__next__") T j5 (dN j5 T F.entry_dict_keyiterator_next ?G (F.args_dict_keyiterator_next_1 _))))
 case G=>
  refine aa (ae (aa (aa ?G2)))
  case G2=>
   first|refine aa (mK T (ae (aa (ja f1 f3 ?G3))))|refine aa (mS T (ae (aa (ja f1 f3 ?G3))))
   case G3=>
    simp only[show Builtin.Dict_items.ownsTuple "dict_keyiterator"=false by decide,aV,aR];show wpAny _ _ (if(Value.ref d==Value.none)=true then _ else _) _ _ s;rw[af (fun z=>by cases z)];refine aa (ae (aa (rQ e1 e2 ?G4)))
    case G4=>
     rw[af (by simp)];refine aa (ae (aa (wpAny_dictEpoch e1 e2 ?G5)))
     case G5=>
      rw[af (by simp)];refine ae ?G6
      case G6=>
       have n0:¬((i:Int)<0):=by omega
       simp only[n0,aR,fk,bV hi];have uc:(s.heap.update it (Obj.mapFields (·.setIfInBounds 1 (rawInt ((i:Int)+1))))).IsKeyIter it d (i+1) es.size ep:=
        ⟨_,iA _ f1 (Obj.isFreed_of_fields (m_ f3 _)),(Obj.cls_mapFields ..).trans f2,by rw[m_ f3];simp[rawInt]⟩
       refine aa ?G7
       case G7=>
        first|refine aa (mK T (ae (aa (ri T ?G8))))|refine aa (mS T (ae (aa (ri T ?G8))))
        case G8=>
         show wpAny _ _ (setField (.ref it) 1 (rawInt ((i:Int)+1))>>=_) _ _ s;refine aa (kq f1 f3 (by simp) (aa (cn (aa (ri (s:={s with heap:=s.heap.update it (Obj.mapFields (·.setIfInBounds 1 (rawInt ((i:Int)+1))))}) uc.typeIs ?G9)))))
         case G9=>
          show wpAny _ _ (pure es[i].key) _ _ _;exact ae (ae ⟨_,rfl,ae (q _ uc (dS ..))⟩)
theorem AR{Q:Option Value->Shared->Prop}(hh:A.handled=none)(st:s.heap.IsKeyIter it d i es.size ep)(e1:s.heap.get? d=some o)(e2:o.data=.dict es ep)(hi:es.size<=i)
  (q:∀h',Heap.ExtBut it s.heap h'->Q none {s with heap:=h'}):wpAny (model prog w) A (pyNext (.ref it)) Q E s:=by
 have T:=st.typeIs;obtain⟨oi,f1,f2,f3⟩:=id st;unfold pyNext;refine aa (hU (iz (name:=Str.ofString "__next__") T j5 (dN j5 T F.entry_dict_keyiterator_next ?G (F.args_dict_keyiterator_next_1 _))))
 case G=>
  refine aa (ae (aa (aa ?G2)))
  case G2=>
   first|refine aa (mK T (ae (aa (ja f1 f3 ?G3))))|refine aa (mS T (ae (aa (ja f1 f3 ?G3))))
   case G3=>
    simp only[show Builtin.Dict_items.ownsTuple "dict_keyiterator"=false by decide,aV,aR];show wpAny _ _ (if(Value.ref d==Value.none)=true then _ else _) _ _ s;rw[af (fun z=>by cases z)];refine aa (ae (aa (rQ e1 e2 ?G4)))
    case G4=>
     rw[af (by simp)];refine aa (ae (aa (wpAny_dictEpoch e1 e2 ?G5)))
     case G5=>
      rw[af (by simp)];refine ae ?G6
      case G6=>
       have n0:¬((i:Int)<0):=by omega
       simp only[n0,aR,fk,Array.getElem?_eq_none hi];refine aa ?G7
       case G7=>
        first|refine aa (mK T (ae ?G8))|refine aa (mS T (ae ?G8))
        case G8=>
         show wpAny _ _ (setField (.ref it) 0 .none>>=_) _ _ s;refine aa (kq f1 f3 (by simp) (show wpAny _ _ (newExc (.type "StopIteration") []>>=_) _ _ _ from aa ?G9))
         case G9=>
          simp only[newExc,newTuple];refine aa (fX (aa (m:=firstArgMember _ _) (wpAny_of_eq (a:=Value.none) (by first|rfl|(simp only[firstArgMember];rfl)) (fX ?Xt (by size_fits)))) (by size_fits))
          case Xt=>
           simp only[raiseNew];refine aa (wpAny_handled ?Xu)
           case Xu=>
            rw[show A.in1.handled=none from hh];refine aa (ae (wpAny_throw ?Xv))
            case Xv=>
             refine aa (i9 (T:="StopIteration") (b:=true) ⟨_,aU _ rfl,rfl⟩ nH (ae (q _ (((dS ..).extBut.push _).push _))))
end
end L2
namespace L2
open PySem PySem.Spec PyProof.Rows
def Tv(a:Addr)(o:Obj)(aw:List (List Key×V)):It:=
 ⟨fun i H=>H a=some (.gk o (.dT aw))/\i<aw.length,fun i H x H'=>H'=H/\∃k v b,aw[i]?=some (k,v)/\x=.ref b/\H b=some (.tup (k.map kV)),fun i H=>H a=some (.gk o (.dT aw))/\aw.length<=i⟩
theorem zl{H:Hp}:∀{aw:List (List Key×V)} {xs:List (List Key×Addr×Value)},KT H aw xs->∀{i:Nat} {x:List Key×Addr×Value},xs[i]?=some x->∃v,aw[i]?=some (x.1,v)/\H x.2.1=some (.tup (x.1.map kV))
 |_,_,.nil,_,_,e=>by simp at e
 |(k,v)::_,_,.cons h t,i,x,e=>by
  cases i with
  |zero=>
   simp at e;subst e;obtain⟨h1,h2,_⟩:=h;have Ct:k=_:=h1;subst Ct;exact⟨v,rfl,h2⟩
  |succ j=>exact zl t (by simpa using e)
theorem Ep{P:Program}{w:World}{K:PySem.W.Frag}{tg:Expr}(a it:Addr)(o:Obj)(aw:List (List Key×V))(es:Array DictEntry)(ep:Nat)(hd:o.data=.dict es ep):Turn P w K tg (Tv a o aw) [it] it (fun i h=>h.IsKeyIter it a i es.size ep) where
 mem:=by simp
 obj:=fun i h st b hb=>by
  have e:b=it:=by simpa using hb
  subst e;obtain⟨o,e,c,d⟩:=st;exact⟨o,e,fun v z=>by rw[d]at z;cases z⟩
 keep:=fun i h h' st k=>by
  obtain⟨o,e,c⟩:=st;exact⟨o,k it (by simp) o e,c⟩
 item:=by
  intro X hP hw hK hc i pins s σ H E I hf st ⟨hg,hi⟩;subst hP hw hK;obtain⟨ho,hz,hs,xs,rel,o',FX,vw,h1,h2,h3,h4,h5⟩:=(show bQ X.prog X.w H s.heap a (.gk o (.dT aw))from I.cp a _ hg);rw[ho]at h1;cases h1;rw[hd]at h3;cases h3;obtain⟨f0,f1,f2,f3,f4,f5⟩:=hf it (by simp);have hl:aw.length=xs.length:=Paired.length rel;have hsz:es.size=xs.length:=by rw[<-bq,h4,ah]
  have qL:i<es.size:=by rw[hsz,<-hl];exact hi
  have hx:xs[i]?=some xs[i]:=aB (by rw[<-hl];exact hi)
  obtain⟨v,ek,eb⟩:=zl rel hx;have key:es[i].key=Value.ref xs[i].2.1:=by
   have:es.toList[i]?=some (entryOfKey (tupleKind (ay X.prog X.w)) xs[i]):=by rw[h4,aP,hx];rfl
   rw[cu,bV qL]at this;rw[Option.some.inj this];rfl
  refine xO st ho hd qL fun h' uc sb=>?_
  have I1:Inv X pins σ H {s with heap:=h'}:=I.turned (t':=s.toks) (fun b o hb e=>(sb.2 b hb).trans e) f0 f1 f3 f4 f5;obtain⟨oi,e,c,d⟩:=id uc;exact⟨_,rfl,wW (s:={s with heap:=h'}) e c d (by decide) ⟨.ref xs[i].2.1,H,I1,key,⟨rfl,_,_,_,ek,rfl,eb⟩,uc,fun b hb=>(hf b hb).1⟩⟩
 done:=by
  intro X hP hw hK hc i pins s σ H E I hf st ⟨hg,hi⟩;subst hP hw hK;obtain⟨ho,hz,hs,xs,rel,o',FX,vw,h1,h2,h3,h4,h5⟩:=(show bQ X.prog X.w H s.heap a (.gk o (.dT aw))from I.cp a _ hg);rw[ho]at h1;cases h1;rw[hd]at h3;cases h3;obtain⟨f0,f1,f2,f3,f4,f5⟩:=hf it (by simp);have hl:aw.length=xs.length:=Paired.length rel;have hsz:es.size=xs.length:=by rw[<-bq,h4,ah]
  exact AR (I.ok.hd hc) st ho hd (by rw[hsz,<-hl];exact hi) fun h' eb=>⟨rfl,I.turned (t':=s.toks) (fun b o hb e=>eb b o hb e) f0 f1 f3 f4 f5⟩
 self:=fun _ _ _ _ _ st h=>wpAny_pyIter_keyiter st h
def Er(aD:List (List Key×Tr)):Rs (List Tr):=if aD.all (fun p=>p.1.all keyOk)=true then .ok (aD.map fun p=>.tup (p.1.map oo))else .bad
def qA(r:Rs Tr):Rs (List Tr):=r.bind fun t=>match t with
 |.bj aD=>Er aD
 |_=>.bad
theorem u9{K:PySem.W.Frag}{W:Vw}:∀{k:List Key},k.all keyOk=true->aK K W (k.map kV) (k.map oo)
 |[],_=>.nil
 |a::k,h=>by
  rw[hJ,aJ]at h;exact .cons (B8 h.1) (u9 h.2)
theorem Cu{K:PySem.W.Frag}{B:bZ}{H:Hp}{a:Addr}{o:Obj}{aw:List (List Key×V)}{aD:List (List Key×Tr)}(h:(aT B H).H a=some (.gk o (.dT aw)))(e:aw.map (·.1)=aD.map (·.1))(hk:aD.all (fun p=>p.1.all keyOk)=true):jQ K B (Tv a o aw) H (aD.map fun p=>.tup (p.1.map oo)):=by
 have hl:aw.length=aD.length:=by have q:=bJ List.length e;rw[ah,ah]at q;exact q
 refine⟨fun i B' H' hi s hb=>⟨aE _ _ (s.h _ _ h),by rw[ah]at hi;rw[hl];exact hi⟩,fun i B' H' x Gw hi s hb ⟨eh,k,v,b,ek,ex,eb⟩=>?_,fun B' H' s=>⟨aE _ _ (s.h _ _ h),by rw[ah,hl];exact ak _⟩⟩;subst eh ex;have e1:(aw.map (·.1))[i]?=some k:=by rw[aP,ek];rfl
 rw[e,aP]at e1;cases e2:aD[i]? with
 |none=>rw[e2]at e1;cases e1
 |some p=>
  rw[e2]at e1;have e3:p.1=k:=Option.some.inj e1;refine⟨ax.refl _,.tup (k.map oo),by rw[aP,e2,<-e3];rfl,.tup (hb.tup eb) (u9 ?_)⟩;rw[<-e3];exact bG.mp hk p (bw e2)
section
variable {X:Cx}{pins:List (Addr×Obj)}{σ:St}
theorem Pe{tg l:Expr}{F:az->Rs Tr}(hl:PE X l (tP X F)):PI X tg l (tJ X fun ρ=>qA (F ρ)):=by
 intro pins s σ H R I ⟨B,ρ,hb,r,q⟩;refine eE (hl pins s σ H (fun x H1=>∃(a:Addr) (aw:List (List Key×V)) (aD:List (List Key×Tr)),x=.ref a/\ax H H1/\Rd (aT B H1).H a (.dT aw)/\aw.map (·.1)=aD.map (·.1)/\aD.all (fun p=>p.1.all keyOk)=true/\∀J H',vP X B H H'->jQ X.K B J H' (aD.map fun p=>.tup (p.1.map oo))->R J H') I ⟨B,ρ,hb,r,q.bind.mono fun t qt v H1 s1 r1=>?_⟩) fun v s1 ⟨x,H1,I1,r1,a,aw,aD,ex,sm,rd,ek,hk,k⟩=>?_
 ·skip
  split at qt
  ·obtain⟨a,aw,e0,h,e,rr⟩:=r1.vW;obtain⟨z,q1⟩:=gp qt;exact⟨a,aw,_,e0,s1,h,e,z,q1⟩
  ·exact qt.elim
 ·subst ex;cases r1;have VG:Rd H1 a (.dT aw):=rd.same aE;have hv:B.hd a=false:=by
   cases z:B.hd a with
   |false=>rfl
   |true=>
    have n:(aT B H1).H a=none:=by show(if B.hd a=true then none else H1 a)=none;rw[ab z]
    rcases rd with h|⟨o,h⟩<;>(rw[n]at h;cases h)
  obtain⟨hz,hs,xs,rel,o,es,ep,h1,h2,h3,h4,h5⟩:=(show bQ X.prog X.w H1 s1.heap a (.dT aw)from VG.ok I1.cp);refine xN ⟨o,h1,h2.1⟩ hs h1 h3 ?_
  have fin:∀{H2:Hp},Inv X pins σ H2 s1->H2 a=some (.gk o (.dT aw))->vP X B H H2->Q2 X pins σ tg R (.ref s1.heap.objs.size) {s1 with heap:=s1.heap.push {cls:=.type "dict_keyiterator",data:=.fields #[.ref a,.int 0 0,.int es.size 0,.int ep 0]}}:=fun{H2} I2 e2 tf=>
   ⟨s1.heap.objs.size,[s1.heap.objs.size],_,Tv a o aw,H2,rfl,I2.kept (t':=s1.toks) fun b o e=>aC _ e,Ep a _ o aw es ep h3,⟨_,aU _ rfl,rfl,rfl⟩,fun b hb=>by
    have e:b=s1.heap.objs.size:=by simpa using hb
    subst e;exact I2.ua (ak _) (I2.cp.fresh (ak _)),k _ H2 tf (Cu (by rw[c_ hv];exact e2) ek hk)⟩
  rcases VG with e1|⟨o',e1⟩
  ·refine fin (I1.frozen e1 (.t _) h1) aG (.inr ⟨H1,a,o,_,.t aw,sm,hv,e1,rfl,fun o' u e0=>?_⟩);have q:=I1.base.jY a o' u e0;rw[e1]at q;cases q
  ·have eo:o'=o:=by
    have q:=(show bQ X.prog X.w H1 s1.heap a (.gk o' (.dT aw))from I1.cp a _ e1).1;rw[h1]at q;cases q;rfl
   subst eo;exact fin I1 e1 (.inl sm)
theorem AS{tg l:Expr}{F:az->Rs Tr}(hl:QE X l F):QJ X tg l (fun ρ=>qA (F ρ)):=⟨Pe hl.h⟩
end
end L2
namespace L2
open PySem PySem.Spec PySem.Calls PyProof.Rows
theorem zm:typeLookup (.type "tuple") "keys"=pure none:=by rw[nA,mX];kernel_rfl
def jI(xs more:List (List Key×Addr×Value)):List (List Key×Addr×Value):=more.foldl (fun acc p=>storedH acc p.1 p.2.1 p.2.2) xs
theorem xQ(xs:List (List Key×Addr×Value))(k:List Key)(b:Addr)(u:Value):(storedH xs k b u).length<=xs.length+1:=by
 unfold storedH;split
 ·rw[ah];omega
 ·rw[aY];exact ak _
section
variable {prog:Program}{w:World}{A:Around}{E:Value->Shared->Prop}{s:Shared}
theorem xR{a:Addr}{xs:Array Value}{k:Nat}{sl:Array (Option Value)}{Q:Option Value->Shared->Prop}(hx:s.heap.get? a=some {cls:=.type "tuple",dict:=none,data:=.seq xs k,slots:=sl}) (hA:A.handled=none)
  (h:∀h' tk,(∀b o,s.heap.get? b=some o->h'.get? b=some o)->Q none {s with heap:=h',toks:=tk}):wpAny (model prog w) A (getAttr? (.ref a) "keys") Q E s:=by
 obtain⟨hp,g,d,tk,os⟩:=s;have hT:∀uk,(⟨hp,g,d,uk,os⟩:Shared).TypeIs (.ref a) "tuple":=fun _=>⟨_,hx,rfl⟩;have f1:=sub_AttributeError;have f3:=q_.lookup;have f4:=q_.bind (.ref a);have f5:=am_tuple_getattr_none;unfold getAttr? getAttrBy? getAttrBy
 repeat(any_goals (first|assumption|exact hT _|((with_reducible show wpAny _ _ (call (Value.builtin "tuple.__getattribute__") _ _) _ _ _);refine jd q_ (hT _) am_entry_tuple_getattribute (F.args_tuple_getattribute_2 _ _) (meets_getattribute_miss_tuple a xs k sl "keys" _ zm (by decide+kernel) (by size_fits)) ⟨hx,hA,fun h' uk e Cd=>?_⟩)|wp_step))
 obtain⟨t',u',he⟩:=Cd.there;have Tp:∀uk,(⟨h',g,d,uk,os⟩:Shared).TypeIs (.ref e) "AttributeError":=fun _=>⟨_,he,rfl⟩;show wpAny _ _ (getattributeRaised _ _ _ _ _ _ _) _ _ _;unfold getattributeRaised
 repeat(any_goals (first|assumption|exact Tp _|wp_step))
 exact h h' uk Cd.of.keeps
structure Rw(prog:Program)(w:World)(A:Around)(h0:Heap)(I:Addr)(items:List Value)(It:Nat->Heap->Prop):Prop where
 keep:∀{i h h'},It i h->(∀o,h.get? I=some o->h'.get? I=some o)->It i h'
 item:∀{i:Nat} {s:Shared} {x:Value} {E:Value->Shared->Prop} {Q:Option Value->Shared->Prop},It i s.heap->(∀b o,h0.get? b=some o->s.heap.get? b=some o)->items[i]?=some x->(∀h',It (i+1) h'->Heap.SameBut I s.heap h'->Q (some x) {s with heap:=h'})->wpAny (model prog w) A (pyNext (.ref I)) Q E s
 stop:∀{i:Nat} {s:Shared} {E:Value->Shared->Prop} {Q:Option Value->Shared->Prop},A.handled=none->It i s.heap->(∀b o,h0.get? b=some o->s.heap.get? b=some o)->items.length<=i->(∀h',(∀b o,b≠I->s.heap.get? b=some o->h'.get? b=some o)->Q none {s with heap:=h'})->wpAny (model prog w) A (pyNext (.ref I)) Q E s
theorem Hm{h0:Heap}{l I:Addr}{items:List Value}(hl:h0.IsList l items.toArray):Rw prog w A h0 I items (fun i h=>h.IsListIter I l i):=by
 have Pf:∀{h:Heap},(∀b o,h0.get? b=some o->h.get? b=some o)->h.IsList l items.toArray:=fun{h} k=>by obtain⟨o,e,x⟩:=hl;exact⟨o,k _ _ e,x⟩
 exact⟨fun⟨o,e,x⟩ k=>⟨o,k _ e,x⟩,fun it kp e h=>wpAny_pyNext_list_item it (Pf kp) (by simpa using e) h,fun hh it kp e h=>wpAny_pyNext_list_end hh it (Pf kp) (by simpa using e) h⟩
theorem K7{h0:Heap}{l I:Addr}{items:List Value}(hl:h0.IsTuple l items.toArray):Rw prog w A h0 I items (fun i h=>h.IsTupleIter I l i):=by
 have Pf:∀{h:Heap},(∀b o,h0.get? b=some o->h.get? b=some o)->h.IsTuple l items.toArray:=fun{h} k=>by obtain⟨o,e,x⟩:=hl;exact⟨o,k _ _ e,x⟩
 exact⟨fun⟨o,e,x⟩ k=>⟨o,k _ e,x⟩,fun it kp e h=>rb it (Pf kp) (by simpa using e) h,fun hh it kp e h=>wpAny_pyNext_tuple_end hh it (Pf kp) (by simpa using e) h⟩
theorem Cv{h0:Heap}{d I:Addr}{items:List Value}{It:Nat->Heap->Prop}{pairs:List (List Key×Addr×Value)}{R:Result->Shared->Prop}(hu:A.units+1<cLine)(hh:A.handled=none)(W:Rw prog w A.in1 h0 I items It)(hlen:items.length=pairs.length)
  (hp:∀(j:Nat) (t:Value),items[j]?=some t->∃ad b k v,t=.ref ad/\h0.IsTuple ad #[.ref b,v]/\(∀h':Heap,(∀b o,h0.get? b=some o->h'.get? b=some o)->(tupleKind (ay prog w)).is h' k b)/\pairs[j]?=some (k,b,v))
  (Xw:h0.get? d=none) (Pg:h0.get? I=none) (Tw:d≠I) (hz:pairs.length<=100000)
  (hR:∀h' uk,(∀b o,h0.get? b=some o->h'.get? b=some o)->h'.DictOfH (tupleKind (ay prog w)) d (jI [] pairs)->R (.ok (.ret .none)) {s with heap:=h',toks:=uk}):
  ∀(r i:Nat) (h:Heap) (tk:Nat) (aw:List (List Key×Addr×Value)),pairs.length - i=r->i<=pairs.length->aw.length<=i->jI aw (pairs.drop i)=jI [] pairs->(∀b o,h0.get? b=some o->h.get? b=some o)->It i h->h.DictOfH (tupleKind (ay prog w)) d aw->(∀x∈aw,∀h':Heap,(∀b o,h0.get? b=some o->h'.get? b=some o)->(tupleKind (ay prog w)).is h' x.1 x.2.1)->
   codeAny (model prog w) A (.builtin "dict.update.loop" ⟨[.ref d,.ref I,rawInt i,.none],[]⟩) R {s with heap:=h,toks:=tk}:=by
 have nd:∀{b:Addr} {o:Obj},h0.get? b=some o->b≠d:=fun{b o} e z=>by rw[z,Xw]at e;cases e
 have nI:∀{b:Addr} {o:Obj},h0.get? b=some o->b≠I:=fun{b o} e z=>by rw[z,Pg]at e;cases e
 have mv:∀{h h':Heap} {aw:List (List Key×Addr×Value)},(∀b o,h0.get? b=some o->h'.get? b=some o)->(∀o,h.get? d=some o->h'.get? d=some o)->(∀x∈aw,∀h':Heap,(∀b o,h0.get? b=some o->h'.get? b=some o)->(tupleKind (ay prog w)).is h' x.1 x.2.1)->h.DictOfH (tupleKind (ay prog w)) d aw->h'.DictOfH (tupleKind (ay prog w)) d aw:=by
  intro h h' aw kp kd ki ⟨o,es,ep,e1,e2,e3,e4,e5,e6⟩;exact⟨o,es,ep,kd _ e1,e2,e3,e4,fun x hx=>ki x hx h' kp,e6⟩
 intro r
 induction r with
 |zero=>
  intro i h tk aw hr hi hk hm kp it dd ki;have e:i=pairs.length:=by omega
  subst e;refine dZ uZ ?_
  rw[fj jq _];show wpAny _ A.in1 (pyNext (.ref I)>>=_) _ _ _;refine aa (W.stop (s:={s with heap:=h,toks:=tk}) hh it kp (by rw[hlen];exact ak _) fun h' eb=>?_);rw[m9]at hm;have IX:∀b o,h0.get? b=some o->h'.get? b=some o:=fun b o e=>eb b o (nI e) (kp b o e);have Iu:=mv (h':=h') IX (fun o e=>eb d o Tw e) ki dd;show wpAny _ A.in1 (Builtin.Dict.addKeywords d []>>=_) _ _ _;refine aa (ae (ae ?_));exact hR h' tk IX (by rw[<-hm];exact Iu)
 |succ r ih=>
  intro i h tk aw hr hi hk hm kp it dd ki;have eG:i<pairs.length:=by omega
  have Rx:i<items.length:=by omega
  obtain⟨ad,b,k,v,et,tp,F8,ep⟩:=hp i items[i] (by simp[Rx]);have vw:pairs[i]=(k,b,v):=by rw[aB eG]at ep;exact Option.some.inj ep
  refine dZ uZ ?_
  rw[fj jq _];show wpAny _ A.in1 (pyNext (.ref I)>>=_) _ _ _;refine aa (W.item (s:={s with heap:=h,toks:=tk}) it kp (x:=.ref ad) (by rw[aB Rx,et]) fun h' Tx sb=>?_);have IX:∀b o,h0.get? b=some o->h'.get? b=some o:=fun b o e=>(sb.2 b (nI e)).trans (kp b o e);have Iu:=mv (h':=h') IX (fun o e=>(sb.2 d Tw).trans e) ki dd;obtain⟨ot,e1,e2,n,e3⟩:=tp;have hT:Shared.TypeIs {s with heap:=h',toks:=tk} (.ref ad) "tuple":=⟨ot,IX _ _ e1,e2⟩;refine aa ?_
  refine cn ?_
  refine aa (wpAny_tryCatch ?_);unfold Builtin.Dict.pairItems;refine aa (h8 hT ?_);rw[ab (by decide)];refine aa (dO (IX _ _ e1) e3 ?_);refine ae ?_
  show wpAny _ A.in1 (holding [.ref b,v] (dictSet d (.ref b) v)) _ _ _;refine cn (wpAny_dictSet_heap (knd:=tupleKind (ay prog w)) (hsz:=by rw[bH];omega) (i3 hu) (F8 _ IX) Iu fun h2 FI Ry=>?_);show wpAny _ A.in1 (pure _) _ _ _;refine ae ⟨eC jq _,?_⟩;have hc:rawInt ((i:Int)+1)=rawInt ((i+1:Nat):Int):=by push_cast;rfl
  rw[hc];refine ih (i+1) h2 _ (storedH aw k b v) (by omega) eG ?_ ?_ (fun b o e=>(Ry.2 b (nd e)).trans (IX b o e)) ?_ FI ?_
  ·exact bx (xQ aw k b v) (by omega)
  ·rw[lI eG,vw]at hm;exact hm
  ·exact W.keep Tx fun o e=>(Ry.2 I (cv Tw)).trans e
  ·intro x hx;unfold storedH at hx;split at hx
   ·obtain⟨y,hy,rfl⟩:=aW.mp hx;unfold putAt;split
    ·exact ki y hy
    ·exact ki y hy
   ·rcases bD.mp hx with hx|hx
    ·exact ki x hx
    ·rw[cB.mp hx];exact F8
theorem zo{l:Addr}{items:List Value}{pairs:List (List Key×Addr×Value)}{Q:Value->Shared->Prop}{k0:Nat}{RA:Array (Option Value)}{tn:String}(hu:A.units+4<cLine)(hh:A.handled=none)(Tz:tn="list"\/tn="tuple")(hx:s.heap.get? l=some {cls:=.type tn,dict:=none,data:=.seq items.toArray k0,slots:=RA}) (hlen:items.length=pairs.length)
  (hp:∀(j:Nat) (t:Value),items[j]?=some t->∃ad b k v,t=.ref ad/\s.heap.IsTuple ad #[.ref b,v]/\(∀h':Heap,(∀b o,s.heap.get? b=some o->h'.get? b=some o)->(tupleKind (ay prog w)).is h' k b)/\pairs[j]?=some (k,b,v)) (hz:pairs.length<=100000)
  (h:∀h' uk,(∀b o,s.heap.get? b=some o->h'.get? b=some o)->h'.DictOfH (tupleKind (ay prog w)) s.heap.objs.size (jI [] pairs)->Q (.ref s.heap.objs.size) {s with heap:=h',toks:=uk}):
  wpAny (model prog w) A (call (.type "dict") [.ref l]) Q E s:=by
 refine callType_codes (Q₁:=fun obj cj=>obj=.ref s.heap.objs.size/\cj={s with heap:=s.heap.push {cls:=.type "dict",data:=.dict #[]}}) F.kt_called_dict (F.kt_typeCall_dict_1 _) F.entry_dict_init (kt_code_dict_new _ ⟨rfl,rfl⟩) ?_
 rintro obj cj ⟨rfl,rfl⟩
 have Gf:(s.heap.push {cls:=.type "dict",data:=.dict #[]}).DictOf (ay prog w) s.heap.objs.size []:=Heap.DictOf.new s.heap;have Ph:(s.heap.push {cls:=.type "dict",data:=.dict #[]}).DictOfH (tupleKind (ay prog w)) s.heap.objs.size []:=Heap.DictOfH.new s.heap;have IY:=aC {cls:=.type "dict",data:=.dict #[]} hx;refine⟨Gf.typeIs,F.args_dict_init_2 _ _,?_⟩;unfold Builtin.«dict.__init__»;refine aa ?_
 unfold Builtin.Dict.selfAndRest;refine aa (wpAny_notOrdered_dict Gf.typeIs ?_);show wpAny _ _ (pure (s.heap.objs.size,[Value.ref l])) _ _ _;refine ae ?_
 show wpAny _ _ (Builtin.Dict.updateFrom "dict.__init__" s.heap.objs.size (.ref l) [] .none) _ _ _;unfold Builtin.Dict.updateFrom;have tail:∀(h1:Heap) (ox:Nat),(∀b o,(s.heap.push {cls:=.type "dict",data:=.dict #[]}).get? b=some o->h1.get? b=some o)->∀(I:Addr) (It:Nat->Heap->Prop) (oI:Obj),I=h1.objs.size->Rw prog w A.in1.in1 s.heap I items It->It 0 (h1.push oI)->
   codeAny (model prog w) A.in1 (.builtin "dict.update.loop" ⟨[.ref s.heap.objs.size,.ref I,rawInt 0,.none],[]⟩) (wants (fun r lT=>r=.none/\Q (.ref s.heap.objs.size) lT) E) {s with heap:=h1.push oI,toks:=ox}:=by
  intro h1 ox k1 I It oI eI W Xx;subst eI;have k2:∀b o,s.heap.get? b=some o->h1.get? b=some o:=fun b o e=>k1 b o (aC _ e);have Xy:h1.get? s.heap.objs.size=some {cls:=.type "dict",data:=.dict #[]}:=k1 _ _ (aU _ rfl);have eG:s.heap.objs.size<h1.objs.size:=ar Xy;refine Cv (s:=s) (h0:=s.heap) (A:=A.in1) (by show A.units+1+1<cLine;omega) hh W hlen hp (by
   cases e:s.heap.get? s.heap.objs.size with
   |none=>rfl
   |some o=>exact absurd (ar e) (cX _)) (by
   cases e:s.heap.get? h1.objs.size with
   |none=>rfl
   |some o=>exact absurd (ar (k2 _ _ e)) (cX _)) (aM eG) hz (fun h' uk kp dd=>⟨rfl,h h' uk kp dd⟩) _ 0 _ _ [] rfl (bP _) (ak _) rfl (fun b o e=>aC _ (k2 b o e)) Xx ?_ (fun x hx=>by cases hx)
  obtain⟨o,es,ep,e,x1,x2,x3,x4,x5⟩:=Ph;exact⟨o,es,ep,aC _ (k1 _ _ e),x1,x2,x3,(fun x hx=>by cases hx),x5⟩
 rcases Tz with rfl|rfl
 ·have hT:Shared.TypeIs {s with heap:=s.heap.push {cls:=.type "dict",data:=.dict #[]}} (.ref l) "list":=⟨_,IY,rfl⟩;refine aa (h8 hT ?_);rw[ab (by decide)];refine aa (zi IY hh fun h1 ox k1=>?_);rw[ab (show(none:Option Value).isNone=true from rfl)];have hl:s.heap.IsList l items.toArray:=⟨_,hx,rfl,_,rfl⟩;refine aa (fv ?_);refine aa (i6 (show h1.IsList l items.toArray from⟨_,k1 _ _ IY,rfl,_,rfl⟩) ?_);refine ae ⟨eC jq _,?_⟩;exact tail h1 ox k1 _ _ {cls:=.type "list_iterator",data:=.fields #[.ref l,.int 0 0]} rfl (Hm hl) (by exact⟨_,aU _ rfl,rfl,rfl⟩)
 ·have hT:Shared.TypeIs {s with heap:=s.heap.push {cls:=.type "dict",data:=.dict #[]}} (.ref l) "tuple":=⟨_,IY,rfl⟩;refine aa (h8 hT ?_);rw[ab (by decide)];refine aa (xR IY hh fun h1 ox k1=>?_);rw[ab (show(none:Option Value).isNone=true from rfl)];have hl:s.heap.IsTuple l items.toArray:=⟨_,hx,rfl,_,rfl⟩;refine aa (fv ?_);refine aa (i4 (show h1.IsTuple l items.toArray from⟨_,k1 _ _ IY,rfl,_,rfl⟩) ?_);refine ae ⟨eC jq _,?_⟩;exact tail h1 ox k1 _ _ {cls:=.type "tuple_iterator",data:=.fields #[.ref l,.int 0 0]} rfl (K7 hl) (by exact⟨_,aU _ rfl,rfl,rfl⟩)
end
def oy:List Tr->Option (List (List Key×Tr))
 |[]=>some []
 |.tup [k,v]::r=>match pz k,oy r with
  |some key,some l=>some ((key,v)::l)
  |_,_=>none
 |_=>none
def cU:List Tr->Rs Tr
 |[.lst ts]=>match oy ts with
  |some aD=>if aD.length<=100000 then .ok (.bj (lr [] aD))else .bad
  |none=>.bad
 |[.tup ts]=>match oy ts with
  |some aD=>if aD.length<=100000 then .ok (.bj (lr [] aD))else .bad
  |none=>.bad
 |_=>.bad
def gM(aw more:List (List Key×V)):List (List Key×V):=more.foldl (fun acc kv=>putK acc kv.1 kv.2) aw
theorem lu:∀(more aw:List (List Key×V)),(gM aw more).length<=aw.length+more.length
 |[],aw=>by show aw.length<=aw.length+0;omega
 |p::r,aw=>by
  have h1:=lu r (putK aw p.1 p.2);have h2:=kJ aw p.1 p.2;show(gM (putK aw p.1 p.2) r).length<=_;rw[br];omega
theorem di.merge {K:PySem.W.Frag}{H:Vw}:∀{more:List (List Key×V)} {MC:List (List Key×Tr)} {aw:List (List Key×V)} {aD:List (List Key×Tr)},di K H more MC->di K H aw aD->di K H (gM aw more) (lr aD MC)
 |[],MC,aw,aD,h,h0=>by
  have e:=h.keys;cases MC with
  |nil=>exact h0
  |cons a b=>cases e
 |(j,v)::more,MC,aw,aD,h,h0=>by
  obtain⟨t,r,rfl,h1,h2⟩:=h.inv;exact di.merge (more:=more) (MC:=r) (aD:=lq aD j t) h2 (h0.put j h1)
theorem KT.merge {H:Hp}:∀{more:List (List Key×V)} {ms:List (List Key×Addr×Value)} {aw:List (List Key×V)} {xs:List (List Key×Addr×Value)},KT H more ms->KT H aw xs->KT H (gM aw more) (jI xs ms):=by
 intro more ms aw xs r;unfold KT at r
 induction r generalizing aw xs with
 |nil=>intro q;exact q
 |@cons p q ps qs h t ih=>
  intro r0;obtain⟨h1,h2,h3⟩:=h;have:=ih (KT.put r0 p.1 (b:=q.2.1) (y:=p.2) (u:=q.2.2) h2 h3);rw[h1]at this;show KT H (gM (putK aw p.1 p.2) ps) (jI (storedH xs q.1 q.2.1 q.2.2) qs);rw[h1];exact this
section
variable {X:Cx}{pins:List (Addr×Obj)}{σ:St}{H:Hp}{s:Shared}{B:bZ}
theorem Cw{t:Tr}{ts:List Tr}{aD:List (List Key×Tr)}(h:oy (t::ts)=some aD):∃k v key l,t=.tup [k,v]/\pz k=some key/\oy ts=some l/\aD=(key,v)::l:=by
 unfold oy at h;split at h
 ·cases‹t::ts=[]›
 ·rename_i k v r e;cases e;cases e1:pz k with
  |none=>rw[e1]at h;cases h
  |some key=>
   cases e2:oy ts with
   |none=>rw[e1,e2]at h;cases h
   |some l=>rw[e1,e2]at h;cases h;exact⟨k,v,key,l,rfl,e1,rfl,rfl⟩
 ·cases h
theorem gs{h0:Heap}{b:Addr}{k:List Key}{P:Program}{w:World}(e:(tupleKind (ay P w)).is h0 k b):∀h':Heap,(∀b o,h0.get? b=some o->h'.get? b=some o)->(tupleKind (ay P w)).is h' k b:=by
 intro h' kp;obtain⟨o,aZ,n,h1,h2,h3,h4⟩:=e;exact⟨o,aZ,n,kp _ _ h1,h2,h3,h4⟩
theorem xT(I:Inv X pins σ H s):∀{vs:List V} {ts:List Tr} {aD:List (List Key×Tr)} {aZ:List Value},aK X.K (aT B H) vs ts->oy ts=some aD->Vals vs aZ->
  ∃(aw:List (List Key×V)) (ps:List (List Key×Addr×Value)),di X.K (aT B H) aw aD/\KT H aw ps/\aZ.length=ps.length/\∀(j:Nat) (t:Value),aZ[j]?=some t->∃ad b k v,t=.ref ad/\s.heap.IsTuple ad #[.ref b,v]/\(∀h':Heap,(∀b o,s.heap.get? b=some o->h'.get? b=some o)->(tupleKind (ay X.prog X.w)).is h' k b)/\ps[j]?=some (k,b,v)
 |[],[],_,_,_,e,rv=>by cases e;cases rv;exact⟨[],[],.nil,.nil,rfl,fun j t e=>by simp at e⟩
 |[],_::_,_,_,h,_,_=>by cases h
 |v::vs,ts,aD,aZ,h,e,rv=>by
  cases h with
  |cons h r=>
   obtain⟨k,w',key,l,rfl,ek,el,rfl⟩:=Cw e;cases rv with
   |cons h1 rv=>
    obtain⟨aw,ps,q1,q2,q3,q4⟩:=xT I r el rv;obtain⟨ad,us,rfl,hq,rr⟩:=h.iN;cases h1;obtain⟨x1,x2,rfl,rk,md⟩:=sr rr;obtain⟨wY,zc,pl,_⟩:=I.tuple (.inl (.inl (aE _ _ hq)));obtain⟨u1,u2,rfl,r1,r2⟩:=vals2 zc;obtain⟨b,rfl,hb⟩:=lj rk ek;cases(show u1=Value.ref b from r1);refine⟨(key,_)::aw,(key,b,u2)::ps,.cons md q1,.cons ⟨rfl,hb,r2⟩ q2,by rw[br,br,q3],fun j t et=>?_⟩;cases j with
    |zero=>cases et;exact⟨ad,b,key,u2,rfl,pl,gs (mf I.cp hb),rfl⟩
    |succ j=>exact q4 j t et
theorem lz(hu:X.A.units+4<cLine)(hc:X.calm=true):gm X (.type "dict") (rF X cU):=by
 intro pins s σ H xs us Q I rv ⟨B,ts,hb,r,q⟩;have key:∃tr uP aD,ts=[tr]/\(tr=.lst uP\/tr=.tup uP)/\oy uP=some aD/\aD.length<=100000/\∀v H',ax H H'->Rep X.K (aT B H') v (.bj (lr [] aD))->(∀p,v=.ref p->Ky H H' p)->Q v H':=by
  unfold cU at q;split at q
  ·rename_i uP;cases e:oy uP with
   |none=>rw[e]at q;exact(show False from q).elim
   |some aD=>
    rw[e]at q;obtain⟨h0,z⟩:=gp q;exact⟨_,uP,aD,rfl,.inl rfl,e,h0,z⟩
  ·rename_i uP;cases e:oy uP with
   |none=>rw[e]at q;exact(show False from q).elim
   |some aD=>
    rw[e]at q;obtain⟨h0,z⟩:=gp q;exact⟨_,uP,aD,rfl,.inr rfl,e,h0,z⟩
  ·exact(show False from q).elim
 obtain⟨tr,uP,aD,rfl,Xz,ep,hz,k⟩:=key;obtain⟨x,rfl,h⟩:=jh r;obtain⟨u,rfl,ru⟩:=vals1 rv;have src:∃(a:Addr) (vs:List V) (tn:String) (aZ:List Value) (n0:Nat) (RA:Array (Option Value)),x=.ref a/\(tn="list"\/tn="tuple")/\aK X.K (aT B H) vs uP/\Vals vs aZ/\s.heap.get? a=some {cls:=.type tn,dict:=none,data:=.seq aZ.toArray n0,slots:=RA}:=by
  rcases Xz with rfl|rfl
  ·obtain⟨a,vs,rfl,h,rr⟩:=h.lst_inv;obtain⟨z0,aZ,n0,Hn,hx⟩:=(show bQ X.prog X.w H s.heap a (.lst vs)from I.cp a _ (ie h));exact⟨a,vs,"list",aZ,n0,_,rfl,.inl rfl,rr,Hn,hx⟩
  ·obtain⟨a,vs,rfl,h,rr⟩:=h.iN;obtain⟨_,aZ,Hn,o,hx,c1,n0,c2,c3⟩:=(show bQ X.prog X.w H s.heap a (.tup vs)from I.cp a _ (aE _ _ h));obtain⟨oc,od,YV,z8⟩:=o;simp only at c1 c2 c3;subst c1 c2 c3;exact⟨a,vs,"tuple",aZ,n0,z8,rfl,.inr rfl,rr,Hn,hx⟩
 obtain⟨a,vs,tn,aZ,n0,RA,rfl,Tz,rr,Hn,hx⟩:=src;cases(show u=Value.ref a from ru);obtain⟨aw,ps,q1,q2,q3,q4⟩:=xT I rr ep Hn;have hl:aw.length=aD.length:=q1.length;have XB:ps.length<=100000:=by rw[<-Paired.length q2,hl];exact hz
 refine zo hu (I.ok.hd hc) Tz hx q3 q4 XB fun h' uk kp dd=>?_
 have hf:H s.heap.objs.size=none:=I.fresh;have XC:(gM [] aw).length<=sizeLine:=by have:=lu aw [];rw[eO]at this;rw[bH];omega
 have Pj:(s.heap.objs.size==sysModules)=false:=by
  have:=I.big;exact eP (cy this)
 have km:KT (upd H s.heap.objs.size (.dT (gM [] aw))) (gM [] aw) (jI [] ps):=(KT.merge q2 (show KT H [] []from .nil)).keeps fun b ys e=>(aj fun z=>by rw[z,hf]at e;cases e).trans e;obtain⟨o,es,vw,e1,e2,e3,e4,_,e6⟩:=dd;refine⟨.ref s.heap.objs.size,_,I.laid (t':=uk) (o:=.dT (gM [] aw)) kp (ak _) ⟨XC,Pj,_,km,o,es,vw,e1,e2,e3,e4,e6⟩,rfl,k _ _ (ax.upd hf) (.bj (.inl (hb.new hf)) ?_ ?_) fun p' e=>by cases e;exact .upd hf (fun _ _ z=>by cases z)⟩
 ·exact(di.merge q1 di.nil).keys
 ·exact(di.merge q1 di.nil).vals.same (bc (ax.upd hf))
end
end L2
namespace L2
open PySem PySem.Spec PyProof.Rows
section
variable {X:Cx}{K:PySem.W.Frag}{B:bZ}{H H':Hp}{A:Ab}{a:Addr}{u u' u0:HO}
theorem qm.ha (w:qm H H' a u u' u0)(hv:B.hd a=false)(h:HA K B A H):HA K B A H':=by
 refine⟨w.hb h.hb,fun i o e=>?_,h.inj,h.lt⟩;obtain⟨c,h1,h2⟩:=h.ob i o e;refine⟨c,h1,?_⟩;have ff:c≠a:=fun z=>by have q:=h2.hd;rw[z,hv]at q;cases q
 have eq:H' c=H c:=by rw[w.to,aj ff]
 cases o with
 |lst ts=>obtain⟨h0,vs,h1,h2⟩:=h2;exact⟨h0,vs,eq.trans h1,w.B7 h2⟩
 |kN aD=>obtain⟨h0,vs,h1,h2⟩:=h2;exact⟨h0,vs,eq.trans h1,h2.keys,w.B7 h2.vals⟩
 |bj aD=>obtain⟨h0,vs,h1,h2,h3⟩:=h2;exact⟨h0,vs,eq.trans h1,h2,w.B7 h3⟩
 |GU x=>obtain⟨h0,oe,h1,h2⟩:=h2;exact⟨h0,oe,eq.trans h1,h2⟩
 |tb x q=>obtain⟨h0,h1,h2⟩:=h2;exact⟨h0,h1,eq.trans h2⟩
 |ins c fs=>
  obtain⟨h0,dx,wD,h1,h2,h3,h4,h5⟩:=h2;exact⟨h0,dx,wD,eq.trans h1,w.l6 h2 (fun z=>by cases z) (fun _ _ d z=>by cases z<;>cases d),h3,h4,w.B7 h5⟩
theorem vP.ha (h:vP X B H H')(r:HA K B A H):HA K B A H':=by
 rcases h with s|⟨H1,a,o,u0,hk,s,hv,ha,rfl,h0⟩
 ·exact r.same s
 ·exact qm.ha (u:=u0) ⟨ha,rfl,.inl ⟨rfl,o,rfl⟩,hk⟩ hv (r.same s)
theorem vP.Es {B2:bZ}{H2:Hp}{A2:Ab}(h:vP X B H H')(hb:HB B H)(g:Grows B H' B2 H2)(r:HA K B2 A2 H2):
  ∃Hu,Grows B H B2 Hu/\HA K B2 A2 Hu/\(∀{B3:bZ} {v:V} {t:Tr},Rep K (aT B3 H2) v t->Rep K (aT B3 Hu) v t)/\(∀{σ:St} {ρ:az},bu K B2 H2 σ ρ->bu K B2 Hu σ ρ)/\∀k:Hp->Prop,k Hu->gr X H2 k:=by
 rcases h with s|⟨H1,a,o,u0,hk,s,hv,ha,rfl,h0⟩
 ·exact⟨H2,(Grows.of s).trans hb g,r,fun r=>r,fun r=>r,fun k q=>.inl q⟩
 ·have e1:(aT B (upd H1 a (.gk o u0))).H a=some (.gk o u0):=by rw[c_ hv];exact aG
  have e2:=g.gA.h _ _ e1;have e3:H2 a=some (.gk o u0):=aE _ _ e2;have w:qm H2 (upd H2 a u0) a (.gk o u0) u0 u0:=⟨e3,rfl,.inr ⟨rfl,o,rfl⟩,hk⟩;have Rm:B2.hd a=false:=by
   cases q:B2.hd a with
   |false=>rfl
   |true=>
    have n:(aT B2 H2).H a=none:=by show(if B2.hd a=true then none else H2 a)=none;rw[ab q]
    rw[n]at e2;cases e2
  refine⟨upd H2 a u0,⟨⟨fun b ob e=>?_,fun b i e=>g.gA.x b i e⟩,fun b ob c e=>?_,g.hd,fun b i e n=>?_⟩,w.ha Rm r,fun r=>w.rep r,fun r=>w.y0 r,fun k q=>.inr ⟨a,o,u0,hk,e3,h0,q⟩⟩
  ·by_cases z:b=a
   ·subst z;have q:=s _ _ (aE _ _ e);rw[ha]at q;cases q;rw[c_ Rm];exact aG
   ·have q:(aT B (upd H1 a (.gk o u0))).H b=some ob:=gC e fun e=>by rw[aj z];exact s _ _ e
    exact gC (g.gA.h _ _ q) fun e=>by rw[aj z];exact e
  ·have q:=s _ _ e;by_cases z:b=a
   ·subst z;rw[ha]at q;cases q;exact aG
   ·rw[aj z];exact g.kp b ob c (by rw[aj z];exact q)
  ·have q:=g.nw b i e n;refine s.free ?_
   by_cases z:b=a
   ·subst z;rw[aG]at q;cases q
   ·rw[aj z]at q;exact q
end
def Pk(r:Rz Out):Rz Out:=match r with
 |.ok o A=>.ok o A
 |_=>.bad
theorem Ho{xc:Tr->Ab->Prop}{r:Rz Out}{k:Out->Ab->Prop}(q:dG xc (Pk r) k):dG (fun _ _=>False) r k:=by
 cases r with
 |ok o A=>exact q
 |exc c A=>exact(show False from q).elim
 |bad=>exact q
section
variable {X:Cx}{tg iter:Expr}{body:List Stmt}{W:az->Rs (List Tr)}{T:j3}{G:az->Ab->Rz Out}{pos:Pos}
theorem K8(hi:QJ X tg iter W)(hg:QG X tg T)(hT:gK T)(hb:ZB X body G)(hp:PassesOwn (model X.prog X.w) X.A X.env X.xe:=by first|exact i_|exact i7) (hc:X.calm=true:=by rfl)
  (hs:isSet iter=false:=by rfl):ZS X (.For tg iter body [] pos) (fun ρ A=>Pk (jR T G (aq (W ρ) A) ρ)):=
 ⟨(yL hp hc hi.h hg.h hb.h (dF hs)).KL.weak fun D σ H ⟨B0,H0,B,A,ρ,t8,g,ha,r,n,q⟩=>⟨B,ρ,ha.hb,r,(ij (dG.bind (Ho q))).mono fun ts qt J H1 tf gt=>by
   have iP:=tf.ha ha;have wF:HB B H1:=iP.hb;refine⟨fun i m cf H'=>m=ts.length - i/\i<=ts.length/\∃B' A' eS,Grows B H1 B' H'/\HA X.K B' A' H'/\bu X.K B' H' cf eS/\dR eS/\dG (fun _ _=>False) (jm T G (ts.drop i) eS A') (kZ X D B0 H0),⟨_,rfl,bP _,B,A,ρ,.refl,iP,tf.y0 r,n,qt⟩,?_⟩
   rintro i m cf H' ⟨rfl,hi,B',A',eS,g',dQ,r',n',q'⟩
   by_cases eG:i<ts.length
   ·rw[lI eG]at q';refine .inr ⟨gt.go i B' H' eG g'.gA dQ.hb,fun rX H2=>∃B2 A2 ρ2,Grows B H1 B2 H2/\HA X.K B2 A2 H2/\bu X.K B2 H2 rX ρ2/\dR ρ2/\dG (fun _ _=>False) (jm T G (ts.drop (i+1)) ρ2 A2) (kZ X D B0 H0),
     fun rX H2 x=>⟨ts.length - (i+1),by omega,rfl,eG,x⟩,fun x H2 hx=>?_⟩
    obtain⟨s2,t,et,rt⟩:=gt.zZ i B' H' x H2 eG g'.gA dQ.hb hx;have Od:ts[i]=t:=by rw[aB eG]at et;exact Option.some.inj et
    rw[Od]at q';have g2:Grows B H1 B' H2:=g'.trans wF (.of s2);refine D2 hT wF g2 (dQ.same s2) (r'.same s2) n' rt (dG.bind q') fun ρ1 yJ H3 q1 g3 BX r3 n3 _=>?_
    refine⟨B,H1,B',A',ρ1,wF,g3,BX,r3,n3,((dG.bind q1).imp fun c Vz x=>x.elim).mono fun o A4 qo=>?_⟩;cases o with
    |nx ρ2=>exact fun BY B4 H4 g4 o_ r4 n4=>⟨B4,A4,ρ2,g4,o_,r4,n4,qo⟩
    |ct ρ2=>exact fun BY B4 H4 g4 o_ r4 n4=>⟨B4,A4,ρ2,g4,o_,r4,n4,qo⟩
    |bk ρ2=>
     intro BY B4 H4 g4 o_ r4 n4;obtain⟨Hu,gu,Pl,ru,rs,ku⟩:=tf.Es ha.hb g4 o_;exact ku _ (qo BY B4 Hu (g.trans t8 gu) Pl (rs r4) n4)
    |ret t=>
     intro v B4 H4 g4 o_ r4;obtain⟨Hu,gu,Pl,ru,rs,ku⟩:=tf.Es ha.hb g4 o_;exact ku _ (qo v B4 Hu (g.trans t8 gu) Pl (ru r4))
   ·have e:i=ts.length:=by omega
    subst e;rw[m9]at q';obtain⟨Hu,gu,Pl,ru,rs,ku⟩:=tf.Es ha.hb g' dQ;exact .inl ⟨gt.stop B' H' g'.gA,ku _ (q' cf B' Hu (g.trans t8 gu) Pl (rs r') n')⟩⟩⟩
def gv(T:j3)(G:az->Ab->Rz Out)(j:Nat):Nat->Nat->az->Ab->Rz Out
 |0,_,_,_=>.bad
 |m+1,i,ρ,A=>match A[j]? with
  |some (.lst us)=>match us[i]? with
   |none=>.ok (.nx ρ) A
   |some t=>(aq (T t ρ) A).bind fun ρ1 A=>(G ρ1 A).bind fun o A=>match o with
    |.nx ρ2=>gv T G j m (i+1) ρ2 A
    |.ct ρ2=>gv T G j m (i+1) ρ2 A
    |.bk ρ2=>.ok (.nx ρ2) A
    |.ret t=>.ok (.ret t) A
  |_=>.bad
def loopAt(T:j3)(G:az->Ab->Rz Out)(m:Nat)(r:Rz Tr)(ρ:az):Rz Out:=r.bind fun t A=>match t with
 |.at j=>match A[j]? with
  |some (.lst _)=>gv T G j m 0 ρ A
  |_=>.bad
 |_=>.bad
inductive VH(X:Cx)(F:az->Ab->Rz Tr)(σ:St)(H:Hp)(R:It->Hp->Prop):Prop
 |mk (B:bZ) (A:Ab) (ρ:az):HA X.K B A H->bu X.K B H σ ρ->dR ρ->(dG (XE X B H) (F ρ A) fun t A'=>∃j us,t=.at j/\A'[j]?=some (.lst us)/\∀a B' H',Grows B H B' H'->HA X.K B' A' H'->B'.ix a=some j->R (Q4 X.K a) H')->VH X F σ H R
theorem TC{F:az->Ab->Rz Tr}(h:PE X iter (tE X F)):PI X tg iter (VH X F):=by
 intro pins s σ H R I ⟨B,A,ρ,ha,r,n,q⟩;refine eE (h pins s σ H (fun x H1=>∃a vs,x=.ref a/\H1 a=some (.lst vs)/\R (Q4 X.K a) H1) I ⟨B,A,ρ,ha,r,n,q.mono fun t A1 ⟨j,us,et,ej,k⟩ v B1 H1 g1 iP rv=>?_⟩) fun v s1 ⟨x,H1,I1,r1,a,vs,ex,e1,k⟩=>?_
 ·subst et;obtain⟨a,rfl,t9⟩:=rv.sv;obtain⟨hd,vs,h1,h2⟩:=iP.get t9 ej;exact⟨a,vs,rfl,h1,k a B1 H1 g1 iP t9⟩
 ·subst ex;cases r1;obtain⟨aZ,rv,pl,hz⟩:=I1.list (iS.of e1);refine i6 pl.isList ?_
  refine⟨s1.heap.objs.size,[s1.heap.objs.size],_,_,H1,rfl,I1.kept (t':=s1.toks) fun b o e=>aC _ e,ux a _,⟨_,aU _ rfl,rfl,rfl⟩,fun b hb=>?_,k⟩;have e:b=s1.heap.objs.size:=by simpa using hb
  subst e;exact I1.ua (ak _) (I1.cp.fresh (ak _))
theorem Et{K:PySem.W.Frag}{B:bZ}{A:Ab}{H:Hp}{a:Addr}{j:Nat}{us:List Tr}(ha:HA K B A H)(hx:B.ix a=some j)(ej:A[j]?=some (.lst us)):∃vs,H a=some (.lst vs)/\aK K (aT B H) vs us:=by
 obtain⟨hd,vs,h1,h2⟩:=ha.get hx ej;exact⟨vs,h1,h2⟩
theorem AU(m:Nat){F:az->Ab->Rz Tr}(hi:ZE X iter F)(hg:QG X tg T)(hT:gK T)(hb:ZB X body G)(hp:PassesOwn (model X.prog X.w) X.A X.env X.xe:=by first|exact i_|exact i7) (hc:X.calm=true:=by rfl)
  (hs:isSet iter=false:=by rfl):ZS X (.For tg iter body [] pos) (fun ρ A=>loopAt T G m (F ρ A) ρ):=
 ⟨(yL hp hc (TC hi.h) hg.h hb.h (dF hs)).weak fun D σ H ⟨B0,H0,B,A,ρ,t8,g,ha,r,n,q⟩=>⟨B,A,ρ,ha,r,n,((dG.bind q).imp fun c A' x=>x.grow t8 g).mono fun t A1 qt=>by
   have key:∃j us,t=.at j/\A1[j]?=some (.lst us)/\dG (XE X B0 H0) (gv T G j m 0 ρ A1) (kZ X D B0 H0):=by
    split at qt
    ·rename_i j;split at qt
     ·rename_i us ej;exact⟨j,us,rfl,ej,qt⟩
     ·exact qt.elim
    ·exact qt.elim
   obtain⟨j,us,et,ej,qt⟩:=key;refine⟨j,us,et,ej,fun a B1 H1 VI iP IY=>?_⟩;have g1:Grows B0 H0 B1 H1:=g.trans t8 VI;have wF:HB B1 H1:=iP.hb;refine⟨fun i k cf H'=>∃B' A' eS,Grows B1 H1 B' H'/\HA X.K B' A' H'/\bu X.K B' H' cf eS/\dR eS/\dG (XE X B0 H0) (gv T G j k i eS A') (kZ X D B0 H0),⟨m,B1,A1,ρ,.refl,iP,r.grow n VI,n,qt⟩,?_⟩
   rintro i k cf H' ⟨B',A',eS,g',dQ,r',n',q'⟩
   have Cd:B'.ix a=some j:=g'.gA.x a j IY;cases k with
   |zero=>exact(show False from q').elim
   |succ k=>
    unfold gv at q';split at q'
    ·rename_i uP XD;obtain⟨vs,e1,rr⟩:=Et dQ Cd XD;have hl:=rr.length;split at q'
     ·rename_i eu;refine .inl ⟨⟨vs,iS.of e1,?_⟩,q' cf B' H' (g1.trans t8 g') dQ r' n'⟩;rw[hl];exact mM.mp eu
     ·rename_i t eu;obtain⟨v,ev,rv⟩:=rr.get eu;refine .inr ⟨⟨vs,v,iS.of e1,ev⟩,fun rX H2=>∃B2 A2 ρ2,Grows B1 H1 B2 H2/\HA X.K B2 A2 H2/\bu X.K B2 H2 rX ρ2/\dR ρ2/\dG (XE X B0 H0) (gv T G j k (i+1) ρ2 A2) (kZ X D B0 H0),
       fun rX H2 x=>⟨k,i5 k,x⟩,fun x H2 hx=>?_⟩
      obtain⟨eh,hx⟩:=hx;subst eh;have ex:v=x:=by have z:=hx vs (iS.of e1);rw[ev]at z;exact Option.some.inj z
      subst ex;refine D2 hT wF g' dQ r' n' rv (dG.bind q') fun ρ1 yJ H3 q1 g3 BX r3 n3 _=>?_
      refine⟨B1,H1,B',A',ρ1,wF,g3,BX,r3,n3,((dG.bind q1).imp fun c Vz x=>x.grow t8 g1).mono fun o A4 qo=>?_⟩;cases o with
      |nx ρ2=>exact fun BY B4 H4 g4 o_ r4 n4=>⟨B4,A4,ρ2,g4,o_,r4,n4,qo⟩
      |ct ρ2=>exact fun BY B4 H4 g4 o_ r4 n4=>⟨B4,A4,ρ2,g4,o_,r4,n4,qo⟩
      |bk ρ2=>exact fun BY B4 H4 g4 o_ r4 n4=>qo BY B4 H4 (g1.trans t8 g4) o_ r4 n4
      |ret t=>exact fun v B4 H4 g4 o_ r4=>qo v B4 H4 (g1.trans t8 g4) o_ r4
    ·exact(show False from q').elim⟩⟩
end
end L2
namespace L2
open PySem
def RB(m:Nat):Nat->Nat->Nat
 |0,i=>i
 |k+1,i=>RB m k ((i*5+1) % (m+1))
def AV(m:Nat):Bool:=(List.range (m+1)).all fun i=>(List.range (m+1)).all fun j=>(List.range (m+1)).any fun k=>RB m k i==j
theorem XF:AV 7=true:=by decide+kernel
theorem TF:AV 31=true:=by decide+kernel
theorem Eu{m i j:Nat}(hm:m=7\/m=31)(hi:i<=m)(hj:j<=m):∃k,k<=m/\RB m k i=j:=by
 have h:AV m=true:=by rcases hm with rfl|rfl;exact XF;exact TF
 unfold AV at h;have h1:=bG.mp (bG.mp h i (cC.mpr (m6 hi))) j (cC.mpr (m6 hj));obtain⟨k,hk,e⟩:=ke.mp h1;exact⟨k,dU (cC.mp hk),eq_of_beq e⟩
def zp(m:Nat):Nat->Nat×Nat->Nat×Nat
 |0,p=>p
 |k+1,p=>zp m k (SetTable.leap m p.1 p.2)
theorem AW{m:Nat}:∀(a b:Nat) (p:Nat×Nat),zp m (a+b) p=zp m b (zp m a p)
 |0,b,p=>by rw[hX];rfl
 |a+1,b,p=>by rw[Nat.add_right_comm];exact AW a b _
theorem AX{m:Nat}:∀(k:Nat) (p:Nat×Nat),(zp m k p).2=p.2/32 ^k
 |0,p=>by rw[Nat.pow_zero,Nat.div_one];rfl
 |k+1,p=>by
  show(zp m k (SetTable.leap m p.1 p.2)).2=_;rw[AX k];show p.2/32/32 ^k=_;rw[Nat.div_div_eq_div_mul,Nat.pow_succ,Nat.mul_comm]
theorem Ew{m:Nat}:∀(k:Nat) (p:Nat×Nat),p.1<=m->(zp m k p).1<=m
 |0,p,h=>h
 |k+1,p,h=>Ew k _ (dU (gg _ (jb m)))
theorem xU{m:Nat}:∀(k i:Nat),zp m k (i,0)=(RB m k i,0)
 |0,i=>rfl
 |k+1,i=>by
  show zp m k ((i*5+1+0/32) % (m+1),0/32)=_;rw[Nat.zero_div,Nat.add_zero,xU k];rfl
theorem reach{m i j pt:Nat}(hm:m=7\/m=31)(hi:i<=m)(hp:pt<2 ^64)(hj:j<=m):∃k,k<=m+13/\(zp m k (i,pt)).1=j:=by
 have h2:(zp m 13 (i,pt)).2=0:=by
  rw[AX];exact Nat.div_eq_of_lt (bN hp (by decide))
 have h1:=Ew (m:=m) 13 (i,pt) hi;obtain⟨k,hk,e⟩:=Eu hm h1 hj;refine⟨13+k,by omega,?_⟩;rw[AW,show zp m 13 (i,pt)=((zp m 13 (i,pt)).1,0) by rw[<-h2],xU];exact e
theorem vX(h:Int):SetTable.bits h<2 ^64:=by
 unfold SetTable.bits;have h1:=rJ h (show(2 ^64:Int)≠0 by decide);have h2:=rj h (show(0:Int)<2 ^64 by decide);omega
theorem gS{m i:Nat}:i<=SetTable.runEnd m i/\SetTable.runEnd m i<=i+9/\(i<=m->SetTable.runEnd m i<=m):=by
 unfold SetTable.runEnd;split<;>exact⟨by omega,by omega,fun _=>by omega⟩
theorem vY{m j:Nat}{owner:Array (Option Nat)}(ho:owner.getD j (some 0)=none):∀(k fuel i pt:Nat),k<fuel->(zp m k (i,pt)).1=j->∃j',SetTable.layClean.free m owner fuel i pt=some j'/\owner.getD j' (some 0)=none
 |k,0,i,pt,h,_=>by omega
 |k,f+1,i,pt,h,e=>by
  unfold SetTable.layClean.free;cases q:(List.range (SetTable.runEnd m i+1 - i)).find? (fun k=>(owner.getD (i+k) (some 0)).isNone)with
  |some c=>
   have hc:=List.find?_some q;refine⟨i+c,rfl,?_⟩;cases z:owner.getD (i+c) (some 0)with
   |none=>rfl
   |some _=>rw[z]at hc;cases hc
  |none=>
   have h0:=List.find?_eq_none.mp q 0 (cC.mpr (by have:=(gS (m:=m) (i:=i)).1;omega));cases k with
   |zero=>
    have e':i=j:=e;subst e';rw[Nat.add_zero,ho]at h0;exact absurd rfl h0
   |succ k=>exact vY ho k f _ _ (by omega) e
structure LC(m:Nat)(L:List Nat)(owner:Array (Option Nat)):Prop where
 sz:owner.size=m+1
 nd:L.Nodup
 le:∀x∈L,x<=m
 at':∀(j c:Nat),owner[j]?=some (some c)↔L[c]?=some j
theorem Pm:∀(n:Nat) (L:List Nat),L.length<n->∃j,j<n/\j∉L
 |0,_,h=>by omega
 |n+1,L,h=>by
  by_cases q:n∈L
  ·obtain⟨j,hj,nj⟩:=Pm n (L.erase n) (by rw[List.length_erase_of_mem q];have:=List.length_pos_of_mem q;omega);exact⟨j,by omega,fun z=>nj ((List.mem_erase_of_ne (by omega)).mpr z)⟩
  ·exact⟨n,by omega,q⟩
theorem getD_none{owner:Array (Option Nat)}{j:Nat}(h:owner.getD j (some 0)=none):owner[j]?=some none:=by
 rw[cw]at h;cases e:owner[j]? with
 |none=>rw[e]at h;cases h
 |some x=>rw[e]at h;exact bJ some h
theorem LC.free {m:Nat}{L:List Nat}{owner:Array (Option Nat)}(h:LC m L owner){j:Nat}(hj:j<=m)(n:j∉L):owner.getD j (some 0)=none:=by
 have eG:j<owner.size:=by rw[h.sz];omega
 rw[cw,bV eG];cases e:owner[j]with
 |none=>rfl
 |some c=>
  have:=(h.at' j c).mp (by rw[bV eG,e]);exact absurd (bw this) n
theorem LC.snoc {m:Nat}{L:List Nat}{owner:Array (Option Nat)}(h:LC m L owner){j:Nat}(hj:owner[j]?=some none):LC m (L++[j]) (owner.setIfInBounds j (some L.length)):=by
 have eG:j<owner.size:=(lG.mp hj).1;have nm:j∉L:=fun z=>by
  obtain⟨c,hc⟩:=dM z;have:=(h.at' j c).mpr hc;rw[hj]at this;cases this
 refine⟨by rw[Array.size_setIfInBounds];exact h.sz,?_,?_,fun i c=>?_⟩
 ·rw[i0];refine⟨h.nd,by simp,fun a ha b hb=>?_⟩;rw[cB.mp hb];exact fun z=>nm (z▸ha)
 ·intro x hx;rcases bD.mp hx with hx|hx
  ·exact h.le x hx
  ·rw[cB.mp hx];rw[h.sz]at eG;omega
 ·by_cases z:i=j
  ·subst z;rw[Array.getElem?_setIfInBounds_self_of_lt eG];constructor
   ·intro e;cases e;rw[dI (ak _),eD];rfl
   ·intro e;by_cases hc:c<L.length
    ·rw[cq hc]at e;exact absurd (bw e) nm
    ·have h1:=(b_.mp e).1;rw[aY,fS]at h1;have:c=L.length:=by omega
     rw[this]
  ·rw[Array.getElem?_setIfInBounds_ne (cv z),h.at'];by_cases hc:c<L.length
   ·rw[cq hc]
   ·rw[dI (by omega),mM.mpr (by omega)];constructor
    ·intro e;cases e
    ·intro e;have h2:=bw e;exact absurd (cB.mp h2) z
def iF(m:Nat)(acc:Option (Array (Option Nat)×Nat))(h:Int):Option (Array (Option Nat)×Nat):=do
    let(owner,k)<-acc
    let j<-SetTable.layClean.free m owner (SetTable.turns m) (SetTable.bits h % (m+1)) (SetTable.bits h)
    pure (owner.setIfInBounds j (some k),k+1)
theorem xV{m:Nat}(hm:m=7\/m=31):∀(hs:List Int) (L:List Nat) (owner:Array (Option Nat)),LC m L owner->L.length+hs.length<=m+1->∃L' jJ,hs.foldl (iF m) (some (owner,L.length))=some (jJ,L'.length)/\LC m L' jJ/\L'.length=L.length+hs.length
 |[],L,owner,h,_=>⟨L,owner,rfl,h,rfl⟩
 |x::hs,L,owner,h,hl=>by
  rw[br]at hl;obtain⟨j,hj,nj⟩:=Pm (m+1) L (by omega);have hf:=h.free (dU hj) nj;obtain⟨k,hk,e⟩:=reach (pt:=SetTable.bits x) (i:=SetTable.bits x % (m+1)) hm (dU (gg _ (jb m))) (vX x) (dU hj);obtain⟨j',e1,e2⟩:=vY hf k (SetTable.turns m) _ _ (by unfold SetTable.turns;omega) e;have h':=h.snoc (getD_none e2);obtain⟨L',jJ,q1,q2,q3⟩:=xV hm hs _ _ h' (by rw[aY,fS];omega);refine⟨L',jJ,?_,q2,by rw[q3,aY,fS,br];omega⟩;rw[gb];have es:iF m (some (owner,L.length)) x=some (owner.setIfInBounds j' (some L.length),L.length+1):=by
   unfold iF;show(SetTable.layClean.free m owner (SetTable.turns m) (SetTable.bits x % (m+1)) (SetTable.bits x)).bind _=_;rw[e1];rfl
  rw[es];rw[aY]at q1;exact q1
theorem jV{α:Type}:∀(l:List α),(List.range l.length).filterMap (fun i=>l[i]?)=l
 |[]=>rfl
 |x::l=>by
  rw[br,List.range_succ_eq_map,gU,List.filterMap_map];show x::(List.range l.length).filterMap (fun i=>l[i]?)=_;rw[jV l]
theorem AY{m f mv:Nat}{ld pl:Bool}(hm:m=7\/m=31){es:Array (Int×Value)}(hn:es.size<=m):∃t' order,SetTable.laid m f mv ld pl (es.map (·.1))=some (t',order)/\t'.mask=m/\t'.dummies=#[]/\t'.led=ld/\t'.plain=pl/\k_ t'.place/\(∀x∈t'.place.toList,x<=m)/\t'.place.size=es.size/\(order.filterMap (es[·]?)).toList.Perm es.toList:=by
 have h0:LC m [] (Array.replicate (m+1) none):=⟨by simp,f6,(fun x hx=>by cases hx),fun j c=>by
  constructor
  ·intro e;rw[Array.getElem?_replicate]at e;split at e<;>cases e
  ·intro e;simp at e⟩
 have yE:(es.map (·.1)).toList.length=es.size:=by simp
 obtain⟨L,owner,q1,q2,q3⟩:=xV hm (es.map (·.1)).toList [] _ h0 (by rw[yE];show 0+es.size<=_;omega);rw[yE]at q3;have q3:L.length=es.size:=q3.trans (hX _);have ec:SetTable.layClean m (es.map (·.1))=some owner:=by
  unfold SetTable.layClean;rw[<-Array.foldl_toList];show Option.map _ ((es.map (·.1)).toList.foldl (iF m) (some (Array.replicate (m+1) none,([]:List Nat).length)))=_;rw[q1];rfl
 have K9:∀j c,owner.getD j none=some c↔L[c]?=some j:=fun j c=>by
  rw[<-q2.at',cw];cases e:owner[j]? with
  |none=>simp
  |some x=>simp
 have Po:((List.range (m+1)).filterMap fun j=>(owner.getD j none).map (j,·)).Pairwise fun a b=>a.1<b.1:=by
  refine List.Pairwise.filterMap _ (fun a a' TH b hb b' lK=>?_) List.pairwise_lt_range;cases e:owner.getD a none with
  |none=>rw[e]at hb;cases hb
  |some c=>
   cases e':owner.getD a' none with
   |none=>rw[e']at lK;cases lK
   |some c'=>rw[e]at hb;rw[e']at lK;cases hb;cases lK;exact TH
 have Pp:((List.range (m+1)).filterMap fun j=>(owner.getD j none).map (j,·)).Pairwise fun a b=>a.2≠b.2:=by
  refine List.Pairwise.filterMap _ (fun a a' TH b hb b' lK=>?_) List.pairwise_lt_range;cases e:owner.getD a none with
  |none=>rw[e]at hb;cases hb
  |some c=>
   cases e':owner.getD a' none with
   |none=>rw[e']at lK;cases lK
   |some c'=>
    rw[e]at hb;rw[e']at lK;cases hb;cases lK;intro z;have z:c=c':=z;subst z;have h1:=(K9 _ _).mp e;have h2:=(K9 _ _).mp e';rw[h1]at h2;cases h2;exact absurd TH (cX _)
 have mem:∀p:Nat×Nat,p∈((List.range (m+1)).filterMap fun j=>(owner.getD j none).map (j,·))↔L[p.2]?=some p.1:=fun p=>by
  rw[iW];constructor
  ·rintro ⟨j,_,e⟩
   cases q:owner.getD j none with
   |none=>rw[q]at e;cases e
   |some c=>rw[q]at e;cases e;exact(K9 _ _).mp q
  ·intro e;refine⟨p.1,cC.mpr (m6 (q2.le _ (bw e))),?_⟩;rw[(K9 _ _).mpr e];rfl
 have IZ:(((List.range (m+1)).filterMap fun j=>(owner.getD j none).map (j,·)).map (·.2)).Perm (List.range es.size):=by
  refine(j6 ?_ rB).mpr fun c=>?_
  ·exact List.Pairwise.map _ (fun a b h=>h) Pp
  ·rw[aW,cC];constructor
   ·rintro ⟨p,hp,rfl⟩
    have:=(b_.mp ((mem p).mp hp)).1;omega
   ·intro hc;exact⟨(L[c]'(by omega),c),(mem _).mpr (aB (by omega)),rfl⟩
 refine⟨_,_,by unfold SetTable.laid;rw[ec];rfl,rfl,rfl,rfl,rfl,?_,?_,?_,?_⟩
 ·show List.Pairwise _ ((List.map _ _).toArray).toList;exact List.Pairwise.map _ (fun a b h=>h) Po
 ·intro x hx;have Cd:x∈((List.range (m+1)).filterMap fun j=>(owner.getD j none).map (j,·)).map (·.1):=by simpa using hx
  obtain⟨p,hp,rfl⟩:=aW.mp Cd;exact q2.le _ (bw ((mem p).mp hp))
 ·have:=IZ.length_eq;rw[ah,fW]at this;show((List.map _ _).toArray).size=_;rw[bf,ah];exact this
 ·rw[Array.toList_filterMap];have:=IZ.filterMap (fun i=>es[i]?);refine(show List.Perm (List.filterMap _ _) _ from this).trans ?_
  have e:=jV es.toList;rw[bq]at e;have e2:(fun i:Nat=>es.toList[i]?)=fun i=>es[i]? :=funext fun i=>by rw[cu]
  rw[e2]at e;rw[e]
section
variable {t:SetTable}
def bo(t:SetTable):Nat->SetTable.Probe->SetTable.Probe
 |0,p=>p
 |k+1,p=>bo t k (t.advance p)
theorem dh:∀(a b:Nat) (p:SetTable.Probe),bo t (a+b) p=bo t b (bo t a p)
 |0,b,p=>by rw[hX];rfl
 |a+1,b,p=>by rw[Nat.add_right_comm];exact dh a b _
theorem vZ:∀(c:Nat) (p:SetTable.Probe),p.more=c->(bo t (c+1) p).j=(SetTable.leap t.mask p.i p.perturb).1/\(bo t (c+1) p).i=(SetTable.leap t.mask p.i p.perturb).1/\(bo t (c+1) p).perturb=(SetTable.leap t.mask p.i p.perturb).2/\(bo t (c+1) p).more<=9
 |0,p,h=>by
  show(t.advance p).j=_/\(t.advance p).i=_/\(t.advance p).perturb=_/\(t.advance p).more<=9;unfold SetTable.advance;rw[af (by omega)];refine⟨rfl,rfl,rfl,?_⟩;show SetTable.runEnd t.mask _ - _<=9;have:=(gS (m:=t.mask) (i:=(SetTable.leap t.mask p.i p.perturb).1)).2.1;omega
 |c+1,p,h=>by
  have e:t.advance p={p with j:=p.j+1,more:=p.more - 1}:=by unfold SetTable.advance;rw[ab (by omega)]
  have:=vZ c {p with j:=p.j+1,more:=p.more - 1} (by show p.more - 1=c;omega);show(bo t (c+1) (t.advance p)).j=_/\(bo t (c+1) (t.advance p)).i=_/\(bo t (c+1) (t.advance p)).perturb=_/\(bo t (c+1) (t.advance p)).more<=9;rw[e];exact this
theorem u_{j0:Nat}:∀(k:Nat) (p:SetTable.Probe),p.more<=9->(zp t.mask (k+1) (p.i,p.perturb)).1=j0->∃N,N<=10*(k+1)/\(bo t N p).j=j0
 |0,p,h,e=>⟨p.more+1,by omega,(vZ p.more p rfl).1.trans e⟩
 |k+1,p,h,e=>by
  obtain⟨h1,h2,h3,h4⟩:=vZ (t:=t) p.more p rfl;obtain⟨N,hN,q⟩:=u_ (j0:=j0) k (bo t (p.more+1) p) h4 (by rw[h2,h3];exact e);exact⟨p.more+1+N,by omega,by rw[dh];exact q⟩
theorem p8(hm:t.mask=7\/t.mask=31)(h:Int){j0:Nat}(hj:j0<=t.mask):∃N,N<=10*(t.mask+13)/\(bo t N (t.probeStart h)).j=j0:=by
 obtain⟨k,hk,e⟩:=reach (pt:=SetTable.bits h) (i:=SetTable.bits h % (t.mask+1)) hm (dU (gg _ (jb _))) (vX h) hj;cases k with
 |zero=>exact⟨0,bP _,e⟩
 |succ k=>
  obtain⟨N,hN,q⟩:=u_ k (t.probeStart h) (by
   show SetTable.runEnd t.mask _ - _<=9;have:=(gS (m:=t.mask) (i:=SetTable.bits h % (t.mask+1))).2.1;omega) e
  exact⟨N,by omega,q⟩
def PB(t:SetTable)(p:SetTable.Probe):Prop:=p.j+p.more<=t.mask/\p.dummy=none
theorem PB.RC {p:SetTable.Probe}(h:PB t p):PB t (t.advance p):=by
 unfold SetTable.advance;split
 ·exact⟨by have:=h.1;show p.j+1+(p.more - 1)<=_;omega,h.2⟩
 ·refine⟨?_,h.2⟩;show(SetTable.leap t.mask p.i p.perturb).1+(SetTable.runEnd t.mask (SetTable.leap t.mask p.i p.perturb).1 - (SetTable.leap t.mask p.i p.perturb).1)<=_;have hl:(SetTable.leap t.mask p.i p.perturb).1<=t.mask:=dU (gg _ (jb _));have:=gS (m:=t.mask) (i:=(SetTable.leap t.mask p.i p.perturb).1);have:=this.2.2 hl;omega
theorem PB.start (h:Int):PB t (t.probeStart h):=by
 refine⟨?_,rfl⟩;show SetTable.bits h % (t.mask+1)+(SetTable.runEnd t.mask _ - SetTable.bits h % (t.mask+1))<=_;have hl:SetTable.bits h % (t.mask+1)<=t.mask:=dU (gg _ (jb _));have:=gS (m:=t.mask) (i:=SetTable.bits h % (t.mask+1));have:=this.2.2 hl;omega
theorem jK(hd:t.dummies=#[]) (j:Nat):t.slot j=.empty\/∃i,t.slot j=.live i/\t.place[i]?=some j:=by
 unfold SetTable.slot;dsimp only;split
 ·rename_i e;exact .inr ⟨_,rfl,eq_of_beq e⟩
 ·rw[hd,af (by unfold SetTable.has;simp)];exact .inl rfl
theorem sM(hd:t.dummies=#[]) {j:Nat} (h:j∉t.place.toList):t.slot j=.empty:=by
 rcases jK hd j with e|⟨i,_,e⟩
 ·exact e
 ·exact absurd (by rw[<-cu]at e;exact bw e) h
theorem AZ(hd:t.dummies=#[]) {ha:Nat->Int} {h:Int}:∀(N fuel:Nat) (p:SetTable.Probe),N<fuel->PB t p->t.slot (bo t N p).j=.empty->
  (∃j,SetTable.probe.go t ha h fuel p=some (.empty j none)/\t.slot j=.empty/\j<=t.mask)\/∃j i n,SetTable.probe.go t ha h fuel p=some (.candidate j i (bo t (n+1) p))/\n<N/\t.slot j=.live i/\t.place[i]?=some j/\ha i=h
 |N,0,p,hf,_,_=>by omega
 |N,f+1,p,hf,pb,e=>by
  unfold SetTable.probe.go;rcases jK hd p.j with q|⟨i,q,qi⟩
  ·rw[q];refine .inl ⟨p.j,by rw[pb.2],q,?_⟩;have:=pb.1;omega
  ·rw[q];cases N with
   |zero=>
    rw[show(bo t 0 p).j=p.j from rfl,q]at e;cases e
   |succ N=>
    show(∃j,(if(ha i==h)=true then _ else _)=_/\_)\/∃j i' n,(if(ha i==h)=true then _ else _)=_/\_;by_cases z:(ha i==h)=true
    ·rw[ab z];exact .inr ⟨p.j,i,0,rfl,by omega,q,qi,eq_of_beq z⟩
    ·rw[af z];rcases AZ hd N f (t.advance p) (by omega) pb.RC e with⟨j,a1,a2,a3⟩|⟨j,i',n,a1,a2,a3⟩
     ·exact .inl ⟨j,a1,a2,a3⟩
     ·exact .inr ⟨j,i',n+1,a1,by omega,a3⟩
end
end L2
namespace L2
open PySem PySem.Spec PyProof.Rows
section
variable {t t':SetTable}{L L':List Nat}{h:Int}{j:Nat}
def zq(t:SetTable)(L:List Nat)(h:Int)(j:Nat):Prop:=∃N,(bo t N (t.probeStart h)).j=j/\∀n,n<N->(bo t n (t.probeStart h)).j∈L
theorem zq.mono (s:∀x∈L,x∈L')(p:zq t L h j):zq t L' h j:=by
 obtain⟨N,e,k⟩:=p;exact⟨N,e,fun n hn=>s _ (k n hn)⟩
theorem pA(e:t.mask=t'.mask):∀(n:Nat) (p:SetTable.Probe),bo t n p=bo t' n p
 |0,_=>rfl
 |n+1,p=>by
  have q:t.advance p=t'.advance p:=by unfold SetTable.advance;rw[e]
  show bo t n (t.advance p)=bo t' n (t'.advance p);rw[q];exact pA e n _
theorem zq.mask (e:t.mask=t'.mask)(p:zq t L h j):zq t' L h j:=by
 obtain⟨N,k⟩:=p;have q:t.probeStart h=t'.probeStart h:=by unfold SetTable.probeStart;rw[e]
 refine⟨N,?_⟩;rw[<-q,<-pA e];refine⟨k.1,fun n hn=>?_⟩;rw[<-pA e];exact k.2 n hn
theorem sN:∀(n:Nat) (p:SetTable.Probe),n<=p.more->bo t n p={p with j:=p.j+n,more:=p.more - n}
 |0,p,_=>rfl
 |n+1,p,hn=>by
  have e:t.advance p={p with j:=p.j+1,more:=p.more - 1}:=by unfold SetTable.advance;rw[ab (by omega)]
  show bo t n (t.advance p)=_;rw[e,sN n _ (by show n<=p.more - 1;omega)];show({p with j:=p.j+1+n,more:=p.more - 1 - n}:SetTable.Probe)=_;rw[show p.j+1+n=p.j+(n+1) by omega,show p.more - 1 - n=p.more - (n+1) by omega]
theorem oz(p:SetTable.Probe):bo t (p.more+1) p={p with j:=(SetTable.leap t.mask p.i p.perturb).1,more:=SetTable.runEnd t.mask (SetTable.leap t.mask p.i p.perturb).1 - (SetTable.leap t.mask p.i p.perturb).1,i:=(SetTable.leap t.mask p.i p.perturb).1,perturb:=(SetTable.leap t.mask p.i p.perturb).2}:=by
 rw[dh,sN _ _ (ak _)];show t.advance _=_;unfold SetTable.advance;rw[af (by show¬p.more - p.more>0;omega)]
theorem va{owner:Array (Option Nat)}:∀(f i pt:Nat) {j:Nat} (p:SetTable.Probe),SetTable.layClean.free t.mask owner f i pt=some j->p.j=i->p.i=i->p.perturb=pt->p.more=SetTable.runEnd t.mask i - i->∃N,(bo t N p).j=j/\∀n,n<N->¬owner.getD (bo t n p).j (some 0)=none
 |0,i,pt,j,p,e,_,_,_,_=>by cases e
 |f+1,i,pt,j,p,e,e1,e2,e3,e4=>by
  unfold SetTable.layClean.free at e;have hr:=(gS (m:=t.mask) (i:=i)).1;cases q:(List.range (SetTable.runEnd t.mask i+1 - i)).find? (fun k=>(owner.getD (i+k) (some 0)).isNone)with
  |some c=>
   rw[q]at e;cases e;obtain⟨_,hc,hb⟩:=List.find?_range_eq_some.mp q;have hc:=cC.mp hc;refine⟨c,by rw[sN c p (by omega)];show p.j+c=_;rw[e1],fun n hn z=>?_⟩;rw[sN n p (by omega)]at z;have z:owner.getD (p.j+n) (some 0)=none:=z;have y:=hb n hn;rw[e1]at z;rw[z]at y;cases y
  |none=>
   rw[q]at e;obtain⟨N,h1,h2⟩:=va f _ _ (bo t (p.more+1) p) e (by rw[oz,e2,e3];rfl) (by rw[oz,e2,e3];rfl) (by rw[oz,e2,e3];rfl) (by rw[oz,e2,e3];rfl);refine⟨p.more+1+N,by rw[dh];exact h1,fun n hn=>?_⟩;by_cases hl:n<=p.more
   ·rw[sN n p hl];show¬owner.getD (p.j+n) (some 0)=none;intro z;have y:=List.find?_eq_none.mp q n (cC.mpr (by omega));rw[<-e1,z]at y;exact y rfl
   ·have en:n=p.more+1+(n - (p.more+1)):=by omega
    rw[en,dh];exact h2 _ (by omega)
theorem PB.bo {p:SetTable.Probe}(b:PB t p):∀n,PB t (bo t n p):=by
 intro n
 induction n generalizing p with
 |zero=>exact b
 |succ n ih=>exact ih b.RC
theorem xW(hm:t.mask=7\/t.mask=31):∀(hs MD:List Int) (L:List Nat) (owner:Array (Option Nat)),LC t.mask L owner->L.length=MD.length->(∀(c j:Nat) (h:Int),L[c]?=some j->MD[c]?=some h->zq t L h j)->L.length+hs.length<=t.mask+1->∃L' jJ,hs.foldl (iF t.mask) (some (owner,L.length))=some (jJ,L'.length)/\LC t.mask L' jJ/\L'.length=L.length+hs.length/\∀(c j:Nat) (h:Int),L'[c]?=some j->(MD++hs)[c]?=some h->zq t L' h j
 |[],MD,L,owner,h,_,hp,_=>⟨L,owner,rfl,h,rfl,by rw[dW];exact hp⟩
 |x::hs,MD,L,owner,h,he,hp,hl=>by
  rw[br]at hl;obtain⟨j,hj,nj⟩:=Pm (t.mask+1) L (by omega);have hf:=h.free (dU hj) nj;obtain⟨k,hk,e⟩:=reach (pt:=SetTable.bits x) (i:=SetTable.bits x % (t.mask+1)) hm (dU (gg _ (jb _))) (vX x) (dU hj);obtain⟨j',e1,e2⟩:=vY hf k (SetTable.turns t.mask) _ _ (by unfold SetTable.turns;omega) e;obtain⟨N,p1,p2⟩:=va _ _ _ (t.probeStart x) e1 rfl rfl rfl rfl;have h':=h.snoc (getD_none e2);have pn:zq t L x j':=⟨N,p1,fun n hn=>by
   have b:=((PB.start (t:=t) x).bo n).1;have z:=p2 n hn;generalize (bo t n (t.probeStart x)).j=y at b z⊢;by_cases m:y∈L
   ·exact m
   ·exact absurd (h.free (by omega) m) z⟩
  obtain⟨L',jJ,q1,q2,q3,q4⟩:=xW hm hs (MD++[x]) _ _ h' (by rw[aY,aY,he];rfl) (fun c y z hy hz=>by
   have sub:∀x∈L,x∈L++[j']:=fun x m=>j9 _ m;by_cases hc:c<L.length
   ·rw[cq hc]at hy;rw[cq (by omega)]at hz;exact(hp c y z hy hz).mono sub
   ·have h1:=(b_.mp hy).1;rw[aY,fS]at h1;have ec:c=L.length:=by omega
    subst ec;rw[dI (ak _),eD]at hy;rw[dI (by omega),he,eD]at hz;cases hy;cases hz;exact pn.mono sub) (by rw[aY,fS];omega)
  refine⟨L',jJ,?_,q2,by rw[q3,aY,fS,br];omega,by rw[fV]at q4;exact q4⟩;rw[gb];have es:iF t.mask (some (owner,L.length)) x=some (owner.setIfInBounds j' (some L.length),L.length+1):=by
   unfold iF;show(SetTable.layClean.free t.mask owner (SetTable.turns t.mask) (SetTable.bits x % (t.mask+1)) (SetTable.bits x)).bind _=_;rw[e1];rfl
  rw[es];rw[aY]at q1;exact q1
theorem xX{es:Array (Int×Value)}:∀{l:List (Nat×Nat)},(∀p∈l,∃e,es[p.2]?=some e)->∀x∈List.zip ((l.map (·.2)).filterMap (fun i=>es[i]?)) (l.map (·.1)),∃p∈l,es[p.2]?=some x.1/\x.2=p.1
 |[],_,x,m=>by simp at m
 |p::l,h,x,m=>by
  obtain⟨e,he⟩:=h p (aS ..);rw[aA,aA,gU,he]at m;rcases aN.mp m with rfl|m
  ·exact⟨p,aS ..,he,rfl⟩
  ·obtain⟨q,hq,r⟩:=xX (fun q hq=>h q (aO _ hq)) x m;exact⟨q,aO _ hq,r⟩
theorem Cy{m f mv:Nat}{ld pl:Bool}(hm:m=7\/m=31){es:Array (Int×Value)}(hn:es.size<=m){order:Array Nat}(e:SetTable.laid m f mv ld pl (es.map (·.1))=some (t,order)):∀x∈List.zip (order.filterMap (es[·]?)).toList t.place.toList,zq t t.place.toList x.1.1 x.2:=by
 have em:t.mask=m:=by
  unfold SetTable.laid at e;cases q:SetTable.layClean m (es.map (·.1))with
  |none=>rw[q]at e;cases e
  |some ow=>rw[q]at e;cases e;rfl
 subst em;have h0:LC t.mask [] (Array.replicate (t.mask+1) none):=⟨by simp,f6,(fun x hx=>by cases hx),fun j c=>by
  constructor
  ·intro e;rw[Array.getElem?_replicate]at e;split at e<;>cases e
  ·intro e;simp at e⟩
 have yE:(es.map (·.1)).toList.length=es.size:=by simp
 obtain⟨L,owner,q1,q2,q3,q4⟩:=xW hm (es.map (·.1)).toList [] [] _ h0 rfl (fun c j h z=>by simp at z) (by rw[yE];show 0+es.size<=_;omega);rw[yE]at q3;have q3:L.length=es.size:=q3.trans (hX _);have ec:SetTable.layClean t.mask (es.map (·.1))=some owner:=by
  unfold SetTable.layClean;rw[<-Array.foldl_toList];show Option.map _ ((es.map (·.1)).toList.foldl (iF t.mask) (some (Array.replicate (t.mask+1) none,([]:List Nat).length)))=_;rw[q1];rfl
 have K9:∀j c,owner.getD j none=some c↔L[c]?=some j:=fun j c=>by
  rw[<-q2.at',cw];cases e:owner[j]? with
  |none=>simp
  |some x=>simp
 have mem:∀p:Nat×Nat,p∈((List.range (t.mask+1)).filterMap fun j=>(owner.getD j none).map (j,·))↔L[p.2]?=some p.1:=fun p=>by
  rw[iW];constructor
  ·rintro ⟨j,_,e⟩
   cases q:owner.getD j none with
   |none=>rw[q]at e;cases e
   |some c=>rw[q]at e;cases e;exact(K9 _ _).mp q
  ·intro e;refine⟨p.1,cC.mpr (m6 (q2.le _ (bw e))),?_⟩;rw[(K9 _ _).mpr e];rfl
 generalize Pq:((List.range (t.mask+1)).filterMap fun j=>(owner.getD j none).map (j,·))=live at mem;have e':t.place=(live.map (·.1)).toArray/\order=(live.map (·.2)).toArray:=by
  unfold SetTable.laid at e;rw[ec]at e;have e:=Option.some.inj e;have e1:=bJ (fun z=>z.1.place) e;have e2:=bJ (fun z=>z.2) e;rw[<-Pq];exact⟨e1.symm,e2.symm⟩
 intro x hx;rw[e'.1,e'.2,Array.toList_filterMap]at hx;have hex:∀p∈live,∃e,es[p.2]?=some e:=fun p hp=>by
  have:=(b_.mp ((mem p).mp hp)).1;exact⟨_,bV (by omega)⟩
 obtain⟨p,hp,h1,h2⟩:=xX hex x hx;have hL:=(mem p).mp hp;have hh:([]++(es.map (·.1)).toList)[p.2]?=some x.1.1:=by
  rw[kh,cu,Array.getElem?_map,h1];rfl
 rw[h2];refine(q4 _ _ _ hL hh).mono fun y hy=>?_
 obtain⟨c,hc⟩:=dM hy;rw[e'.1];show y∈live.map (·.1);exact aW.mpr ⟨(y,c),(mem _).mpr hc,rfl⟩
theorem v3(hr:k_ t.place){i:Nat}(e:t.place[i]?=some j):t.slot j=.live i:=by
 obtain⟨hi,ev⟩:=lG.mp e;have gd:t.place.getD i 0=j:=by rw[cw,e];rfl
 have⟨q0,q1,q2⟩:=below_at hr j;have eb:SetTable.below t.place j=i:=by
  rcases Nat.lt_trichotomy (SetTable.below t.place j) i with h|h|h
  ·have h1:=q2 _ (ak _) (kr h hi);have h2:=hr.lt h hi;omega
  ·exact h
  ·have:=q1 i h;omega
 unfold SetTable.slot;dsimp only;rw[eb,e,ab (bB _)]
theorem slot_mem(hr:k_ t.place)(m:j∈t.place.toList):¬t.slot j=.empty:=by
 obtain⟨i,hi⟩:=dM m;rw[cu]at hi;rw[v3 hr hi];intro z;cases z
theorem Ex(hd:t.dummies=#[]) {ha:Nat->Int}:∀(N fuel:Nat) (p:SetTable.Probe),N<fuel->PB t p->t.slot (bo t N p).j=.empty->
  (∃n,SetTable.probe.go t ha h fuel p=some (.empty (bo t n p).j none)/\t.slot (bo t n p).j=.empty/\(bo t n p).j<=t.mask/\∀k,k<n->∃i,t.slot (bo t k p).j=.live i/\t.place[i]?=some (bo t k p).j/\¬ha i=h)\/
   ∃n i,SetTable.probe.go t ha h fuel p=some (.candidate (bo t n p).j i (bo t (n+1) p))/\n<N/\t.slot (bo t n p).j=.live i/\t.place[i]?=some (bo t n p).j/\∀k,k<n->∃i,t.slot (bo t k p).j=.live i/\t.place[i]?=some (bo t k p).j/\¬ha i=h
 |N,0,p,hf,_,_=>by omega
 |N,f+1,p,hf,pb,e=>by
  unfold SetTable.probe.go;rcases jK hd p.j with q|⟨i,q,qi⟩
  ·rw[q];refine .inl ⟨0,by rw[pb.2];rfl,q,?_,fun k hk=>by omega⟩;have:=pb.1;show p.j<=_;omega
  ·rw[q];cases N with
   |zero=>
    rw[show(bo t 0 p).j=p.j from rfl,q]at e;cases e
   |succ N=>
    show(∃n,(if(ha i==h)=true then _ else _)=_/\_)\/∃n i',(if(ha i==h)=true then _ else _)=_/\_;by_cases z:(ha i==h)=true
    ·rw[ab z];exact .inr ⟨0,i,rfl,by omega,q,qi,fun k hk=>by omega⟩
    ·rw[af z];have z:¬ha i=h:=fun y=>z (by rw[y];exact bB _);have step:∀{n:Nat},(∀k,k<n->∃i,t.slot (bo t k (t.advance p)).j=.live i/\t.place[i]?=some (bo t k (t.advance p)).j/\¬ha i=h)->∀k,k<n+1->∃i,t.slot (bo t k p).j=.live i/\t.place[i]?=some (bo t k p).j/\¬ha i=h:=fun hk k hl=>by
      cases k with
      |zero=>exact⟨i,q,qi,z⟩
      |succ k=>exact hk k (by omega)
     rcases Ex hd N f (t.advance p) (by omega) pb.RC e with⟨n,a1,a2,a3,a4⟩|⟨n,i',a1,a2,a3,a4,a5⟩
     ·exact .inl ⟨n+1,a1,a2,a3,step a4⟩
     ·exact .inr ⟨n+1,i',a1,by omega,a3,a4,step a5⟩
end
end L2
namespace L2
open PySem PySem.Spec PySem.Calls PyProof.Rows
def oA(w:World)(p:Int×Value):Int×Value:=p
def mC(w:World)(h:Heap)(a:Addr)(ss:List Value):Prop:=
 ∃(o:Obj) (es:Array (Int×Value)) (ep:Nat) (t:SetTable) (l:List (Int×Value)),h.get? a=some o/\o.ExactSet/\o.data=.set es ep t/\es.toList=l.map (oA w)/\(l.map (·.2)).Perm ss/\True/\es.size<scanBound/\
  t.fits es.size=true/\(pf w=true\/t.led=true)/\k_ t.place
theorem mC.typeIs {w:World}{s:Shared}{a:Addr}{ss:List Value}(h:mC w s.heap a ss):s.TypeIs (.ref a) "set":=by
 obtain⟨o,es,ep,t,l,ho,hex,_⟩:=h;exact⟨o,ho,hex.1⟩
theorem mC.keep {w:World}{h h':Heap}{a:Addr}{ss:List Value}(x:mC w h a ss)(k:∀o,h.get? a=some o->h'.get? a=some o):mC w h' a ss:=by
 obtain⟨o,es,ep,t,l,ho,r⟩:=x;exact⟨o,es,ep,t,l,k o ho,r⟩
theorem oB{w:World}(l:List (Int×Value)):l.map (oA w)=l:=List.map_id' l
theorem zr{w:World}{l es:List (Int×Value)}(hp:es.Perm (l.map (oA w))):∃l':List (Int×Value),es=l'.map (oA w)/\l'.Perm l:=⟨es,(oB es).symm,by rw[oB]at hp;exact hp⟩
def lA(p:Int×Value):Value:=p.2
def iR(l:List (Int×Value))(i:Nat)(v:Value):Prop:=(l[i]?).map lA=some v
section
variable {prog:Program}{w:World}{A:Around}{E:Value->Shared->Prop}{s:Shared}{I a:Addr}{o:Obj}{es:Array (Int×Value)}{ep:Nat}{t:SetTable}
theorem xY{l:List (Int×Value)}(he:es.toList=l.map (oA w))(p:Nat):es[p]?=(l[p]?).map (oA w):=by
 rw[<-cu,he,aP]
theorem zt(hb:pf w=true)(hd:o.data=.set es ep t)(hf:t.fits es.size=true){l:List (Int×Value)}(he:(pickOrder (w.params.setOrder a ep) es).toList=l.map (oA w))(hl:l.length=es.size)(ff:I≠a)(A':Around)(hh:A'.handled=none):
  Walks prog w A' I [I,a] [I] l.length (iR l) (fun i h=>h.get? I=some (pT (rawInt 0) i a es.size ep)/\h.get? a=some o) where
 sub:=fun b hb=>by simp at hb;simp[hb]
 frame:=fun i h h' st k=>⟨k I (by simp) _ st.1,k a (by simp) _ st.2⟩
 item:=fun i s Q E hi st hQ=>by
  have e1:(pickOrder (w.params.setOrder a ep) es)[i]?=(l[i]?).map (oA w):=by rw[<-cu,he,aP]
  rw[aB hi]at e1;refine vQ (slot:=0) (r:=some ((oA w l[i]).2,0)) hh st.1 st.2 hd hf (fun B E' Q' q=>uX hb st.2 hd hf (by rw[e1];exact q)) (fun x nx e h' g sb=>?_) fun e=>nomatch e;cases e;exact hQ _ h' s.toks (by unfold iR;rw[aB hi];rfl) ⟨g,(sb.2 a (cv ff)).trans st.2⟩ fun b o hb e=>sb.extBut b o (fun z=>hb (by simp[z])) e
 done:=fun s Q E st hQ=>by
  have e1:(pickOrder (w.params.setOrder a ep) es)[l.length]?=none:=by
   rw[<-cu,he,aP,mM.mpr (ak _)];rfl
  refine vQ (slot:=0) (r:=none) hh st.1 st.2 hd hf (fun B E' Q' q=>uX hb st.2 hd hf (by rw[e1];exact q)) (fun x nx e=>nomatch e) fun _ h' eb=>?_
  exact hQ h' s.toks fun b o hb e=>eb b o (fun z=>hb (by simp[z])) e
 self:=fun i s Q E st hQ=>vR st.1 hQ
theorem Cz(hb:pf w=false)(hl:t.led=true)(hz:t.plain=true\/es.size<=1)(hr:k_ t.place)(hd:o.data=.set es ep t)(hf:t.fits es.size=true){l:List (Int×Value)}(he:es.toList=l.map (oA w))(ff:I≠a)(A':Around)(hh:A'.handled=none):
  Walks prog w A' I [I,a] [I] l.length (iR l) (fun i h=>h.get? I=some (pT (rawInt (slotAt t i:Nat)) i a es.size ep)/\h.get? a=some o):=by
 have hlen:l.length=es.size:=by have q:=bJ List.length he;rw[bq,ah]at q;exact q.symm
 have ME:t.place.size=es.size:=by
  simp only[SetTable.fits,aJ,h9]at hf;exact hf.1
 exact{
  sub:=fun b hb=>by simp at hb;simp[hb]
  frame:=fun i h h' st k=>⟨k I (by simp) _ st.1,k a (by simp) _ st.2⟩
  item:=fun i s Q E hi st hQ=>by
   have e0:es[i]?=some (oA w l[i]):=by rw[xY he,aB hi];rfl
   have e1:t.place[i]?=some (t.place.getD i 0):=by rw[cw,bV (by omega)];rfl
   refine vQ (slot:=slotAt t i) (r:=some ((oA w l[i]).2,t.place.getD i 0+1)) hh st.1 st.2 hd hf (fun B E' Q' q=>xB hb hl hz st.2 hd hf (by rw[sD hr (by omega),e0,e1];exact q)) (fun x nx e h' g sb=>?_) fun e=>nomatch e;cases e;exact hQ _ h' s.toks (by unfold iR;rw[aB hi];rfl) ⟨g,(sb.2 a (cv ff)).trans st.2⟩ fun b o hb e=>sb.extBut b o (fun z=>hb (by simp[z])) e
  done:=fun s Q E st hQ=>by
   have e1:es[l.length]?=none:=mL.mpr (by omega)
   refine vQ (slot:=slotAt t l.length) (r:=none) hh st.1 st.2 hd hf (fun B E' Q' q=>xB hb hl hz st.2 hd hf (by rw[sD hr (by omega),e1];exact q)) (fun x nx e=>nomatch e) fun _ h' eb=>?_
   exact hQ h' s.toks fun b o hb e=>eb b o (fun z=>hb (by simp[z])) e
  self:=fun i s Q E st hQ=>vR st.1 hQ}
theorem xZ{tp:Addr}{ot:Obj}{ps:List Nat}{m:Nat}(hd:o.data=.set es ep t)(hf:t.fits es.size=true)(Rn:ot.data=.seq (ps.map fun i=>rawInt (i:Nat)).toArray m){l l':List (Int×Value)}(he:es.toList=l.map (oA w))(XG:∀i:Nat,l'[i]?=(ps[i]?).bind fun p=>l[p]?)(ME:∀p∈ps,p<l.length)
  (hlen:l'.length=ps.length) (ff:I≠a) (XH:I≠tp) (A':Around) (hh:A'.handled=none):
  Walks prog w A' I [I,a,tp] [I] l'.length (iR l') (fun i h=>h.get? I=some (pT (.ref tp) i a es.size ep)/\h.get? a=some o/\h.get? tp=some ot) where
 sub:=fun b hb=>by simp at hb;simp[hb]
 frame:=fun i h h' st k=>⟨k I (by simp) _ st.1,k a (by simp) _ st.2.1,k tp (by simp) _ st.2.2⟩
 item:=fun i s Q E hi st hQ=>by
  have Pr:i<ps.length:=by omega
  have oX:(ps.map fun i=>rawInt (i:Nat)).toArray[i]?=some (rawInt (ps[i]:Nat)):=by simp[Pr]
  have hp:ps[i]<l.length:=ME _ (f' Pr);have e1:es[ps[i]]?=some (oA w l[ps[i]]):=by rw[xY he,aB hp];rfl
  have e2:l'[i]?=some l[ps[i]]:=by rw[XG,aB Pr];exact aB hp
  refine D8 hh st.1 st.2.1 hd hf st.2.2 Rn (fun p e h1 h2 h' g sb=>?_) (fun z=>by rw[oX]at z;cases z) (fun v hv=>?_)
  ·rw[oX]at h1;have TJ:((ps[i]:Nat):Int)=(p:Int):=by
    have q:=Option.some.inj h1;injection q
   have TM:ps[i]=p:=by omega
   subst TM;rw[e1]at h2;cases h2;exact hQ _ h' s.toks (by unfold iR;rw[e2];rfl) ⟨g,(sb.2 a (cv ff)).trans st.2.1,(sb.2 tp (cv XH)).trans st.2.2⟩ fun b o hb e=>sb.extBut b o (fun z=>hb (by simp[z])) e
  ·rw[oX]at hv;cases hv;exact⟨_,_,rfl,e1⟩
 done:=fun s Q E st hQ=>by
  have oX:(ps.map fun i=>rawInt (i:Nat)).toArray[l'.length]?=none:=by simp[hlen]
  refine D8 hh st.1 st.2.1 hd hf st.2.2 Rn (fun p e h1=>by rw[oX]at h1;cases h1) (fun _ h' eb=>?_) (fun v hv=>by rw[oX]at hv;cases hv);exact hQ h' s.toks fun b o hb e=>eb b o (fun z=>hb (by simp[z])) e
 self:=fun i s Q E st hQ=>vR st.1 hQ
theorem CA{ss:List Value}{Q:Value->Shared->Prop}(hS:mC w s.heap a ss)
  (hQ:∀(h':Heap) (d:Drawn) (I:Addr) (fp:List Addr) (St:Nat->Heap->Prop) (l:List (Int×Value)),(l.map (·.2)).Perm ss->(∀b o,s.heap.get? b=some o->h'.get? b=some o)->s.heap.objs.size<=I->(∀b∈fp,b=a\/s.heap.objs.size<=b)->
   (∀A':Around,A'.handled=none->Walks prog w A' I fp [I] l.length (iR l) St)->St 0 h'->Q (.ref I) {s with heap:=h',drawn:=d}):wpAny (model prog w) A (pyIter (.ref a)) Q E s:=by
 obtain⟨o,es,ep,t,l,ho,hex,hd,he,hp,hn,hb,hf,hl,oX⟩:=id hS;have eG:a<s.heap.objs.size:=ar ho;have hlen:l.length=es.size:=by have q:=bJ List.length he;rw[bq,ah]at q;exact q.symm
 refine rP hS.typeIs PySem.F.slot_set_iter (dN PySem.F.slot_set_iter hS.typeIs qv ?_ (PySem.F.args_set_iter_1 _));unfold Builtin.«frozenset.__iter__»;refine aa (m:=Builtin.Frozenset.slot0 "__iter__" _) (ae ?_);refine aa ?_
 unfold Builtin.Frozenset.sizeOf;refine aa (iQ ho hd hf (ae ?_));refine aa ?_
 unfold setDrawn;refine aa (cV ho hd hf ?_);dsimp only;refine aa (lO (ae ?_));refine fZ (fun VJ=>?_) (fun VJ=>?_)
 ·
  refine aa (l7 _ _ _ _ (fW ..) fun ps d ME=>?_);have hz:((ps.map fun(i:Nat)=>rawInt i)).length<=sizeLine:=by
   rw[ah,ME.length_eq,fW];exact fits_of_scanBound hb
  refine aa (nJ (hsz:=hz) ?_);have IM:(s.heap.push {cls:=.type "tuple",data:=.seq (ps.map fun(i:Nat)=>rawInt i).toArray}).get? a=some o:=aC _ ho;have J':(s.heap.push {cls:=.type "tuple",data:=.seq (ps.map fun(i:Nat)=>rawInt i).toArray}).objs.size=s.heap.objs.size+1:=gc ..;refine aa (wpAny_setEpoch_of IM hd hf ?_);refine aa (fX ?_);refine ae ⟨_,rfl,"set_iterator",_,⟨_,aU _ rfl,rfl⟩,cG.lookup,?_⟩;have Pt:∀p∈ps,p<l.length:=fun p hm=>by
   have q:=cC.mp (ME.mem_iff.mp hm);omega
  have lB:(ps.map fun p=>l.getD p (0,Value.none)).Perm l:=by
   have q:=ME.map fun p=>l.getD p (0,Value.none);have e:(List.range es.size).map (fun p=>l.getD p (0,Value.none))=l:=by
    rw[<-hlen];refine kf (by simp) fun i h1 h2=>?_
    simp[h2]
   rw[e]at q;exact q
  refine hQ _ d _ [_,a,s.heap.objs.size] _ (ps.map fun p=>l.getD p (0,Value.none)) ((lB.map _).trans hp) (fun b o e=>aC _ (aC _ e)) (by rw[J'];exact hZ _) (fun b hm=>?_)
   (fun A' hA=>xZ (ot:={cls:=.type "tuple",data:=.seq (ps.map fun(i:Nat)=>rawInt i).toArray}) (ps:=ps) hd hf rfl he (fun i=>?_) Pt (ah ..) ?_ ?_ A' hA)
   ⟨aU _ rfl,aC _ IM,aC _ (aU _ rfl)⟩
  ·simp only[aN,eM,dB]at hm;rcases hm with rfl|rfl|rfl
   ·right;rw[J'];exact hZ _
   ·left;rfl
   ·right;exact ak _
  ·rw[aP];cases e:ps[i]? with
   |none=>rfl
   |some p=>
    have oX:=Pt p (bw e);show some (l.getD p (0,Value.none))=l[p]?
    rw[bb,aB oX];rfl
  ·rw[J'];exact cy (f_ eG)
  ·rw[J'];exact Nat.succ_ne_self _
 ·refine aa (ae ?_);refine aa (wpAny_setEpoch_of ho hd hf ?_);refine aa (fX ?_);refine ae ⟨_,rfl,"set_iterator",_,⟨_,aU _ rfl,rfl⟩,cG.lookup,?_⟩;have RD:∀b∈[s.heap.objs.size,a],b=a\/s.heap.objs.size<=b:=fun b hm=>by
   simp only[aN,eM,dB]at hm;rcases hm with rfl|rfl
   ·exact .inr (ak _)
   ·exact .inl rfl
  have ff:s.heap.objs.size≠a:=cy eG;cases RE:pf w with
  |true=>
   have TJ:=Cb (w.params.setOrder a ep) es;rw[he]at TJ;obtain⟨l2,e2,p2⟩:=zr TJ;exact hQ _ s.drawn _ [_,a] _ l2 ((p2.map _).trans hp) (fun b o e=>aC _ e) (ak _) RD (fun A' hA=>zt RE hd hf e2 (p2.length_eq.trans hlen) ff A' hA) ⟨aU _ rfl,aC _ ho⟩
  |false=>
   have XI:t.plain=true\/es.size<=1:=by
    cases hp:t.plain with
    |true=>exact .inl rfl
    |false=>
     refine .inr (rA fun hz=>VJ ?_);show(!pf w&&(!t.plain&&decide (es.size>1)))=true;rw[RE,hp,bF hz]
     rfl
   have TN:t.led=true:=hl.resolve_left (by rw[RE];exact cP);exact hQ _ s.drawn _ [_,a] _ l hp (fun b o e=>aC _ e) (ak _) RD (fun A' hA=>Cz RE TN XI oX hd hf he ff A' hA) ⟨aU _ rfl,aC _ ho⟩
variable {ss:List Value}
theorem x6{R:Result->Shared->Prop}(hh:A.handled=none)(hS:mC w s.heap a ss)(L:Addr)(VL:L≠a)(res:Value)(hL:s.heap.get? L=some {cls:=.type "list",data:=.seq #[] 0})
  (hR:∀h' tk d iw c' l,(l.map (·.2)).Perm ss->(∀b o,b≠L->s.heap.get? b=some o->h'.get? b=some o)->h'.get? L=some {cls:=.type "list",dict:=none,data:=.seq iw c',slots:=#[]}->ItemsOf (iR l) iw l.length->
   R (.ok (.ret res)) {s with heap:=h',toks:=tk,drawn:=d}) (hn:ss.length<=sizeLine):
  wpAny (model prog w) A.in1 (Builtin.List.listExtendWith (.ref L) (.ref a) res) (fun fin s'=>match fin with|.done f=>R (.ok f) s'|.again c'=>c'.quiet=true/\codeAny (model prog w) A c' R s') (fun e s'=>R (.error e) s') s:=by
 have Pu:L<s.heap.objs.size:=ar hL;unfold Builtin.List.listExtendWith;refine aa (h8 (T:="set") hS.typeIs ?_);have h1:Builtin.List.listSameRef (.ref L) (.ref a)=false:=by simp[Builtin.List.listSameRef,VL]
 have h2:(Value.type "set"==Value.type "list")=false:=by decide
 have h3:(Value.type "set"==Value.type "tuple")=false:=by decide
 simp only[h1,h2,h3,nv,aV,aR];refine aa (CA hS fun dP d I fp St l hp hk hI RD W st=>?_);have hlen:l.length=ss.length:=by have q:=hp.length_eq;rw[ah]at q;exact q
 have Pw:Shared.TypeIs {s with heap:=dP,drawn:=d} (.ref a) "set":=by
  obtain⟨o,ho,hc⟩:=hS.typeIs;exact⟨o,hk _ _ ho,hc⟩
 have VM:L∉fp:=fun m=>by
  rcases RD L m with e|e
  ·exact VL e
  ·exact absurd (bN Pu e) (cX _)
 have YW:L≠I:=aM (bN Pu hI);have OT:=hk _ _ hL;have key:∀(h:Heap) (c₁ tk:Nat),St 0 h->(∀b o,b≠L->s.heap.get? b=some o->h.get? b=some o)->h.get? L=some {cls:=.type "list",data:=.seq #[] c₁}->
   codeAny (model prog w) A (.builtin "list.extend.loop" ⟨[.ref L,.ref I,res],[]⟩) R {s with heap:=h,toks:=tk,drawn:=d}:=by
  intro h c₁ tk dD RF Px;refine codeAny_extend_loopS (W A.in1 hh).toS (by omega) L VM res l.length 0 _ #[] c₁ rfl (bP _) dD Px (ItemsOf.nil _) fun s' iw c' hm zu pB=>?_
  rw[Moved.eq_with hm];refine hR s'.heap s'.toks d iw c' l hp (fun b o hb e=>hm.heap b o (fun K_=>?_) (RF b o hb e)) zu pB;rcases aN.mp K_ with e'|K_
  ·exact hb e'
  ·exact absurd (bN (ar e) hI) (by rw[cB.mp K_];exact cX _)
 refine aa (cn (D9 Pw ?_));refine fZ (fun _=>?_) (fun _=>ae ⟨eC PySem.F.plain_extend_loop _,key _ 0 _ st (fun b o _ e=>hk b o e) OT⟩);refine aa (fv ?_);refine aa ?_
 show wpAny _ _ (updateSeq L (·.push .none)>>=fun _=>updateSeq L (·.pop)) _ _ _;refine aa (wpAny_updateSeq OT rfl ?_);have I0:=iA (Obj.mapSeq (·.push Value.none)) OT rfl;refine wpAny_updateSeq (hz:=by seq_fits) I0 rfl ?_
 have Py:=iA (Obj.mapSeq (·.pop)) I0 rfl;refine ae ⟨eC PySem.F.plain_extend_loop _,key _ _ _ ?_ (fun b o hb e=>?_) Py⟩
 ·refine(W A.in1 hh).frame 0 _ _ st fun b hb o e=>?_
  have VN:b≠L:=fun z=>VM (z▸hb);exact(j8 _ _ (cv VN)).trans ((j8 _ _ (cv VN)).trans e)
 ·exact(j8 _ _ (cv hb)).trans ((j8 _ _ (cv hb)).trans (hk b o e))
theorem oC{R:List Value->Shared->Prop}(hh:A.handled=none)(hS:mC w s.heap a ss)(hn:ss.length<=sizeLine)
  (h:∀(h':Heap) (tk:Nat) (d:Drawn) (l:List (Int×Value)),(l.map (·.2)).Perm ss->(∀b o,s.heap.get? b=some o->h'.get? b=some o)->s.heap.objs.size<=h'.objs.size->R (l.map lA) {s with heap:=h',toks:=tk,drawn:=d}):wpAny (model prog w) A (collect (.ref a)) R E s:=by
 have eG:a<s.heap.objs.size:=by obtain⟨o,ho,_⟩:=hS.typeIs;exact ar ho
 have items:∀(l:List (Int×Value)) (acc:Array Value),ItemsOf (iR l) acc l.length->acc.toList=l.map lA:=fun l acc hi=>by
  refine rn fun i=>?_
  rw[aP,cu];cases e:acc[i]? with
  |none=>
   have h1:acc.size<=i:=mL.mp e;rw[hi.1]at h1;rw[mM.mpr h1];rfl
  |some v=>exact(hi.2 i v e).symm
 unfold collect;refine aa (nK (dZ entry_proto_collect' ?_));rw[fj wL _];show wpAny _ A.in1 (newList []>>=fun l=>again (.builtin "list.__iadd__" ⟨[l,.ref a],[]⟩)) _ _ s;refine aa (fX ?_);refine ae ⟨eC mP _,dZ entry_list_iadd' ?_⟩;rw[fj mP _];have hL:(s.heap.push {cls:=.type "list",data:=.seq ([]:List Value).toArray}).get? s.heap.objs.size=some {cls:=.type "list",data:=.seq #[]}:=aU _ rfl;show wpAny _ A.in1 (Builtin.List.listExtendWith (.ref s.heap.objs.size) (.ref a) (.ref s.heap.objs.size)) _ _ _;have key:=x6 (prog:=prog) (A:=A) (s:={s with heap:=s.heap.push {cls:=.type "list",data:=.seq ([]:List Value).toArray}}) (ss:=ss)
  (R:=fun(q:Result) (s':Shared)=>∃(h':Heap) (tk:Nat) (d:Drawn) (iw:Array Value) (c':Nat) (l:List (Int×Value)),q=.ok (.ret (.ref s.heap.objs.size))/\s'={s with heap:=h',toks:=tk,drawn:=d}/\
   (l.map (·.2)).Perm ss/\(∀b o,s.heap.get? b=some o->h'.get? b=some o)/\h'.get? s.heap.objs.size=some {cls:=.type "list",dict:=none,data:=.seq iw c',slots:=#[]}/\ItemsOf (iR l) iw l.length)
  hh (hS.keep fun o e=>aC _ e) s.heap.objs.size (cy eG) (.ref s.heap.objs.size) hL
  (fun h' tk d iw c' l hp hk zu pB=>⟨h',tk,d,iw,c',l,rfl,rfl,hp,fun b o e=>hk b o (aM (ar e)) (aC _ e),zu,pB⟩) hn
 refine c0 key (fun fin s' x=>?_) fun e s' x=>?_
 ·cases fin with
  |done f=>
   obtain⟨h',tk,d,iw,c',l,e,rfl,hp,hk,zu,pB⟩:=x;cases e;show wpAny _ A (load s.heap.objs.size>>=_) _ _ _;refine aa (kA zu ?_);refine ae ?_
   rw[items l iw pB];exact h h' tk d l hp hk (gf (ar zu))
  |again c₁=>
   refine⟨x.1,fq x.2 fun q lT y=>?_⟩;obtain⟨h',tk,d,iw,c',l,rfl,rfl,hp,hk,zu,pB⟩:=y;show wpAny _ A (load s.heap.objs.size>>=_) _ _ _;refine aa (kA zu ?_);refine ae ?_
   rw[items l iw pB];exact h h' tk d l hp hk (gf (ar zu))
 ·obtain⟨_,_,_,_,_,_,e',_⟩:=x;cases e'
end
end L2
namespace L2
open PySem PySem.Spec PyProof.Rows
section
variable {prog:Program}{w:World}{A:Around}{E:Value->Shared->Prop}{s:Shared}
theorem vb{d:Nat}{v:Value}(h:carriedByValue v=true):ofAClassStatement d v=pure false:=by
 cases v<;>first|(cases h;done)|(unfold ofAClassStatement;rfl)
theorem vc{ks:List Key}{a:Addr}{Q:Bool->Shared->Prop}(hk:(tupleKind (ay prog w)).is s.heap ks a)(h:Q false s):wpAny (model prog w) A (ofAClassStatement 8 (.ref a)) Q E s:=by
 have hT:s.TypeIs (.ref a) "tuple":=IsTupleKey.typeIs hk;obtain⟨o,items,n,ho,hc,hd,hi⟩:=hk;unfold ofAClassStatement;refine aa (h8 hT ?_);dsimp only;rw[ab (by decide)];refine aa (ae ?_);simp only[eQ,aV,aR];refine aa (dO ho hd ?_);dsimp only;refine aa ?_
 show wpAny _ _ (forIn items _ _) _ _ s;rw[<-iB];refine fY _ (fun rest r s'=>r.1=none/\s'=s/\∀v∈rest,carriedByValue v=true) _ ?_ ?_ _ _ ⟨rfl,rfl,hi.byValue⟩
 ·rintro v rest r s' ⟨hr,rfl,fO⟩
  rw[vb (fO v aS)];refine aa (ae ?_);simp only[aV,aR];exact ae ⟨rfl,rfl,fun u v5=>fO u (aO _ v5)⟩
 ·rintro ⟨r1,r2⟩ s' ⟨hr,rfl,_⟩
  simp only at hr;subst hr;exact ae h
theorem A5{d:Nat}{k:Key}{v:Value}(h:(ay prog w).is k v=true):∃b,hashByValue d v=pure b:=by
 have h:nN k v=true:=h;cases k with
 |inl i=>cases v<;>first|exact⟨_,by unfold hashByValue;rfl⟩|cases h
 |inr z=>cases v<;>first|exact⟨_,by unfold hashByValue;rfl⟩|cases h
theorem Hq{ks:List Key}{a:Addr}{Q:Bool->Shared->Prop}(hk:(tupleKind (ay prog w)).is s.heap ks a)(h:∀b,Q b s):wpAny (model prog w) A (hashByValue 8 (.ref a)) Q E s:=by
 have hT:s.TypeIs (.ref a) "tuple":=IsTupleKey.typeIs hk;obtain⟨o,items,n,ho,hc,hd,hi⟩:=hk;unfold hashByValue;refine aa (g8 hT i8.lookup ?_);refine aa (dO ho hd ?_);dsimp only;refine aa ?_
 show wpAny _ _ (forIn items _ _) _ _ s;rw[<-iB];refine fY _ (fun rest r s'=>r.1=none/\s'=s/\∀v∈rest,∃k,(ay prog w).is k v=true) _ ?_ ?_ _ _ ⟨rfl,rfl,?_⟩
 ·rintro v rest r s' ⟨hr,rfl,fO⟩
  obtain⟨k,hk⟩:=fO v aS;obtain⟨b,e⟩:=A5 (d:=7) hk;rw[e];refine aa (ae ?_);cases b with
  |true=>exact ae ⟨rfl,rfl,fun u v5=>fO u (aO _ v5)⟩
  |false=>exact ae (ae (h _))
 ·rintro ⟨r1,r2⟩ s' ⟨hr,rfl,_⟩
  simp only at hr;subst hr;exact ae (h _)
 ·clear ho hc hd hT
  generalize items.toList=aZ at hi
  induction hi with
  |nil=>intro v hv;simp at hv
  |cons h1 _ ih=>
   intro v hv;rcases aN.mp hv with rfl|hv
   ·exact⟨_,h1⟩
   ·exact ih v hv
theorem K'{k:List Key}{b:Addr}{Q:Bool->Shared->Prop}(hk:(tupleKind (ay prog w)).is s.heap k b){l:List Value}(hl:∀y∈l,∃k' c,y=.ref c/\(tupleKind (ay prog w)).is s.heap k' c)(h:Q false s):wpAny (model prog w) A (searchCouldBeSeen (.ref b) l) Q E s:=by
 unfold searchCouldBeSeen;refine aa ?_
 refine fY _ (fun rest r s'=>r.1=none/\s'=s/\∀y∈rest,∃k' c,y=.ref c/\(tupleKind (ay prog w)).is s.heap k' c) _ ?_ ?_ _ _ ⟨rfl,rfl,hl⟩
 ·rintro v rest r s' ⟨hr,rfl,fO⟩
  obtain⟨k',c,rfl,hc⟩:=fO v aS;have nx:r.1=none/\s'=s'/\∀y∈rest,∃k' c,y=Value.ref c/\(tupleKind (ay prog w)).is s'.heap k' c:=⟨hr,rfl,fun u v5=>fO u (aO _ v5)⟩;dsimp only;refine fZ (fun _=>ae ⟨rfl,rfl,nx.2.2⟩) (fun _=>?_);refine aa ((tupleKind (ay prog w)).quiet hk ?_);simp only[eQ,aV,aR];refine aa ((tupleKind (ay prog w)).quiet hc ?_);simp only[eQ,aV,aR];refine aa (vc hk ?_);simp only[aV,aR];refine aa (vc hc ?_);simp only[aV,aR];exact ae ⟨rfl,rfl,nx.2.2⟩
 ·rintro ⟨r1,r2⟩ s' ⟨hr,rfl,_⟩
  simp only at hr;subst hr;exact ae h
structure l9(t:SetTable)(n:Nat):Prop where
 dm:t.dummies=#[]
 ms:t.mask=7\/t.mask=31
 le:∀x∈t.place.toList,x<=t.mask
 sz:t.place.size=n
 La:n*5<t.mask*3
 rise:k_ t.place
theorem l9.fits {t:SetTable}{n:Nat}(h:l9 t n):t.fits n=true:=by
 unfold SetTable.fits SetTable.fill;rw[h.dm,h.sz,bB,nC,ck];have:=h.La;show n+0<=_;omega
theorem l9.odd {t:SetTable}{n:Nat}(h:l9 t n):t.gaveWay=false:=by
 unfold SetTable.gaveWay;rcases h.ms with e|e<;>rw[e]<;>rfl
def Lb(prog:Program)(w:World)(p:List Key×Addr):Int×Value:=((tupleKind (ay prog w)).hash p.1,.ref p.2)
theorem Ey{t:SetTable}(hd:t.dummies=#[]) {ha:Nat->Int} {h:Int} {N fuel:Nat} {p:SetTable.Probe} {g:Option SetTable.Met} (hg:SetTable.probe.go t ha h fuel p=g) (hN:N<fuel) (pb:PB t p) (hs:t.slot (bo t N p).j=.empty):
  (∃j,g=some (.empty j none)/\t.slot j=.empty/\j<=t.mask)\/∃j i n,g=some (.candidate j i (bo t (n+1) p))/\n<N/\t.slot j=.live i/\t.place[i]?=some j:=by
 subst hg;rcases AZ hd N fuel p hN pb hs with⟨j,e,e1,e2⟩|⟨j,i,n,e,hn,e1,e2,e3⟩
 ·exact .inl ⟨j,e,e1,e2⟩
 ·exact .inr ⟨j,i,n,e,hn,e1,e2⟩
theorem x8{a b:Addr}{o:Obj}{es:Array (Int×Value)}{ep:Nat}{t:SetTable}{k:List Key}{Q:SetFound->Shared->Prop}(hu:A.units<cLine)(ho:s.heap.get? a=some o)(hd:o.data=.set es ep t)(tk:l9 t es.size)(hk:(tupleKind (ay prog w)).is s.heap k b)
  (yE:∀e∈es.toList,∃k' c,e.2=.ref c/\(tupleKind (ay prog w)).is s.heap k' c/\k'≠k) {h:Int}
  (hQ:∀j,t.slot j=.empty->j<=t.mask->Q (.free j false) s):∀(N fuel:Nat) (st:Option SetTable.Probe),N<fuel->N<10*SetTable.turns t.mask->PB t (st.getD (t.probeStart h))->t.slot (bo t N (st.getD (t.probeStart h))).j=.empty->
   wpAny (model prog w) A (setSearchFrom a (.ref b) h true fuel st) Q E s:=by
 have hf:=tk.fits;intro N
 induction N using Nat.strongRecOn with
 |ind N ih=>
  intro fuel st hN TQ pb hs;cases fuel with
  |zero=>omega
  |succ fuel=>
   unfold setSearchFrom;refine aa (cV ho hd hf ?_);dsimp only;rw[tk.odd];simp only[aV,aR];unfold SetTable.probe;generalize hg:SetTable.probe.go t _ h (10*SetTable.turns t.mask) (st.getD (t.probeStart h))=g;rcases Ey tk.dm hg TQ pb hs with⟨j,e,e1,e2⟩|⟨j,i,n,e,hn,e1,e2⟩
   ·rw[e];exact ae (hQ j e1 e2)
   ·rw[e];dsimp only;have hi:i<es.size:=by rw[<-tk.sz];exact(lG.mp e2).1
    have Hr:es[i]?=some es[i]:=bV hi
    obtain⟨k',c,ey,hc,ff⟩:=yE es[i] (by rw[j_];exact Array.getElem_mem hi);have rest:wpAny (model prog w) A (do
      let some (_,y):=es[i]? |unsupported "internal:set-entry"
      let equal<-holding [y] (eqBool y (.ref b))
      let(FX,_,t')<-setState a
      if true&&equal then return .there none
      let some same:=t'.sameMemory t.moves t.mask|unsupported "set.changed-during-lookup:is-the-new-block-at-the-old-address"
      let Ez<-match(if same then t'.slot j else .empty)with
       |.live i'=>match FX[i']? with
        |some (_,y')=>do pure (if<-isSame y' y then some i' else none)
        |none=>pure none
       |_=>pure none
      match Ez with
      |none=>rule "set.search.anew";setSearchFrom a (.ref b) h true fuel none
      |some i'=>if equal then return .there (some i')else setSearchFrom a (.ref b) h true fuel (some (bo t (n+1) (st.getD (t.probeStart h))))) Q E s:=by
     rw[Hr];generalize es[i]=ee at ey Hr;obtain⟨eh,ev⟩:=ee;have ey:ev=.ref c:=ey;subst ey;dsimp only;refine aa (cn ((tupleKind (ay prog w)).eqBool hu hc hk ?_));rw[bg ff];refine aa (cV ho hd hf ?_);dsimp only;simp only[kn,aV,aR];have Pj:t.sameMemory t.moves t.mask=some true:=by unfold SetTable.sameMemory;rw[ab (bB _)]
     rw[Pj];dsimp only;simp only[dC];rw[e1];dsimp only;rw[Hr];dsimp only;refine aa (wpAny_isSame_ref_self ?_);refine aa (ae ?_);simp only[dC];refine ih (N - (n+1)) (by omega) fuel (some (bo t (n+1) (st.getD (t.probeStart h)))) (by omega) (by omega) ?_ ?_
     ·show PB t (bo t (n+1) _);have:∀(m:Nat) (p:SetTable.Probe),PB t p->PB t (bo t m p):=by
       intro m
       induction m with
       |zero=>exact fun p h=>h
       |succ m Ot=>exact fun p h=>Ot _ h.RC
      exact this _ _ pb
     ·show t.slot (bo t (N - (n+1)) (bo t (n+1) _)).j=_;rw[<-dh,show n+1+(N - (n+1))=N by omega];exact hs
    cases hl:t.led with
    |true=>
     simp only[eQ,aV,aR];exact rest
    |false=>
     simp only[nr,dC];refine aa (K' hk (fun y hy=>?_) ?_)
     ·obtain⟨e',Pz,rfl⟩:=aW.mp hy;have TR:e'∈es.toList:=by
       rw[j_]at Pz⊢;exact(Array.mem_filter.mp Pz).1
      obtain⟨k2,c2,h1,h2,_⟩:=yE e' TR;exact⟨k2,c2,h1,h2⟩
     ·simp only[aV,aR];exact rest
end
end L2
namespace L2
open PySem PySem.Spec PyProof.Rows
def NV(h:Heap):Nat->Tr->Value->Prop
 |0,t,v=>∃i w,t=.int i/\v=.int i w
 |d+1,t,v=>(∃i w,t=.int i/\v=.int i w)\/∃ts a o items n,t=.tup ts/\v=.ref a/\h.get? a=some o/\o.cls=.type "tuple"/\o.data=.seq items n/\ts.length=items.size/\∀(i:Nat) t v,ts[i]?=some t->items[i]?=some v->NV h d t v
structure NT(h:Heap)(d:Nat)(ts:List Tr)(a:Addr)(o:Obj)(items:Array Value)(n:Nat):Prop where
 g:h.get? a=some o
 c:o.cls=.type "tuple"
 dt:o.data=.seq items n
 l:ts.length=items.size
 k:∀(i:Nat) t v,ts[i]?=some t->items[i]?=some v->NV h d t v
theorem NV.inv {h:Heap}{d:Nat}{t:Tr}{v:Value}(x:NV h d t v):(∃i w,t=.int i/\v=.int i w)\/∃d' ts a o items n,d=d'+1/\t=.tup ts/\v=.ref a/\NT h d' ts a o items n:=by
 cases d with
 |zero=>exact .inl x
 |succ d=>
  rcases x with x|⟨ts,a,o,items,n,e1,e2,h1,h2,h3,h4,h5⟩
  ·exact .inl x
  ·exact .inr ⟨d,ts,a,o,items,n,rfl,e1,e2,h1,h2,h3,h4,h5⟩
theorem NV.keep {h h':Heap}(k:∀b o xs n,o.cls=Value.type "tuple"->o.data=.seq xs n->h.get? b=some o->h'.get? b=some o):∀{d:Nat} {t:Tr} {v:Value},NV h d t v->NV h' d t v
 |0,_,_,x=>x
 |d+1,t,v,x=>by
  rcases x with x|⟨ts,a,o,items,n,e1,e2,h1,h2,h3,h4,h5⟩
  ·exact .inl x
  ·exact .inr ⟨ts,a,o,items,n,e1,e2,k _ _ _ _ h2 h3 h1,h2,h3,h4,fun i t v e1 e2=>NV.keep k (h5 i t v e1 e2)⟩
theorem list_eq{ts us:List Tr}(hl:ts.length=us.length)(h:∀(i:Nat) t u,ts[i]?=some t->us[i]?=some u->t=u):ts=us:=
 kf hl fun i h1 h2=>h i _ _ (aB h1) (aB h2)
theorem NV.fn {h:Heap}:∀{d:Nat} {t t':Tr} {v:Value},NV h d t v->NV h d t' v->t=t'
 |0,_,_,_,⟨i,w,e1,e2⟩,⟨i',w',qJ,Dc⟩=>by subst e1 qJ e2;injection Dc with e;rw[e]
 |d+1,_,_,_,x,y=>by
  rcases x with⟨i,w,e1,e2⟩|⟨ts,a,o,items,n,e1,e2,h1,h2,h3,h4,h5⟩<;>rcases y with⟨i',w',qJ,Dc⟩|⟨mI,a',o',EA,n',qJ,Dc,Ct,FN,wG,VO,TU⟩
  ·subst e1 qJ e2;injection Dc with e;rw[e]
  ·rw[e2]at Dc;cases Dc
  ·rw[e2]at Dc;cases Dc
  ·subst e1 qJ e2;cases Dc;rw[h1]at Ct;cases Ct;rw[h3]at wG;cases wG;refine bJ Tr.tup (list_eq (h4.trans VO.symm) fun i t u a1 a2=>?_);have hi:=(b_.mp a1).1;have e:items[i]?=some (items[i]'(by omega)):=bV (by omega)
   exact NV.fn (h5 i _ _ a1 e) (TU i _ _ a2 e)
theorem A6:∀{ts:List Tr},(∀(i:Nat) t,ts[i]?=some t->n5 t=true)->jk ts=true
 |[],_=>rfl
 |t::ts,h=>by rw[jk,h 0 t rfl,A6 fun i t e=>h (i+1) t (by simpa using e)];rfl
theorem NV.pl {h:Heap}:∀{d:Nat} {t:Tr} {v:Value},NV h d t v->n5 t=true
 |0,_,_,⟨i,w,e1,e2⟩=>by subst e1;rfl
 |d+1,_,_,x=>by
  rcases x with⟨i,w,e1,e2⟩|⟨ts,a,o,items,n,e1,e2,h1,h2,h3,h4,h5⟩
  ·subst e1;rfl
  ·subst e1;rw[n5];refine A6 fun i t e=>?_
   have hi:=(b_.mp e).1;exact NV.pl (h5 i _ _ e (bV (by omega)))
theorem NV.eqT {h:Heap}:∀{d:Nat} {t t':Tr} {v v':Value},NV h d t v->NV h d t' v'->eqT t t'=true->t=t'
 |0,_,_,_,_,⟨i,w,e1,e2⟩,⟨i',w',qJ,Dc⟩,e=>by subst e1 qJ;rw[L2.eqT]at e;rw[eq_of_beq e]
 |d+1,_,_,_,_,x,y,e=>by
  rcases x with⟨i,w,e1,e2⟩|⟨ts,a,o,items,n,e1,e2,h1,h2,h3,h4,h5⟩<;>rcases y with⟨i',w',qJ,Dc⟩|⟨mI,a',o',EA,n',qJ,Dc,Ct,FN,wG,VO,TU⟩
  ·subst e1 qJ;rw[L2.eqT]at e;rw[eq_of_beq e]
  ·subst e1 qJ;simp only[L2.eqT]at e;cases e
  ·subst e1 qJ;simp only[L2.eqT]at e;cases e
  ·subst e1 qJ;rw[L2.eqT,<-n8,aJ,h9,bG]at e;refine bJ Tr.tup (list_eq e.2 fun i t u a1 a2=>?_);have hi:=(b_.mp a1).1;have qL:=(b_.mp a2).1;have q:=e.1 i (cC.mpr (by omega));rw[lM a1,lM a2]at q;exact NV.eqT (h5 i _ _ a1 (bV (by omega))) (TU i _ _ a2 (bV (by omega))) q
theorem I_{s:Shared}:∀{d:Nat} {A:Around} {t t':Tr} {v v':Value},A.units+d<cLine->NV s.heap d t v->NV s.heap d t' v'->SeqAt.EqAt A s v v' (eqT t t')
 |d,A,t,t',v,v',hu,x,y=>by
  rcases x.inv with⟨i,w,rfl,rfl⟩|⟨d1,ts,a,o,items,n,ed,rfl,rfl,x1⟩<;>rcases y.inv with⟨i',w',rfl,rfl⟩|⟨d2,mI,a',o',EA,n',YX,rfl,rfl,y1⟩
  ·rw[eqT];exact .int_int _ _ _ _
  ·simp only[eqT];exact .int_tuple _ _ ⟨o',y1.g,y1.c,n',y1.dt⟩ (by omega)
  ·simp only[eqT];exact .tuple_int _ _ ⟨o,x1.g,x1.c,n,x1.dt⟩ (by omega)
  ·have e2:d2=d1:=by omega
   subst e2;subst ed;refine Al (fun b t e=>by cases e) (fun e=>?_) ?_
   ·cases e;rw[NV.fn x y];exact kX y.pl
   ·rw[eqT,<-n8,x1.l,y1.l];refine .tuples ⟨o,x1.g,x1.c,n,x1.dt⟩ ⟨o',y1.g,y1.c,n',y1.dt⟩ (by omega) fun j h1 h2=>?_
    have a1:ts[j]?=some (ts[j]'(by rw[x1.l];exact h1)):=aB _
    have a2:mI[j]?=some (mI[j]'(by rw[y1.l];exact h2)):=aB _
    rw[lM a1,lM a2];exact I_ (d:=d2) (by show A.units+1+d2<cLine;omega) (x1.k j _ _ a1 (bV h1)) (y1.k j _ _ a2 (bV h2))
 termination_by d=>d
section
variable {prog:Program}{w:World}{s:Shared}
def hT(w:World):Nat->Tr->Int
 |0,.int i=>FV w (.inl i)
 |d+1,.int i=>FV w (.inl i)
 |d+1,.tup ts=>reduceHash (Builtin.Tuple.tupleHashOf (ts.map (hT w d)))
 |_,_=>0
theorem Lc{d:Nat}{i:Int}:hT w d (.int i)=FV w (.inl i):=by cases d<;>rfl
theorem A7:∀{d:Nat} {A:Around} {s:Shared} {t:Tr} {v:Value} {Q:Int->Shared->Prop} {E:Value->Shared->Prop},A.units+d<cLine->NV s.heap d t v->(∀tk,Q (hT w d t) {s with toks:=tk})->wpAny (model prog w) A (pyHash v) Q E s
 |d,A,s,t,v,Q,E,hu,x,h=>by
  rcases x.inv with⟨i,tk,rfl,rfl⟩|⟨d1,ts,a,o,items,n,ed,rfl,rfl,x1⟩
  ·rw[Lc]at h;exact(ay prog w).pyHash (k:=.inl i) (Az (k:=.inl i) (t:=tk)) (h _)
  ·subst ed;have BN:s.TypeIs (.ref a) "tuple":=⟨o,x1.g,x1.c⟩;unfold pyHash
   first|unfold pyHashByItsType|skip
   first|refine aa (wpAny_cRoomFor_or (.inr (show A.units<cLine by omega)) ?_)|skip
   refine aa (g8 BN i8.lookup ?_);show wpAny _ _ (if(some (Value.builtin "tuple.__hash__")==some Value.none)=true then _ else _) Q E s;rw[af (by rw[beq_builtin_none];exact cP)];refine aa (g8 BN i8.lookup ?_);show wpAny _ _ (callSpecialIfBoundUnlessNone? (.ref a) "__hash__" _>>=_) Q E s;refine aa (wpAny_callSpecialIfBoundUnlessNone?_slot BN i8 (dN i8 BN F.entry_tuple_hash ?_ (F.args_tuple_hash_1 _)));show wpAny _ _ (Builtin.Tuple.tupleItemsOf (.ref a)>>=_) _ _ s;refine aa (wpAny_tupleItemsOf x1.g x1.dt ?_);refine aa ?_
   rw[<-iB];refine fY _ (fun rest (b:Array Int) s'=>∃k tk,k<=ts.length/\rest=items.toList.drop k/\b.toList=(ts.take k).map (hT w d1)/\s'={s with toks:=tk}) _ ?_ ?_ _ _ ⟨0,s.toks,bP _,rfl,rfl,rfl⟩
   ·rintro y rest b s' ⟨k,tk,hk,hr,hb,rfl⟩
    have x9:k<items.toList.length:=by
     rcases Nat.lt_or_ge k items.toList.length with z|z
     ·exact z
     ·rw[List.drop_of_length_le z]at hr;cases hr
    rw[lI x9]at hr;injection hr with XJ VP
    rw[bq]at x9;have a1:ts[k]?=some (ts[k]'(by rw[x1.l];exact x9)):=aB _
    have a2:items[k]?=some y:=by rw[XJ,bV x9];rfl
    have e:(ts.take (k+1)).map (hT w d1)=(ts.take k).map (hT w d1)++[hT w d1 (ts[k]'(by rw[x1.l];exact x9))]:=by
     rw[List.take_succ,a1,cH];rfl
    refine aa (A7 (d:=d1) (s:={s with toks:=tk}) (by show A.units+1+d1<cLine;omega) (x1.k k _ _ a1 a2) fun Ja=>?_)
    first
     |exact ae ⟨k+1,Ja,by rw[x1.l];omega,VP,by rw[iZ,hb,e],rfl⟩
     |exact aa (ae (ae ⟨k+1,Ja,by rw[x1.l];omega,VP,by rw[iZ,hb,e],rfl⟩))
   ·rintro b s' ⟨k,tk,hk,hr,hb,rfl⟩
    have ek:ts.take k=ts:=by
     refine mR ?_
     rw[x1.l,<-bq];exact List.drop_eq_nil_iff.mp hr.symm
    rw[ek]at hb;show wpAny _ _ (retInt (Builtin.Tuple.tupleHashOf b.toList)) _ _ _;rw[hb];refine wpAny_ret_mkInt ?_
    show wpAny _ _ (if(decide (-(2:Int) ^63<=Builtin.Tuple.tupleHashOf (ts.map (hT w d1)))&&decide (Builtin.Tuple.tupleHashOf (ts.map (hT w d1))<2 ^63))=true then _ else _) Q E _;rw[hT]at h;unfold reduceHash at h;by_cases hr:(decide (-(2:Int) ^63<=Builtin.Tuple.tupleHashOf (ts.map (hT w d1)))&&decide (Builtin.Tuple.tupleHashOf (ts.map (hT w d1))<2 ^63))=true
    ·rw[ab hr];rw[ab hr]at h;exact ae (h _)
    ·rw[af hr];rw[af hr]at h;exact aa (fv (ae (h _)))
 termination_by d=>d
theorem sO{h:Heap}{d:Nat}{ts:List Tr}{a:Addr}{o:Obj}{items:Array Value}{n:Nat}(x:NT h d ts a o items n):∀v∈items.toList,∃t,NV h d t v:=fun v m=>by
 obtain⟨i,e⟩:=dM m;rw[cu]at e;have hi:=(lG.mp e).1;exact⟨_,x.k i _ _ (aB (by rw[x.l];exact hi)) e⟩
theorem sP:∀{d n:Nat} {A:Around} {s:Shared} {t:Tr} {v:Value} {Q:Bool->Shared->Prop} {E:Value->Shared->Prop},d<=n->NV s.heap d t v->Q true s->wpAny (model prog w) A (eqIsQuiet n v) Q E s
 |d,m,A,s,t,v,Q,E,hd,x,h=>by
  rcases x.inv with⟨i,tk,rfl,rfl⟩|⟨d1,ts,a,o,items,n,ed,rfl,rfl,x1⟩
  ·rw[eqIsQuiet_byValue _ rfl];exact ae h
  ·subst ed;obtain⟨m,rfl⟩:∃k,m=k+1:=⟨m - 1,by omega⟩;have BN:s.TypeIs (.ref a) "tuple":=⟨o,x1.g,x1.c⟩;unfold eqIsQuiet;refine aa (g8 BN F.slot_tuple_eq.lookup ?_);show wpAny _ _ (isInstance (.ref a) (.type "tuple")>>=_) _ _ s;refine aa (i9 BN isSubtype_tuple_tuple ?_);simp only[eQ,aV,aR];refine aa (dO x1.g x1.dt ?_);refine aa ?_
   show wpAny _ _ (forIn items _ _) _ _ s;rw[<-iB];refine fY _ (fun rest r s'=>r.1=none/\s'=s/\∀v∈rest,∃t,NV s.heap d1 t v) _ ?_ ?_ _ _ ⟨rfl,rfl,sO x1⟩
   ·rintro v rest r s' ⟨hr,rfl,fO⟩
    obtain⟨t1,PC⟩:=fO v aS;refine aa (sP (d:=d1) (by omega) PC ?_);simp only[eQ,aV,aR];exact ae ⟨rfl,rfl,fun u v5=>fO u (aO _ v5)⟩
   ·rintro ⟨r1,r2⟩ s' ⟨hr,rfl,_⟩
    simp only at hr;subst hr;exact ae h
 termination_by d=>d
theorem sQ:∀{d n:Nat} {A:Around} {s:Shared} {t:Tr} {v:Value} {Q:Bool->Shared->Prop} {E:Value->Shared->Prop},d<=n->NV s.heap d t v->Q false s->wpAny (model prog w) A (ofAClassStatement n v) Q E s
 |d,m,A,s,t,v,Q,E,hd,x,h=>by
  rcases x.inv with⟨i,tk,rfl,rfl⟩|⟨d1,ts,a,o,items,n,ed,rfl,rfl,x1⟩
  ·rw[vb rfl];exact ae h
  ·subst ed;obtain⟨m,rfl⟩:∃k,m=k+1:=⟨m - 1,by omega⟩;have BN:s.TypeIs (.ref a) "tuple":=⟨o,x1.g,x1.c⟩;unfold ofAClassStatement;refine aa (h8 BN ?_);dsimp only;rw[ab (by decide)];refine aa (ae ?_);simp only[eQ,aV,aR];refine aa (dO x1.g x1.dt ?_);dsimp only;refine aa ?_
   show wpAny _ _ (forIn items _ _) _ _ s;rw[<-iB];refine fY _ (fun rest r s'=>r.1=none/\s'=s/\∀v∈rest,∃t,NV s.heap d1 t v) _ ?_ ?_ _ _ ⟨rfl,rfl,sO x1⟩
   ·rintro v rest r s' ⟨hr,rfl,fO⟩
    obtain⟨t1,PC⟩:=fO v aS;refine aa (sQ (d:=d1) (by omega) PC ?_);simp only[aV,aR];exact ae ⟨rfl,rfl,fun u v5=>fO u (aO _ v5)⟩
   ·rintro ⟨r1,r2⟩ s' ⟨hr,rfl,_⟩
    simp only at hr;subst hr;exact ae h
 termination_by d=>d
theorem EB:∀{d n:Nat} {A:Around} {s:Shared} {t:Tr} {v:Value} {Q:Bool->Shared->Prop} {E:Value->Shared->Prop},d<=n->NV s.heap d t v->(∀b,Q b s)->wpAny (model prog w) A (hashByValue n v) Q E s
 |d,m,A,s,t,v,Q,E,hd,x,h=>by
  rcases x.inv with⟨i,tk,rfl,rfl⟩|⟨d1,ts,a,o,items,n,ed,rfl,rfl,x1⟩
  ·obtain⟨b,e⟩:=A5 (prog:=prog) (w:=w) (d:=m) (show(ay prog w).is (.inl i) (.int i tk)=true from Az (k:=.inl i) (t:=tk));rw[e];exact ae (h _)
  ·subst ed;obtain⟨m,rfl⟩:∃k,m=k+1:=⟨m - 1,by omega⟩;have BN:s.TypeIs (.ref a) "tuple":=⟨o,x1.g,x1.c⟩;unfold hashByValue;refine aa (g8 BN i8.lookup ?_);refine aa (dO x1.g x1.dt ?_);dsimp only;refine aa ?_
   show wpAny _ _ (forIn items _ _) _ _ s;rw[<-iB];refine fY _ (fun rest r s'=>r.1=none/\s'=s/\∀v∈rest,∃t,NV s.heap d1 t v) _ ?_ ?_ _ _ ⟨rfl,rfl,sO x1⟩
   ·rintro v rest r s' ⟨hr,rfl,fO⟩
    obtain⟨t1,PC⟩:=fO v aS;refine aa (EB (d:=d1) (by omega) PC fun b=>?_);cases b with
    |true=>exact ae ⟨rfl,rfl,fun u v5=>fO u (aO _ v5)⟩
    |false=>exact ae (ae (h _))
   ·rintro ⟨r1,r2⟩ s' ⟨hr,rfl,_⟩
    simp only at hr;subst hr;exact ae (h _)
 termination_by d=>d
theorem CB{A:Around}{E:Value->Shared->Prop}{d:Nat}{t:Tr}{x:Value}{Q:Bool->Shared->Prop}(hd:d<=8)(hk:NV s.heap d t x){l:List Value}(hl:∀y∈l,∃t',NV s.heap d t' y)(h:Q false s):wpAny (model prog w) A (searchCouldBeSeen x l) Q E s:=by
 unfold searchCouldBeSeen;refine aa ?_
 refine fY _ (fun rest r s'=>r.1=none/\s'=s/\∀y∈rest,∃t',NV s.heap d t' y) _ ?_ ?_ _ _ ⟨rfl,rfl,hl⟩
 ·rintro v rest r s' ⟨hr,rfl,fO⟩
  obtain⟨t',hc⟩:=fO v aS;have nx:r.1=none/\s'=s'/\∀y∈rest,∃t',NV s'.heap d t' y:=⟨hr,rfl,fun u v5=>fO u (aO _ v5)⟩;dsimp only;refine fZ (fun _=>ae ⟨rfl,rfl,nx.2.2⟩) (fun _=>?_);refine aa (sP hd hk ?_);simp only[eQ,aV,aR];refine aa (sP hd hc ?_);simp only[eQ,aV,aR];refine aa (sQ hd hk ?_);simp only[aV,aR];refine aa (sQ hd hc ?_);simp only[aV,aR];exact ae ⟨rfl,rfl,nx.2.2⟩
 ·rintro ⟨r1,r2⟩ s' ⟨hr,rfl,_⟩
  simp only at hr;subst hr;exact ae h
end
end L2
namespace L2
open PySem PySem.Spec PyProof.Rows
def XM:TE:=fun σ H Q=>∃v,σ[0]?=some (some v)/\∀p,H p=none->∀q,upd H p (.lst []) q=none->Q (.ref q) (upd (upd H p (.lst [])) q (.tup [v,.ref p]))
structure NB(Y:Cx)(tg elt:Expr):Prop where
 g:PG Y tg (Dr 0)
 e:PE Y elt XM
theorem NB.of {Y:Cx}{x:Str}{p0 p1 p2 p3:Pos}{x1:Nat}(hN:Y.N.Nodup)(hi:Y.N[0]?=some x:=by rfl) (hx:Loc Y.env.scope x:=by first|exact Or.inl rfl|exact Or.inr rfl) (hf:Y.fn x=true\/Y.env.scope.names.lookup x=some .local:=by first|exact .inl rfl|exact .inr rfl|assumption)
  (hv:Jw Y.env.scope x:=by first|exact Or.inl rfl|exact Or.inr (Or.inl rfl)|exact Or.inr (Or.inr rfl)) (hd:(x==("__debug__":Str))=false:=by decide) (qf:(x==("__classdict__":Str))=false:=by decide):NB Y (.Name x p0) (.Tuple [.Name x p1,.List [] p2] x1 p3):=
 ⟨vy hN hi hx hf,(Dz (iC (Dn hi hv hd qf) (iC (DA kG) kG))).weak fun σ H Q ⟨v,e,k⟩=>⟨v,e,(show 0<=sizeLine from bP _),fun p hp=>⟨(show 2<=sizeLine by decide),fun q hq=>k p hp q hq⟩⟩⟩
def Ld:Nat->List Tr->List Tr
 |_,[]=>[]
 |n,t::ts=>.tup [t,.at n]::Ld (n+1) ts
def sR(r:Rs (List Tr))(A:Ab):Rz Tr:=match r with
 |.ok ts=>if fM ts=true/\ts.length<=ji then .ok (.lst (Ld A.length ts)) (A++List.replicate ts.length (.lst []))else .bad
 |_=>.bad
def EC(H:Hp):List Addr->Hp
 |[]=>H
 |p::ps=>EC (upd H p (.lst [])) ps
theorem A8:∀{ps:List Addr} {H:Hp} {b:Addr} {o:HO},EC H ps b=some o->(b∈ps/\o=.lst [])\/H b=some o
 |[],_,_,_,e=>.inr e
 |p::ps,H,b,o,e=>by
  rcases A8 (ps:=ps) e with⟨h,z⟩|h
  ·exact .inl ⟨aO _ h,z⟩
  ·by_cases z:b=p
   ·subst z;rw[aG]at h;cases h;exact .inl ⟨aS ..,rfl⟩
   ·rw[aj z]at h;exact .inr h
theorem HA.Jb {K:PySem.W.Frag}:∀(ps:List Addr) {B:bZ} {A:Ab} {H:Hp},HA K B A H->ps.Nodup->(∀p∈ps,H p=none)->
  ∃B',Grows B H B' (EC H ps)/\HA K B' (A++List.replicate ps.length (.lst [])) (EC H ps)/\(∀k p,ps[k]?=some p->B'.ix p=some (A.length+k))/\∀b,b∉ps->B'.hd b=B.hd b
 |[],B,A,H,ha,_,_=>⟨B,.refl,by rw[show List.replicate ([]:List Addr).length (Ao.lst [])=[]from rfl,dW];exact ha,fun k p e=>by simp at e,fun _ _=>rfl⟩
 |p::ps,B,A,H,ha,nd,hn=>by
  rw[dX]at nd;have hp:=hn p (aS ..);obtain⟨g1,iP⟩:=ha.push (o:=.lst []) (H':=upd H p (.lst [])) hp (ax.upd hp) ⟨qK,[],aG,.nil⟩;obtain⟨B',g,h1,h2,h3⟩:=HA.Jb ps iP nd.2 fun q m=>by
   rw[aj fun z=>nd.1 (by rw[<-z];exact m)];exact hn q (aO _ m)
  refine⟨B',g1.trans ha.hb g,?_,fun k q e=>?_,fun b m=>?_⟩
  ·rw[fV]at h1;exact h1
  ·cases k with
   |zero=>cases e;exact g.gA.x p A.length iE
   |succ k=>
    have q:=h2 k q e;rw[aY]at q;rw[q];show some (A.length+1+k)=_;rw[Nat.add_assoc,Nat.add_comm 1 k]
  ·rw[h3 b fun z=>m (aO _ z)];exact kY fun z=>m (by rw[z];exact aS ..)
theorem vP.PD {X:Cx}{B:bZ}{H H1 H2:Hp}(h:vP X B H H1)(s2:ax H1 H2):∃Hu,ax H Hu/\(∀b,H1 b=none->Hu b=H2 b)/\(∀{K:PySem.W.Frag} {B3:bZ} {v:V} {t:Tr},Rep K (aT B3 H2) v t->Rep K (aT B3 Hu) v t)/\∀k:Hp->Prop,k Hu->gr X H2 k:=by
 rcases h with s|⟨H0,a,o,u0,hk,s,hv,ha,rfl,h0⟩
 ·exact⟨H2,s.trans s2,fun _ _=>rfl,fun r=>r,fun k q=>.inl q⟩
 ·have e3:H2 a=some (.gk o u0):=s2 _ _ aG;have w:qm H2 (upd H2 a u0) a (.gk o u0) u0 u0:=⟨e3,rfl,.inr ⟨rfl,o,rfl⟩,hk⟩;refine⟨upd H2 a u0,fun b ob e=>?_,fun b e=>?_,fun r=>w.rep r,fun k q=>.inr ⟨a,o,u0,hk,e3,h0,q⟩⟩
  ·have q:=s _ _ e;by_cases z:b=a
   ·subst z;rw[ha]at q;cases q;exact aG
   ·rw[aj z];exact s2 _ _ (by rw[aj z];exact q)
  ·exact aj fun z=>by subst z;rw[aG]at e;cases e
structure PH(K:PySem.W.Frag)(B:bZ)(D:Addr)(H1 H:Hp)(e:Addr×Addr×V×Tr):Prop where
 q:H e.1=some (.tup [e.2.2.1,.ref e.2.1])
 p:H e.2.1=some (.lst [])
 n:H1 e.2.1=none
 m:H1 e.1=none
 d:e.2.1≠D
 r:Rep K (aT (fy B D) H) e.2.2.1 e.2.2.2
theorem PH.up {K:PySem.W.Frag}{B:bZ}{D:Addr}{H1 H H':Hp}{e:Addr×Addr×V×Tr}(h:PH K B D H1 H e)(s:ax H H'):PH K B D H1 H' e:=⟨s _ _ h.q,s _ _ h.p,h.n,h.m,h.d,h.r.same (bc s)⟩
theorem x_{K:PySem.W.Frag}{B B':bZ}{D:Addr}{Hu:Hp}(hT:ig (aT (fy B D) Hu) (aT B' Hu)):∀(L:List (Addr×Addr×V×Tr)) (n:Nat),(∀e∈L,Hu e.1=some (.tup [e.2.2.1,.ref e.2.1])/\B'.hd e.1=false/\Rep K (aT (fy B D) Hu) e.2.2.1 e.2.2.2)->(∀k e,L[k]?=some e->B'.ix e.2.1=some (n+k))->fM (L.map (·.2.2.2))=true->aK K (aT B' Hu) (L.map fun e=>V.ref e.1) (Ld n (L.map (·.2.2.2)))
 |[],_,_,_,_=>.nil
 |e::L,n,h,hx,f=>by
  rw[aA,fM,aJ]at f;obtain⟨h1,h2,h3⟩:=h e (aS ..);refine .cons (.tup (by rw[c_ h2];exact h1) (.cons (vM hT h3 f.1) (.cons (.at (hx 0 e rfl)) .nil))) (x_ hT L (n+1) (fun e m=>h e (aO _ m)) (fun k e q=>?_) f.2);rw[Nat.add_assoc,Nat.add_comm 1 k];exact hx (k+1) e q
section
variable {X:Cx}{tg iter elt:Expr}{W:az->Rs (List Tr)}{pos:Pos}{scope:Scope}{N':List Str}{ix:List (Option Nat)}
theorem Hs(Lk:fL X N' ix scope)(hi:QJ X tg iter W)(j1:∀s H ex,NB (mG X scope N' s H ex) tg elt)(t9:ix.length=1:=by rfl) (hc:X.calm=true:=by rfl) (hs:isSet iter=false:=by rfl):
  ZE X (.ListComp elt [⟨tg,iter,[],0⟩] scope pos) (fun ρ A=>sR (W ρ) A):=
 ⟨(Af Lk hc hi.h (fun s H ex=>⟨(j1 s H ex).g,DN,(j1 s H ex).e⟩) (dF hs)).KL.weak fun σ H Q ⟨B,A,ρ,ha,r,n,q⟩=>⟨B,ρ,ha.hb,r,by
   have q:dG (XE X B H) (sR (W ρ) A) _:=q;cases eW:W ρ with
   |bad=>rw[eW]at q;exact q
   |exc c=>rw[eW]at q;exact(show False from q).elim
   |ok ts=>
    rw[eW]at q;obtain⟨⟨hf,hz⟩,q⟩:=oj q;intro J H1 tf gt D hD;have wF:HB B H1:=tf.hb ha.hb;refine⟨fun i m cf H'=>m=ts.length - i/\i<=ts.length/\cf.length=1/\ax H1 H'/\HB (fy B D) H'/\cJ (aT B H1) (aT (fy B D) H')/\∃L:List (Addr×Addr×V×Tr),(∀e∈L,PH X.K B D H1 H' e)/\(L.map (·.2.1)).Nodup/\H' D=some (.lst (L.map fun e=>V.ref e.1))/\L.map (·.2.2.2)=ts.take i,
     ⟨_,rfl,bP _,by unfold fw;rw[ah];exact t9,ax.upd hD,Ak wF hD,ic hD,[],(fun e m=>by cases m),f6,aG,rfl⟩,?_⟩
    rintro i m cf H' ⟨rfl,hi,XN,sm,lK,gA,L,hL,nd,hd,eL⟩
    have VQ:L.length=i:=by have z:=bJ List.length eL;rw[ah,kb,Nat.min_eq_left hi]at z;exact z
    by_cases eG:i<ts.length
    ·refine .inr ⟨gt.go i _ H' eG gA lK,fun rX H2=>rX.length=1/\ax H1 H2/\HB (fy B D) H2/\cJ (aT B H1) (aT (fy B D) H2)/\∃L:List (Addr×Addr×V×Tr),(∀e∈L,PH X.K B D H1 H2 e)/\(L.map (·.2.1)).Nodup/\H2 D=some (.lst (L.map fun e=>V.ref e.1))/\L.map (·.2.2.2)=ts.take (i+1),
      fun rX H2 h=>⟨ts.length - (i+1),by omega,rfl,eG,h⟩,fun x H2 hx=>?_⟩
     obtain⟨s2,t,et,rt⟩:=gt.zZ i _ H' x H2 eG gA lK hx;refine⟨x,by rw[dJ (by omega)],fun p hp q' Le=>?_⟩;have TV:H2 D=some (.lst (L.map fun e=>V.ref e.1)):=s2 _ _ hd;have pD:p≠D:=fun z=>by rw[z,TV]at hp;cases hp
     have qp:q'≠p:=fun z=>by rw[z,aG]at Le;cases Le
     have KN:H2 q'=none:=by rw[aj qp]at Le;exact Le
     have qD:q'≠D:=fun z=>by rw[z,TV]at KN;cases KN
     have s3:ax H2 (upd (upd H2 p (.lst [])) q' (.tup [x,.ref p])):=(ax.upd hp).trans (ax.upd Le);have XO:ax H1 (upd (upd H2 p (.lst [])) q' (.tup [x,.ref p])):=(sm.trans s2).trans s3;have nb:HB (fy B D) (upd (upd H2 p (.lst [])) q' (.tup [x,.ref p])):=(lK.same s2).same s3;have RG:upd (upd H2 p (.lst [])) q' (.tup [x,.ref p]) D=some (.lst (L.map fun e=>V.ref e.1)):=s3 _ _ TV;have ya:∀{b:Addr} {u:HO},b≠D->upd (upd H2 p (.lst [])) q' (.tup [x,.ref p]) b=some u->upd (upd (upd H2 p (.lst [])) q' (.tup [x,.ref p])) D (.lst ((L.map fun e=>V.ref e.1)++[.ref q'])) b=some u:=fun hb e=>(aj hb).trans e;have TX:cJ (aT B H1) (aT (fy B D) (upd (upd (upd H2 p (.lst [])) q' (.tup [x,.ref p])) D (.lst ((L.map fun e=>V.ref e.1)++[.ref q'])))):=by
      rw[jj];exact gA.trans (bc (s2.trans s3))
     refine⟨_,RG,by rw[ah,VQ,<-iO];omega,by rw[gY];exact XN,fun b u e=>?_,?_,TX,L++[(q',p,x,t)],?_,?_,?_,?_⟩
     ·exact ya (fun z=>by rw[z,hD]at e;cases e) (XO _ _ e)
     ·intro b e;by_cases z:b=D
      ·subst z;exact⟨_,aG,fun _ z=>by cases z⟩
      ·rw[aj z];exact nb b e
     ·intro e m;rcases bD.mp m with m|m
      ·have h:=(hL e m).up (s2.trans s3);refine⟨ya ?_ h.q,ya h.d h.p,h.n,h.m,h.d,?_⟩
       ·intro z;have h1:=h.q;rw[z,RG]at h1;cases h1
       ·rw[jj];exact h.r
      ·rw[cB.mp m];refine⟨ya qD aG,ya pD ?_,(sm.trans s2).free hp,(sm.trans s2).free KN,pD,?_⟩
       ·exact(aj (cv qp)).trans aG
       ·rw[jj];exact rt.same (bc s3)
     ·rw[cH,i0];refine⟨nd,by simp,fun a m b m'=>?_⟩;obtain⟨e,me,rfl⟩:=aW.mp m;have eb:b=p:=by simpa using m'
      subst eb;intro z;have h1:=(hL e me).p;rw[z]at h1;have h2:=s2 _ _ h1;rw[hp]at h2;cases h2
     ·rw[cH];exact aG
     ·rw[cH,eL,List.take_succ,et];rfl
    ·have e:i=ts.length:=by omega
     subst e;rw[List.take_length]at eL;refine .inl ⟨gt.stop _ H' gA,?_⟩;obtain⟨Hu,su,fu,ru,ku⟩:=tf.PD sm;refine ku _ ?_
     have XQ:∀p∈L.map (·.2.1),H p=none:=fun p m=>by
      obtain⟨e,me,rfl⟩:=aW.mp m;exact tf.free (hL e me).n
     obtain⟨B',g,dQ,Cd,TY⟩:=ha.Jb _ nd XQ;have VR:∀e∈L,Hu e.2.1=some (.lst []):=fun e me=>(fu _ (hL e me).n).trans (hL e me).p;have ss:ax (EC H (L.map (·.2.1))) Hu:=fun b o e=>by
      rcases A8 e with⟨m,rfl⟩|h
      ·obtain⟨z,me,rfl⟩:=aW.mp m;exact VR z me
      ·exact su _ _ h
     have ll:L.length=ts.length:=VQ;rw[ah,ll]at dQ;have XR:D∉L.map (·.2.1):=fun m=>by obtain⟨e,me,z⟩:=aW.mp m;exact(hL e me).d z
     have XT:H D=none:=tf.free hD;have XU:B'.hd D=false:=(TY D XR).trans (ha.hb.free XT);have XW:Hu D=some (.lst (L.map fun e=>V.ref e.1)):=(fu D hD).trans hd;have nP:∀{b:Addr} {o:HO},Hu b=some o->o≠ .lst []->b∉L.map (·.2.1):=fun{b o} e ne m=>by
      obtain⟨z,me,rfl⟩:=aW.mp m;have q:=VR z me;rw[e]at q;cases q;exact ne rfl
     have hT:ig (aT (fy B D) Hu) (aT B' Hu):=⟨fun a x e hx=>by
      have e1:=aE _ _ e;have nl:x≠ .lst []:=fun z=>by subst z;rcases hx with⟨_,z⟩|⟨_,_,z⟩<;>cases z
      have hB:(fy B D).hd a=false:=by
       cases q:(fy B D).hd a with
       |false=>rfl
       |true=>
        have e2:(if(fy B D).hd a=true then none else Hu a)=some x:=e;rw[q,ab rfl]at e2;cases e2
      have XX:B.hd a=false:=by
       have z:(B.hd a||a==D)=false:=hB;rw[Bool.or_eq_false_iff]at z;exact z.1
      rw[c_ ((TY a (nP e1 nl)).trans XX)];exact e1,fun a j e=>g.gA.x a j e⟩
     refine q (.ref D) B' Hu (g.trans ha.hb (.of ss)) (dQ.same ss) (.lst (by rw[c_ XU];exact XW) ?_);rw[<-eL];refine x_ hT L A.length (fun e me=>?_) (fun k e ek=>Cd k _ (by rw[aP,ek];rfl)) (by rw[eL];exact hf);have eq:Hu e.1=some (.tup [e.2.2.1,.ref e.2.1]):=(fu _ (hL e me).m).trans (hL e me).q;exact⟨eq,(TY _ (nP eq fun z=>by cases z)).trans (ha.hb.free (tf.free (hL e me).m)),ru (hL e me).r⟩⟩⟩
def pC(h:List Tr->Rs Tr)(r:Rz Tr):Rz Tr:=r.bind fun t A=>aq (h [t]) A
theorem CC{T:String}{x:Str}{p:Pos}{e:Expr}{h:List Tr->Rs Tr}{F:az->Ab->Rz Tr}(hc:gm X (.type T) (rF X h))(hm:X.mg x=none)(he:ZE X e F)(hv:bootBuiltins x=some (.type T):=by rfl) (hg:Gl X x:=by rfl) (hn:x≠"__name__":=by decide) (jA:(x==("__debug__":Str))=false:=by decide)
  (dD:bt [e]=true:=by rfl):ZE X (.Call (.Name x p) [e] [] pos) (fun ρ A=>pC h (F ρ A)):=
 ⟨(gQ hc hg hm hv (Ay he.h D3 (aI dD).1) hn jA (ba _ _ (aI dD).1) (cE (aI dD).2)).weak fun σ H Q ⟨B,A,ρ,ha,r,n,q⟩=>⟨B,A,ρ,ha,r,n,by
   have q:dG (XE X B H) (pC h (F ρ A)) _:=q;show dG (XE X B H) ((F ρ A).bind fun t A1=>Rz.bind (.ok [] A1) fun ts A2=>.ok (t::ts) A2) _;cases eF:F ρ A with
   |bad=>rw[eF]at q;exact q
   |exc c A1=>rw[eF]at q;exact q
   |ok t A1=>
    rw[eF]at q;intro vs B1 H1 g1 iP rs;exact⟨B1,[t],iP.hb,rs,(ij (show dG (XE X B H) (aq (h [t]) A1) _ from q)).mono fun u qu v H2 s2 rv _=>qu v B1 H2 (g1.trans ha.hb (.of s2)) (iP.same s2) rv⟩⟩⟩
end
end L2
namespace L2
open PySem PySem.Spec PySem.Calls PyProof.Rows
section
variable {prog:Program}{w:World}{A:Around}{E:Value->Shared->Prop}{s:Shared}
def oD(prog:Program)(w:World)(h:Heap)(a:Addr)(xs:List (List Key×Addr)):Prop:=
 ∃(o:Obj) (es:Array (Int×Value)) (ep:Nat) (t:SetTable),h.get? a=some o/\o.ExactSet/\o.data=.set es ep t/\es.toList.Perm (xs.map (Lb prog w))/\l9 t es.size/\(pf w=true\/t.led=true)
theorem oD.keep {h h':Heap}{a:Addr}{xs:List (List Key×Addr)}(x:oD prog w h a xs)(k:∀o,h.get? a=some o->h'.get? a=some o):oD prog w h' a xs:=by
 obtain⟨o,es,ep,t,ho,r⟩:=x;exact⟨o,es,ep,t,k o ho,r⟩
theorem oD.size {h:Heap}{es:Array (Int×Value)}{xs:List (List Key×Addr)}(hp:es.toList.Perm (xs.map (Lb prog w))):es.size=xs.length:=by
 have q:=hp.length_eq;rw[bq,ah]at q;exact q
theorem sS{α:Type}(xs:Array α)(p:Nat)(x:α):(SetTable.insertAt xs p x).size=xs.size+1:=by
 have q:=(mV xs p x).length_eq;rw[bq,bq,Array.size_push]at q;exact q
theorem ED{t:SetTable}{n j:Nat}(tk:l9 t n)(hs:t.slot j=.empty)(hj:j<=t.mask):(t.put j).1.dummies=#[]/\(t.put j).1.mask=t.mask/\(t.put j).1.place.size=n+1/\(∀x∈(t.put j).1.place.toList,x<=t.mask)/\k_ (t.put j).1.place/\(t.put j).1.led=t.led:=by
 have ff:¬t.place[SetTable.below t.place j]?=some j:=by
  intro e;unfold SetTable.slot at hs;dsimp only at hs;rw[e,ab (bB _)]at hs;cases hs
 unfold SetTable.put;dsimp only;refine⟨?_,rfl,?_,?_,D6 tk.rise ff,rfl⟩
 ·rw[tk.dm,af (by unfold SetTable.has;simp)]
 ·rw[sS,tk.sz]
 ·intro x hx;have:=(mV t.place (SetTable.below t.place j) j).mem_iff.mp hx;rw[iZ,bD,cB]at this;rcases this with h|h
  ·exact tk.le x h
  ·rw[h];exact hj
theorem TZ{a b:Addr}{xs:List (List Key×Addr)}{k:List Key}{Q:Bool->Shared->Prop}(hu:A.units<cLine)(hS:oD prog w s.heap a xs)(hn:xs.length+1<=18)(hk:(tupleKind (ay prog w)).is s.heap k b)(yE:∀p∈xs,(tupleKind (ay prog w)).is s.heap p.1 p.2/\p.1≠k)
  (h:∀h',Heap.SameBut a s.heap h'->oD prog w h' a (xs++[(k,b)])->Q true {s with heap:=h'}):wpAny (model prog w) A (setAddHashed a (.ref b) ((tupleKind (ay prog w)).hash k)) Q E s:=by
 obtain⟨o,es,ep,t,ho,hex,hd,hp,tk,hl⟩:=hS;have hsz:es.size=xs.length:=oD.size (h:=s.heap) hp;have hf:=tk.fits;unfold setAddHashed setAddHashedIn;refine cn (aa (cV ho hd hf ?_));dsimp only;have T1:byScan (.ref b) es=false:=by unfold byScan;rfl
 rw[T1];simp only[aV,aR];have CD:∀e∈es.toList,∃k' c,e.2=.ref c/\(tupleKind (ay prog w)).is s.heap k' c/\k'≠k:=fun e he=>by
  obtain⟨p,Ht,rfl⟩:=aW.mp (hp.mem_iff.mp he);exact⟨p.1,p.2,rfl,yE p Ht⟩
 obtain⟨j0,T2,T3⟩:=Pm (t.mask+1) t.place.toList (by rw[bq,tk.sz];have:=tk.La;omega);obtain⟨N,hN,eN⟩:=p8 tk.ms ((tupleKind (ay prog w)).hash k) (dU T2);refine aa ?_
 unfold setSearch;refine x8 hu ho hd tk hk CD (fun j hj T4=>?_) N 100000 none (by rcases tk.ms with e|e<;>rw[e]at hN<;>omega) (by unfold SetTable.turns;omega) (PB.start _) (by show t.slot (bo t N (t.probeStart _)).j=_;rw[eN];exact sM tk.dm T3);dsimp only;refine aa (cV ho hd hf ?_);dsimp only;obtain⟨p1,p2,p3,p4,p5,p6⟩:=ED tk hj T4;have lB:=mV es (t.put j).2 ((tupleKind (ay prog w)).hash k,Value.ref b);have js:(SetTable.insertAt es (t.put j).2 ((tupleKind (ay prog w)).hash k,Value.ref b)).size=es.size+1:=sS _ _ _;generalize t.put j=tp at p1 p2 p3 p4 p5 p6 lB js⊢;obtain⟨t1,pl⟩:=tp;dsimp only at p1 p2 p3 p4 p5 p6 lB js⊢;generalize SetTable.insertAt es pl ((tupleKind (ay prog w)).hash k,Value.ref b)=iT at lB js⊢;have sT:iT.toList.Perm ((xs++[(k,b)]).map (Lb prog w)):=by
  rw[cH];refine lB.trans ?_
  rw[iZ];exact hp.append_right _
 have yb:iT.size<=sizeLine:=by rw[js,hsz,bH];omega
 have fin:∀t2:SetTable,t2.dummies=#[]->t2.mask=t.mask->t2.place=t1.place->t2.led=t1.led->wpAny (model prog w) A (do
   storeSet a iT t2
   if(!false&&t2.tooFull)=true then do
      setRelay a (SetTable.grown (es.size+1))
      pure true
    else pure true) Q E s:=by
  intro t2 d2 m2 De l2;refine aa (ni ho hd ?_ yb);have hg:(s.heap.update a (Obj.putSet iT t2)).get? a=some {o with data:=.set iT (ep+1) t2}:=by
   have q:=iA (Obj.putSet iT t2) ho (by rw[gj iT t2 hd];rfl);rw[gj iT t2 hd]at q;exact q
  have PJ:=dS s.heap a (Obj.putSet iT t2);have C9:pf w=true\/t2.led=true:=hl.imp id fun z=>by rw[l2,p6];exact z
  have sU:t2.fill=es.size+1:=by unfold SetTable.fill;rw[d2,De,p3];rfl
  refine fZ (fun ip=>?_) (fun ip=>?_)
  ·
   have ip:t2.fill*5>=t2.mask*3:=by
    have:t2.tooFull=true:=by simpa using ip
    unfold SetTable.tooFull at this;exact cb this
   rw[sU,m2]at ip;have h7:t.mask=7:=by
    rcases tk.ms with e|e
    ·exact e
    ·rw[e]at ip;omega
   have h5:es.size+1=5:=by have:=tk.La;rw[h7]at ip this;omega
   refine aa ?_
   unfold setRelay;have T5:t2.fits iT.size=true:=by
    unfold SetTable.fits;rw[De,p3,js,bB,nC,sU,m2,h7,h5];rfl
   refine aa (cV hg rfl T5 ?_);dsimp only;rw[h5];have EE:SetTable.sizeAbove (SetTable.grown 5)=32:=by decide
   rw[EE,af (by decide)];obtain⟨t3,order,e3,m3,d3,l3,XY,r3,T6,T7,sV⟩:=AY (m:=31) (f:=t2.finger) (mv:=t2.movedTo 31) (ld:=t2.led) (pl:=t2.plain) (.inr rfl) (es:=iT) (by rw[js];omega);have er:t2.relaid (iT.map (·.1)) (SetTable.grown 5)=some (t3,order):=by
    unfold SetTable.relaid;rw[EE];exact e3
   rw[er];refine aa ?_
   have sW:(order.filterMap fun x=>iT[x]?).size=iT.size:=by
    have q:=sV.length_eq;rw[bq,bq]at q;exact q
   show wpAny _ _ (if((order.filterMap fun x=>iT[x]?).size !=iT.size)=true then _ else _) _ _ _;rw[sW,gW];simp only[aV,aR];refine ae ?_
   dsimp only;generalize (order.filterMap fun x=>iT[x]?)=AK at sW sV⊢;refine ni hg rfl (ae ?_) (by rw[sW];exact yb);have EF:((s.heap.update a (Obj.putSet iT t2)).update a (Obj.putSet AK t3)).get? a=some {o with data:=.set AK (ep+1+1) t3}:=by
    have q:=iA (Obj.putSet AK t3) hg (by rw[gj AK t3 rfl];rfl);rw[gj AK t3 rfl]at q;exact q
   refine h _ (PJ.trans (dS _ a _)) ⟨_,AK,_,t3,EF,hex,rfl,sV.trans sT,⟨d3,.inr m3,by rw[m3];exact T6,by rw[T7,sW],by rw[m3,sW,js];omega,r3⟩,C9.imp id fun z=>l3.trans z⟩
  ·refine ae (h _ PJ ⟨_,iT,_,t2,hg,hex,rfl,sT,⟨d2,by rw[m2];exact tk.ms,by rw[De,m2];exact p4,by rw[De,p3,js],?_,by rw[De];exact p5⟩,C9⟩);have:¬t2.fill*5>=t2.mask*3:=by
    intro z;refine ip ?_
    show(!false&&t2.tooFull)=true;unfold SetTable.tooFull;rw[bF z];rfl
   rw[sU]at this;rw[js];omega
 split
 ·refine aa (Hq hk fun bv=>?_);cases bv with
  |true=>exact fin t1 p1 p2 rfl rfl
  |false=>exact fin {t1 with plain:=false} p1 p2 rfl rfl
 ·refine aa (ae ?_);exact fin t1 p1 p2 rfl rfl
end
end L2
namespace L2
open PySem PySem.Spec PySem.Calls PyProof.Rows
section
variable {prog:Program}{w:World}{A:Around}{E:Value->Shared->Prop}{s:Shared}
def Lay(t:SetTable)(es:Array (Int×Value)):Prop:=∀p∈List.zip es.toList t.place.toList,zq t t.place.toList p.1.1 p.2
theorem Lay.at {t:SetTable}{es:Array (Int×Value)}(l:Lay t es){i j:Nat}{e:Int×Value}(h1:es[i]?=some e)(h2:t.place[i]?=some j):zq t t.place.toList e.1 j:=by
 refine l (e,j) ?_
 refine bw (i:=i) ?_
 rw[lH];exact⟨by rw[cu];exact h1,by rw[cu];exact h2⟩
theorem zw{a:Addr}{x:Value}{o:Obj}{es:Array (Int×Value)}{ep:Nat}{t:SetTable}{q:Int×Value->Bool}{h:Int}{Q:SetFound->Shared->Prop}(ho:s.heap.get? a=some o)(hd:o.data=.set es ep t)(tk:l9 t es.size)(ly:Lay t es)
  (hq:∀e∈es.toList,SeqAt.EqAt A s e.2 x (q e)/\(q e=true->e.1=h)) (hr:∀e∈es.toList,∃c,e.2=Value.ref c) (hv:∀(l:List Value) (R:Bool->Shared->Prop),(∀y∈l,∃e∈es.toList,y=e.2)->R false s->wpAny (model prog w) A (searchCouldBeSeen x l) R E s)
  (hT:(∃e∈es.toList,q e=true)->Q (.there none) s) (hF:∀j,t.slot j=.empty->j<=t.mask->zq t t.place.toList h j->(∀e∈es.toList,q e=false)->Q (.free j false) s):
  ∀(N M fuel:Nat) (st:Option SetTable.Probe),N<fuel->N<10*SetTable.turns t.mask->st.getD (t.probeStart h)=bo t M (t.probeStart h)->(∀k,k<M->∃i e,t.slot (bo t k (t.probeStart h)).j=.live i/\t.place[i]?=some (bo t k (t.probeStart h)).j/\es[i]?=some e/\q e=false)->t.slot (bo t N (bo t M (t.probeStart h))).j=.empty->
   wpAny (model prog w) A (setSearchFrom a x h true fuel st) Q E s:=by
 have hf:=tk.fits;have Jc:∀{i j:Nat},t.place[i]?=some j->∃e,es[i]?=some e/\e∈es.toList:=fun{i j} e=>by
  have hi:i<es.size:=by rw[<-tk.sz];exact(lG.mp e).1
  exact⟨es[i],bV hi,by rw[j_];exact Array.getElem_mem hi⟩
 intro N
 induction N using Nat.strongRecOn with
 |ind N ih=>
  intro M fuel st hN TQ XZ hM hs;have pb:PB t (bo t M (t.probeStart h)):=(PB.start h).bo M;cases fuel with
  |zero=>omega
  |succ fuel=>
   unfold setSearchFrom;refine aa (cV ho hd hf ?_);dsimp only;rw[tk.odd];simp only[aV,aR];unfold SetTable.probe;rw[XZ];generalize hg:SetTable.probe.go t _ h (10*SetTable.turns t.mask) (bo t M (t.probeStart h))=g;obtain⟨ha,X0,hg⟩:∃ha:Nat->Int,(∀{i:Nat} {e:Int×Value},es[i]?=some e->ha i=e.1)/\SetTable.probe.go t ha h (10*SetTable.turns t.mask) (bo t M (t.probeStart h))=g:=⟨_,fun{i e} he=>by
    show(es[i]?.map fun z:Int×Value=>z.1).getD (0:Int)=_;rw[he];rfl,hg⟩
   have seen:∀{n:Nat},(∀k,k<n->∃i,t.slot (bo t k (bo t M (t.probeStart h))).j=.live i/\t.place[i]?=some (bo t k (bo t M (t.probeStart h))).j/\¬ha i=h)->∀k,k<M+n->∃i e,t.slot (bo t k (t.probeStart h)).j=.live i/\t.place[i]?=some (bo t k (t.probeStart h)).j/\es[i]?=some e/\q e=false:=fun{n} hn k hk=>by
    by_cases hl:k<M
    ·exact hM k hl
    ·obtain⟨i,a1,a2,a3⟩:=hn (k - M) (by omega);rw[<-dh,show M+(k - M)=k by omega]at a1 a2;obtain⟨e,e1,e2⟩:=Jc a2;refine⟨i,e,a1,a2,e1,?_⟩;cases z:q e with
     |false=>rfl
     |true=>exact absurd ((X0 e1).trans ((hq e e2).2 z)) a3
   rcases Ex (ha:=ha) (h:=h) tk.dm N _ _ TQ pb hs with⟨n,e,e1,e2,e3⟩|⟨n,i,e,hn,e1,e2,e3⟩
   ·rw[hg]at e;rw[e];have sn:=seen e3;rw[<-dh]at e1 e2;rw[<-dh];refine ae (hF _ e1 e2 ⟨M+n,rfl,fun k hk=>?_⟩ fun y hy=>?_)
    ·obtain⟨i,_,_,a2,_⟩:=sn k hk;rw[<-cu]at a2;exact bw a2
    ·cases z:q y with
     |false=>rfl
     |true=>
      exfalso;obtain⟨i,hi⟩:=dM hy;rw[cu]at hi;have Pr:i<t.place.size:=by rw[tk.sz];exact(lG.mp hi).1
      have hp:t.place[i]?=some t.place[i]:=bV Pr
      obtain⟨K,k1,k2⟩:=ly.at hi hp;rw[(hq y hy).2 z]at k1 k2;rcases Nat.lt_trichotomy K (M+n)with hK|hK|hK
      ·obtain⟨i',e',b1,b2,b3,b4⟩:=sn K hK;rw[k1,v3 tk.rise hp]at b1;cases b1;rw[hi]at b3;cases b3;rw[z]at b4;cases b4
      ·rw[<-hK,k1,v3 tk.rise hp]at e1;cases e1
      ·exact slot_mem tk.rise (k2 _ hK) e1
   ·rw[hg]at e;rw[e];dsimp only;have sn:=seen e3;obtain⟨ee,Hr,T8⟩:=Jc e2;have rest:wpAny (model prog w) A (do
      let some (_,y):=es[i]? |unsupported "internal:set-entry"
      let equal<-holding [y] (eqBool y x)
      let(FX,_,t')<-setState a
      if true&&equal then return .there none
      let some same:=t'.sameMemory t.moves t.mask|unsupported "set.changed-during-lookup:is-the-new-block-at-the-old-address"
      let Ez<-match(if same then t'.slot (bo t n (bo t M (t.probeStart h))).j else .empty)with
       |.live i'=>match FX[i']? with
        |some (_,y')=>do pure (if<-isSame y' y then some i' else none)
        |none=>pure none
       |_=>pure none
      match Ez with
      |none=>rule "set.search.anew";setSearchFrom a x h true fuel none
      |some i'=>if equal then return .there (some i')else setSearchFrom a x h true fuel (some (bo t (n+1) (bo t M (t.probeStart h))))) Q E s:=by
     rw[Hr];dsimp only;refine aa (cn ((hq ee T8).1 prog w _ _ ?_));refine aa (cV ho hd hf ?_);dsimp only;cases z:q ee with
     |true=>
      simp only[Bool.and_true,dC];exact ae (hT ⟨ee,T8,z⟩)
     |false=>
      simp only[kn,aV,aR];have Pj:t.sameMemory t.moves t.mask=some true:=by unfold SetTable.sameMemory;rw[ab (bB _)]
      rw[Pj];dsimp only;simp only[dC];rw[e1];dsimp only;rw[Hr];dsimp only;obtain⟨c,ec⟩:=hr ee T8;rw[ec];refine aa (wpAny_isSame_ref_self ?_);refine aa (ae ?_);simp only[dC];refine ih (N - (n+1)) (by omega) (M+(n+1)) fuel (some (bo t (n+1) (bo t M (t.probeStart h)))) (by omega) (by omega) ?_ ?_ ?_
      ·show bo t (n+1) _=_;rw[dh M]
      ·intro k hk;by_cases hl:k<M+n
       ·exact sn k hl
       ·have ek:k=M+n:=by omega
        subst ek;rw[dh];exact⟨i,ee,e1,e2,Hr,z⟩
      ·rw[dh M,<-dh (n+1),show n+1+(N - (n+1))=N by omega];exact hs
    cases hl:t.led with
    |true=>
     simp only[eQ,aV,aR];exact rest
    |false=>
     simp only[nr,dC];refine aa (hv _ _ (fun y hy=>?_) ?_)
     ·obtain⟨e',Pz,rfl⟩:=aW.mp hy;have TR:e'∈es.toList:=by
       rw[j_]at Pz⊢;exact(Array.mem_filter.mp Pz).1
      exact⟨e',TR,rfl⟩
     ·simp only[aV,aR];exact rest
end
end L2
namespace L2
open PySem PySem.Spec PySem.Calls PyProof.Rows
def Lf(w:World)(p:Tr×Addr):Int×Value:=(hT w 3 p.1,.ref p.2)
def um(w:World)(h:Heap)(a:Addr)(xs:List (Tr×Addr)):Prop:=
 ∃(o:Obj) (es:Array (Int×Value)) (ep:Nat) (t:SetTable),h.get? a=some o/\o.ExactSet/\o.data=.set es ep t/\es.toList.Perm (xs.map (Lf w))/\l9 t es.size/\(pf w=true\/t.led=true)/\Lay t es
theorem um.keep {w:World}{h h':Heap}{a:Addr}{xs:List (Tr×Addr)}(x:um w h a xs)(k:∀o,h.get? a=some o->h'.get? a=some o):um w h' a xs:=by
 obtain⟨o,es,ep,t,ho,r⟩:=x;exact⟨o,es,ep,t,k o ho,r⟩
def lW(xs:List (Tr×Addr))(p:Tr×Addr):List (Tr×Addr):=if(xs.any fun y=>eqT y.1 p.1)=true then xs else xs++[p]
theorem yc{α:Type}(xs:Array α){p:Nat}(hp:p<=xs.size)(x:α):(SetTable.insertAt xs p x).toList=xs.toList.take p++x::xs.toList.drop p:=by
 unfold SetTable.insertAt;simp;exact mR (by simp)
theorem Hv{t:SetTable}{es:Array (Int×Value)}{j:Nat}{e:Int×Value}(tk:l9 t es.size)(ly:Lay t es)(pe:zq t t.place.toList e.1 j):Lay (t.put j).1 (SetTable.insertAt es (t.put j).2 e):=by
 have hb:=(below_at tk.rise j).1;have e1:(t.put j).1.place.toList=t.place.toList.take (SetTable.below t.place j)++j::t.place.toList.drop (SetTable.below t.place j):=yc _ hb _;have e2:(SetTable.insertAt es (t.put j).2 e).toList=es.toList.take (SetTable.below t.place j)++e::es.toList.drop (SetTable.below t.place j):=yc _ (by rw[<-tk.sz];exact hb) _;have em:t.mask=(t.put j).1.mask:=rfl;have sub:∀x∈t.place.toList,x∈(t.put j).1.place.toList:=fun x m=>by
  rw[e1];rw[<-List.take_append_drop (SetTable.below t.place j) t.place.toList]at m;rcases bD.mp m with m|m
  ·exact j9 _ m
  ·exact fi _ (aO _ m)
 intro p hp;have old:∀p∈List.zip es.toList t.place.toList,zq (t.put j).1 (t.put j).1.place.toList p.1.1 p.2:=fun p hp=>((ly p hp).mono sub).mask em;rw[e2]at hp;rw[show List.zip _ (t.put j).1.place.toList=List.zip (es.toList.take (SetTable.below t.place j)++e::es.toList.drop (SetTable.below t.place j)) (t.place.toList.take (SetTable.below t.place j)++j::t.place.toList.drop (SetTable.below t.place j)) by rw[e1]]at hp;rw[List.zip_append (by rw[kb,kb,bq,bq,tk.sz])]at hp;rcases bD.mp hp with hp|hp
 ·refine old p ?_
  obtain⟨i,hi⟩:=dM hp;obtain⟨h1,h2⟩:=lH.mp hi;refine bw (i:=i) (lH.mpr ⟨?_,?_⟩)
  ·rw[List.getElem?_take]at h1;split at h1
   ·exact h1
   ·cases h1
  ·rw[List.getElem?_take]at h2;split at h2
   ·exact h2
   ·cases h2
 ·rw[rh]at hp;rcases aN.mp hp with rfl|hp
  ·exact(pe.mono sub).mask em
  ·refine old p ?_
   obtain⟨i,hi⟩:=dM hp;obtain⟨h1,h2⟩:=lH.mp hi;rw[List.getElem?_drop]at h1 h2;exact bw (lH.mpr ⟨h1,h2⟩)
section
variable {prog:Program}{w:World}{A:Around}{E:Value->Shared->Prop}{s:Shared}
theorem PK{a b:Addr}{xs:List (Tr×Addr)}{k:Tr}{Q:Bool->Shared->Prop}(hu:A.units+3<cLine)(hS:um w s.heap a xs)(hn:(lW xs (k,b)).length<=18)(hk:NV s.heap 3 k (.ref b))(yE:∀p∈xs,NV s.heap 3 p.1 (.ref p.2))
  (h:∀h' r,Heap.SameBut a s.heap h'->um w h' a (lW xs (k,b))->Q r {s with heap:=h'}):wpAny (model prog w) A (setAddHashed a (.ref b) (hT w 3 k)) Q E s:=by
 obtain⟨o,es,ep,t,ho,hex,hd,hp,tk,hl,ly⟩:=hS;have hsz:es.size=xs.length:=by have q:=hp.length_eq;rw[bq,ah]at q;exact q
 have hf:=tk.fits;unfold setAddHashed setAddHashedIn;refine cn (aa (cV ho hd hf ?_));dsimp only;have T1:byScan (.ref b) es=false:=by unfold byScan;rfl
 rw[T1];simp only[aV,aR];have CD:∀e∈es.toList,∃p∈xs,e=Lf w p:=fun e he=>by
  obtain⟨p,Ht,rfl⟩:=aW.mp (hp.mem_iff.mp he);exact⟨p,Ht,rfl⟩
 obtain⟨j0,T2,T3⟩:=Pm (t.mask+1) t.place.toList (by rw[bq,tk.sz];have:=tk.La;omega);obtain⟨N,hN,eN⟩:=p8 tk.ms (hT w 3 k) (dU T2);refine aa ?_
 unfold setSearch;have PL:∀e:Int×Value,∃r:Bool,∀p∈xs,e=Lf w p->r=eqT p.1 k:=fun e=>by
  by_cases z:∃p∈xs,e=Lf w p
  ·obtain⟨p,m,rfl⟩:=z;refine⟨eqT p.1 k,fun p' m' e'=>?_⟩;have e2:Value.ref p.2=.ref p'.2:=bJ (fun z:Int×Value=>z.2) e';have h1:=yE p m;rw[e2]at h1;rw[NV.fn h1 (yE p' m')]
  ·exact⟨false,fun p m e'=>absurd ⟨p,m,e'⟩ z⟩
 obtain⟨q,hq⟩:∃q:Int×Value->Bool,∀e,∀p∈xs,e=Lf w p->q e=eqT p.1 k:=⟨fun e=>(PL e).choose,fun e=>(PL e).choose_spec⟩;refine zw (q:=q) (h:=hT w 3 k) ho hd tk ly (fun e he=>?_) (fun e he=>?_) (fun l R hl hR=>CB (d:=3) (by decide) hk (fun y hy=>?_) hR) (fun hx=>?_) (fun j hj T4 X1 X2=>?_) N 0 100000 none (by rcases tk.ms with e|e<;>rw[e]at hN<;>omega) (by unfold SetTable.turns;omega) rfl (fun k hk=>by omega) (by show t.slot (bo t N (t.probeStart _)).j=_;rw[eN];exact sM tk.dm T3)
 ·obtain⟨p,m,rfl⟩:=CD e he;rw[hq _ p m rfl];refine⟨I_ hu (yE p m) hk,fun z=>?_⟩;show hT w 3 p.1=_;rw[NV.eqT (yE p m) hk z]
 ·obtain⟨p,m,rfl⟩:=CD e he;exact⟨p.2,rfl⟩
 ·obtain⟨e,he,rfl⟩:=hl y hy;obtain⟨p,m,rfl⟩:=CD e he;exact⟨p.1,yE p m⟩
 ·
  obtain⟨e,he,RH⟩:=hx;obtain⟨p,m,rfl⟩:=CD e he;rw[hq _ p m rfl]at RH;have ei:lW xs (k,b)=xs:=by
   unfold lW;rw[ab (ke.mpr ⟨p,m,RH⟩)]
  dsimp only;exact ae (h s.heap false (.refl _ _) (by rw[ei];exact⟨o,es,ep,t,ho,hex,hd,hp,tk,hl,ly⟩))
 have ei:lW xs (k,b)=xs++[(k,b)]:=by
  unfold lW;rw[af];intro z;obtain⟨p,m,RH⟩:=ke.mp z;have he:Lf w p∈es.toList:=hp.mem_iff.mpr (aW.mpr ⟨p,m,rfl⟩);have:=X2 _ he;rw[hq _ p m rfl,RH]at this;cases this
 rw[ei]at h hn;rw[aY,fS]at hn;dsimp only;refine aa (cV ho hd hf ?_);dsimp only;obtain⟨p1,p2,p3,p4,p5,p6⟩:=ED tk hj T4;have lB:=mV es (t.put j).2 (hT w 3 k,Value.ref b);have js:(SetTable.insertAt es (t.put j).2 (hT w 3 k,Value.ref b)).size=es.size+1:=sS _ _ _;have RI:=Hv (e:=(hT w 3 k,Value.ref b)) tk ly X1;generalize t.put j=tp at p1 p2 p3 p4 p5 p6 lB js RI⊢;obtain⟨t1,pl⟩:=tp;dsimp only at p1 p2 p3 p4 p5 p6 lB js RI⊢;generalize SetTable.insertAt es pl (hT w 3 k,Value.ref b)=iT at lB js RI⊢;have sT:iT.toList.Perm ((xs++[(k,b)]).map (Lf w)):=by
  rw[cH];refine lB.trans ?_
  rw[iZ];exact hp.append_right _
 have yb:iT.size<=sizeLine:=by rw[js,hsz,bH];omega
 have fin:∀t2:SetTable,t2.dummies=#[]->t2.mask=t.mask->t2.place=t1.place->t2.led=t1.led->wpAny (model prog w) A (do
   storeSet a iT t2
   if(!false&&t2.tooFull)=true then do
      setRelay a (SetTable.grown (es.size+1))
      pure true
    else pure true) Q E s:=by
  intro t2 d2 m2 De l2;have X3:Lay t2 iT:=by
   intro p hp;rw[De]at hp⊢;exact(RI p hp).mask (p2.trans m2.symm)
  refine aa (ni ho hd ?_ yb);have hg:(s.heap.update a (Obj.putSet iT t2)).get? a=some {o with data:=.set iT (ep+1) t2}:=by
   have q:=iA (Obj.putSet iT t2) ho (by rw[gj iT t2 hd];rfl);rw[gj iT t2 hd]at q;exact q
  have PJ:=dS s.heap a (Obj.putSet iT t2);have C9:pf w=true\/t2.led=true:=hl.imp id fun z=>by rw[l2,p6];exact z
  have sU:t2.fill=es.size+1:=by unfold SetTable.fill;rw[d2,De,p3];rfl
  refine fZ (fun ip=>?_) (fun ip=>?_)
  ·
   have ip:t2.fill*5>=t2.mask*3:=by
    have:t2.tooFull=true:=by simpa using ip
    unfold SetTable.tooFull at this;exact cb this
   rw[sU,m2]at ip;have h7:t.mask=7:=by
    rcases tk.ms with e|e
    ·exact e
    ·rw[e]at ip;omega
   have h5:es.size+1=5:=by have:=tk.La;rw[h7]at ip this;omega
   refine aa ?_
   unfold setRelay;have T5:t2.fits iT.size=true:=by
    unfold SetTable.fits;rw[De,p3,js,bB,nC,sU,m2,h7,h5];rfl
   refine aa (cV hg rfl T5 ?_);dsimp only;rw[h5];have EE:SetTable.sizeAbove (SetTable.grown 5)=32:=by decide
   rw[EE,af (by decide)];obtain⟨t3,order,e3,m3,d3,l3,XY,r3,T6,T7,sV⟩:=AY (m:=31) (f:=t2.finger) (mv:=t2.movedTo 31) (ld:=t2.led) (pl:=t2.plain) (.inr rfl) (es:=iT) (by rw[js];omega);have VS:=Cy (.inr rfl) (es:=iT) (by rw[js];omega) e3;have er:t2.relaid (iT.map (·.1)) (SetTable.grown 5)=some (t3,order):=by
    unfold SetTable.relaid;rw[EE];exact e3
   rw[er];refine aa ?_
   have sW:(order.filterMap fun x=>iT[x]?).size=iT.size:=by
    have q:=sV.length_eq;rw[bq,bq]at q;exact q
   show wpAny _ _ (if((order.filterMap fun x=>iT[x]?).size !=iT.size)=true then _ else _) _ _ _;rw[sW,gW];simp only[aV,aR];refine ae ?_
   dsimp only;generalize (order.filterMap fun x=>iT[x]?)=AK at sW sV VS⊢;refine ni hg rfl (ae ?_) (by rw[sW];exact yb);have EF:((s.heap.update a (Obj.putSet iT t2)).update a (Obj.putSet AK t3)).get? a=some {o with data:=.set AK (ep+1+1) t3}:=by
    have q:=iA (Obj.putSet AK t3) hg (by rw[gj AK t3 rfl];rfl);rw[gj AK t3 rfl]at q;exact q
   refine h _ _ (PJ.trans (dS _ a _)) ⟨_,AK,_,t3,EF,hex,rfl,sV.trans sT,⟨d3,.inr m3,by rw[m3];exact T6,by rw[T7,sW],by rw[m3,sW,js];omega,r3⟩,C9.imp id fun z=>l3.trans z,VS⟩
  ·refine ae (h _ _ PJ ⟨_,iT,_,t2,hg,hex,rfl,sT,⟨d2,by rw[m2];exact tk.ms,by rw[De,m2];exact p4,by rw[De,p3,js],?_,by rw[De];exact p5⟩,C9,X3⟩);have:¬t2.fill*5>=t2.mask*3:=by
    intro z;refine ip ?_
    show(!false&&t2.tooFull)=true;unfold SetTable.tooFull;rw[bF z];rfl
   rw[sU]at this;rw[js];omega
 split
 ·refine aa (EB (d:=3) (by decide) hk fun bv=>?_);cases bv with
  |true=>exact fin t1 p1 p2 rfl rfl
  |false=>exact fin {t1 with plain:=false} p1 p2 rfl rfl
 ·refine aa (ae ?_);exact fin t1 p1 p2 rfl rfl
end
end L2
namespace L2
open PySem PySem.Spec PyProof.Rows PySem.W
theorem e_{α β:Type}{n:Nat}{lt:Nat->Nat->Bool}{f:α->KasT β}:∀(t:KasT α),dg n lt (t.bind f)=(dg n lt t).bind fun a=>dg n lt (f a)
 |.ret a=>rfl
 |.ask i j k=>by
  show(if i<n/\j<n/\i≠j then dg n lt ((k (lt i j)).bind f)else none)=_;show _=Option.bind (if i<n/\j<n/\i≠j then dg n lt (k (lt i j))else none) _;by_cases z:i<n/\j<n/\i≠j
  ·rw[ab z,ab z];exact e_ _
  ·rw[af z,af z];rfl
structure CF(n:Nat)(lt:Nat->Nat->Bool):Prop where
 as:∀i j,i<n->j<n->i≠j->lt i j=!lt j i
 tr:∀i j k,i<n->j<n->k<n->lt i j=true->lt j k=true->lt i k=true
def Pn(n:Nat)(p:Array Nat):Prop:=p.toList.Perm (List.range n)
def wH(lt:Nat->Nat->Bool)(p:Array Nat)(a b:Nat):Prop:=lt (p.getD a 0) (p.getD b 0)=true
def eR(lt:Nat->Nat->Bool)(p:Array Nat)(k:Nat):Prop:=∀a b,a<b->b<k->wH lt p a b
def yd(lt:Nat->Nat->Bool)(p:Array Nat)(k:Nat):Prop:=∀a b,a<b->b<k->wH lt p b a
section
variable {n:Nat}{lt:Nat->Nat->Bool}{p:Array Nat}
theorem vd:∀{l:List Nat} {i j x:Nat},l.Nodup->l[i]?=some x->l[j]?=some x->i=j
 |[],_,_,_,_,h,_=>by simp at h
 |a::l,0,0,_,_,_,_=>rfl
 |a::l,0,j+1,x,nd,h1,h2=>by
  rw[dX]at nd;cases h1;exact absurd (bw (show l[j]?=some a from h2)) nd.1
 |a::l,i+1,0,x,nd,h1,h2=>by
  rw[dX]at nd;cases h2;exact absurd (bw (show l[i]?=some a from h1)) nd.1
 |a::l,i+1,j+1,x,nd,h1,h2=>by
  rw[dX]at nd;rw[vd nd.2 (show l[i]?=some x from h1) (show l[j]?=some x from h2)]
theorem Pn.size (h:Pn n p):p.size=n:=by
 have q:=List.Perm.length_eq h;rw[bq,fW]at q;exact q
theorem Pn.getD (h:Pn n p){a:Nat}(ha:a<n):p[a]?=some (p.getD a 0):=by
 rw[cw,bV (by rw[h.size];exact ha)];rfl
theorem Pn.lo (h:Pn n p){a:Nat}(ha:a<n):p.getD a 0<n:=by
 have e:=h.getD ha;rw[<-cu]at e;exact cC.mp ((List.Perm.mem_iff h).mp (bw e))
theorem Pn.ne (h:Pn n p){a b:Nat}(ha:a<n)(hb:b<n)(ui:a≠b):p.getD a 0≠p.getD b 0:=by
 intro e;have e1:=h.getD ha;have e2:=h.getD hb;rw[<-cu]at e1 e2;have nd:p.toList.Nodup:=(mY h).mpr rB;rw[<-e]at e2;exact ui (vd nd e1 e2)
theorem CF.no (L:CF n lt)(h:Pn n p){a b:Nat}(ha:a<n)(hb:b<n)(ui:a≠b)(e:lt (p.getD a 0) (p.getD b 0)=false):wH lt p b a:=by
 have q:=L.as _ _ (h.lo ha) (h.lo hb) (h.ne ha hb ui);rw[e]at q;unfold wH;cases z:lt (p.getD b 0) (p.getD a 0)with
 |true=>rfl
 |false=>rw[z]at q;cases q
theorem CF.trans (L:CF n lt)(h:Pn n p){a b c:Nat}(ha:a<n)(hb:b<n)(hc:c<n)(e1:wH lt p a b)(e2:wH lt p b c):wH lt p a c:=L.tr _ _ _ (h.lo ha) (h.lo hb) (h.lo hc) e1 e2
theorem oE{α:Type}(h:Pn n p){a b:Nat}(ha:a<n)(hb:b<n)(ui:a≠b){k:Bool->KasT α}:dg n lt (.ask (p.getD a 0) (p.getD b 0) k)=dg n lt (k (lt (p.getD a 0) (p.getD b 0))):=ab ⟨h.lo ha,h.lo hb,h.ne ha hb ui⟩
theorem eR.succ (L:CF n lt)(h:Pn n p){m:Nat}(h1:1<=m)(hm:m<n)(s:eR lt p m)(e:wH lt p (m - 1) m):eR lt p (m+1):=by
 intro a b ui hb;by_cases z:b<m
 ·exact s a b ui z
 ·have:b=m:=by omega
  subst this;by_cases za:a=b - 1
  ·rw[za];exact e
  ·exact L.trans h (by omega) (by omega) hm (s a (b - 1) (by omega) (by omega)) e
theorem yd.succ (L:CF n lt)(h:Pn n p){m:Nat}(h1:1<=m)(hm:m<n)(s:yd lt p m)(e:wH lt p m (m - 1)):yd lt p (m+1):=by
 intro a b ui hb;by_cases z:b<m
 ·exact s a b ui z
 ·have:b=m:=by omega
  subst this;by_cases za:a=b - 1
  ·rw[za];exact e
  ·exact L.trans h hm (by omega) (by omega) e (s a (b - 1) (by omega) (by omega))
theorem v7(L:CF n lt)(h:Pn n p):∀(f m:Nat),1<=m->m+f<=n->eR lt p m->∃m',dg n lt (kas_asc p f m)=some m'/\m<=m'/\m'<=m+f/\eR lt p m'/\(m'<m+f->wH lt p m' (m' - 1))
 |0,m,h1,_,s=>⟨m,rfl,ak _,ak _,s,fun z=>absurd z (cX _)⟩
 |f+1,m,h1,hf,s=>by
  unfold kas_asc;rw[oE h (by omega) (by omega) (by omega)];cases e:lt (p.getD m 0) (p.getD (m - 1) 0)with
  |true=>exact⟨m,rfl,ak _,by omega,s,fun _=>e⟩
  |false=>
   obtain⟨m',q1,q2,q3,q4,q5⟩:=v7 L h f (m+1) (by omega) (by omega) (s.succ L h h1 (by omega) (L.no h (by omega) (by omega) (by omega) e));exact⟨m',q1,by omega,by omega,q4,fun z=>q5 (by omega)⟩
theorem ye(L:CF n lt)(h:Pn n p):∀(f m:Nat),1<=m->m+f<=n->yd lt p m->∃m',dg n lt (kas_desc f p m 0)=some (p,m',0)/\m<=m'/\m'<=m+f/\yd lt p m'
 |0,m,h1,_,s=>⟨m,rfl,ak _,ak _,s⟩
 |f+1,m,h1,hf,s=>by
  unfold kas_desc;rw[oE h (by omega) (by omega) (by omega)];cases e:lt (p.getD m 0) (p.getD (m - 1) 0)with
  |true=>
   obtain⟨m',q1,q2,q3,q4⟩:=ye L h f (m+1) (by omega) (by omega) (s.succ L h h1 (by omega) e);exact⟨m',q1,by omega,by omega,q4⟩
  |false=>
   refine⟨m,?_,ak _,by omega,s⟩;show dg n lt (.ask (p.getD (m - 1) 0) (p.getD m 0) _)=_;rw[oE h (by omega) (by omega) (by omega),show lt (p.getD (m - 1) 0) (p.getD m 0)=true from L.no h (by omega) (by omega) (by omega) e]
   rfl
theorem rev_getD(h:Pn n p){m:Nat}(hm:m<=n)(k:Nat):(kas_rev p 0 m).getD k 0=if k<m then p.getD (m - 1 - k) 0 else p.getD k 0:=by
 unfold kas_rev;have e:=getElem?_mirror_all (xs:=p) (i:=0) (j:=m) (by rw[h.size];exact hm) k;rw[Nat.sub_zero]at e;rw[cw,Nat.sub_zero,e];by_cases z:k<m
 ·rw[ab ⟨bP _,z⟩,ab z,cw];congr 3;omega
 ·rw[af (fun q=>z q.2),af z,cw]
theorem Lg(h:Pn n p){m:Nat}:Pn n (kas_rev p 0 m):=by
 unfold kas_rev;exact(wM.mp (mirror_perm p 0 m _)).trans h
theorem CG(L:CF n lt)(h:Pn n p)(h2:2<=n):∃m p',dg n lt (kas_count n p)=some (m,p')/\Pn n p'/\1<=m/\m<=n/\eR lt p' m:=by
 unfold kas_count;rw[e_];obtain⟨m,q1,q2,q3,q4,q5⟩:=v7 L h (n - 1) 1 (ak _) (by omega) (fun a b _ hb=>by omega);rw[q1];show∃m' p',dg n lt (if(m==n)=true then _ else if m>1 then _ else _)=_/\_;by_cases z:m=n
 ·rw[ab (by rw[z];exact bB n)];exact⟨m,p,rfl,h,q2,by omega,q4⟩
 ·rw[af (by simpa using z)];by_cases z1:m>1
  ·rw[ab z1,oE h (by omega) (by omega) (by omega),show lt (p.getD 0 0) (p.getD (m - 1) 0)=true from q4 0 (m - 1) (by omega) (by omega),ab rfl];exact⟨m,p,rfl,h,q2,by omega,q4⟩
  ·rw[af z1];have hm:m=1:=by omega
   subst hm;have X4:wH lt p 1 0:=q5 (by omega);unfold kas_descPart;rw[e_];obtain⟨m',r1,r2,r3,r4⟩:=ye L h (n - (1+1)) (1+1) (by omega) (by omega) (fun a b ui hb=>by
    have lK:b=1:=by omega
    have dQ:a=0:=by omega
    rw[lK,dQ];exact X4)
   rw[r1];show∃YY YZ,dg n lt (if 0>0 then _ else kas_tail3 m' n p)=_/\_;rw[af (by omega)];unfold kas_tail3;rw[e_];have hr:=Lg h (m:=m');obtain⟨m2,s1,s2,s3,s4,_⟩:=v7 L hr (n - m') m' (by omega) (by omega) (fun a b ui hb=>by
    unfold wH;rw[rev_getD h (by omega),rev_getD h (by omega),ab (by omega),ab hb];exact r4 (m' - 1 - b) (m' - 1 - a) (by omega) (by omega))
   rw[s1];exact⟨m2,_,rfl,hr,by omega,by omega,s4⟩
theorem pE(L:CF n lt)(h:Pn n p){k:Nat}(hk:k<n):∀(f l r:Nat),l<=r->r<=k->r - l<=f->(∀a,a<l->wH lt p a k)->(∀a,r<=a->a<k->wH lt p k a)->eR lt p k->∃l',dg n lt (kas_place p k f l r)=some l'/\l'<=k/\(∀a,a<l'->wH lt p a k)/\∀a,l'<=a->a<k->wH lt p k a
 |0,l,r,X5,VT,hf,h1,h2,s=>⟨l,rfl,by omega,h1,fun a ha MF=>h2 a (by omega) MF⟩
 |f+1,l,r,X5,VT,hf,h1,h2,s=>by
  unfold kas_place;by_cases z:l>=r
  ·rw[ab z];exact⟨l,rfl,by omega,h1,fun a ha MF=>h2 a (by omega) MF⟩
  ·rw[af z,oE h hk (by omega) (by omega)];cases e:lt (p.getD k 0) (p.getD ((l+r)/2) 0)with
   |true=>
    refine pE L h hk f l ((l+r)/2) (by omega) (by omega) (by omega) h1 (fun a ha MF=>?_) s;by_cases za:a=(l+r)/2
    ·rw[za];exact e
    ·exact L.trans h hk (by omega) (by omega) e (s _ a (by omega) MF)
   |false=>
    have e':=L.no h hk (show(l+r)/2<n by omega) (by omega) e;refine pE L h hk f ((l+r)/2+1) r (by omega) VT (by omega) (fun a ha=>?_) h2 s;by_cases za:a=(l+r)/2
    ·rw[za];exact e'
    ·exact L.trans h (by omega) (by omega) hk (s a _ (by omega) (by omega)) e'
theorem yf(h:Pn n p){k l:Nat}(hk:k<n)(hl:l<=k)(c:Nat):(bubble p k (k - l)).getD c 0=if c=l then p.getD k 0 else if l<c/\c<=k then p.getD (c - 1) 0 else p.getD c 0:=by
 have e:=getElem?_bubble (xs:=p) (src:=k) (by rw[h.size];exact hk) (k - l) (by omega) c;rw[cw,e];have MG:k - (k - l)=l:=by omega
 rw[MG];by_cases z:c=l
 ·rw[ab z,ab z,cw]
 ·rw[af z,af z];by_cases z2:l<c/\c<=k
  ·rw[ab z2,ab z2,cw]
  ·rw[af z2,af z2,cw]
theorem A_(L:CF n lt):∀(f:Nat) (p:Array Nat) (k:Nat),Pn n p->1<=k->k+f=n->eR lt p k->∃p',dg n lt (kas_bin f p k)=some p'/\Pn n p'/\eR lt p' n
 |0,p,k,h,h1,hf,s=>⟨p,rfl,h,by rw[<-show k=n from hf];exact s⟩
 |f+1,p,k,h,h1,hf,s=>by
  unfold kas_bin;rw[e_];have hk:k<n:=by omega
  obtain⟨l,q1,q2,q3,q4⟩:=pE L h hk k 0 k (by omega) (ak _) (by omega) (fun a ha=>by omega) (fun a ha MF=>by omega) s;rw[q1];have Ht:Pn n (bubble p k (k - l)):=(wM.mp (bubble_perm p k (k - l))).trans h;refine A_ L f _ (k+1) Ht (by omega) (by omega) fun a b ui hb=>?_
  unfold wH;rw[yf h hk q2,yf h hk q2];by_cases zb:b=l
  ·rw[ab zb,af (by omega),af (by omega)];exact q3 a (by omega)
  ·rw[af zb];by_cases za:a=l
   ·rw[ab za,ab (by omega)];exact q4 (b - 1) (by omega) (by omega)
   ·rw[af za];by_cases z1:l<a/\a<=k
    ·rw[ab z1,ab (by omega)];exact s (a - 1) (b - 1) (by omega) (by omega)
    ·rw[af z1];by_cases z2:l<b/\b<=k
     ·rw[ab z2];exact s a (b - 1) (by omega) (by omega)
     ·rw[af z2];exact s a b ui (by omega)
theorem sX(L:CF n lt)(h2:2<=n):∃p,dg n lt (kas_sort n)=some p/\Pn n p/\eR lt p n:=by
 unfold kas_sort;rw[e_];have h:Pn n (List.toArray (List.range n)):=List.Perm.refl _;obtain⟨m,p',q1,q2,q3,q4,q5⟩:=CG L h h2;rw[q1];show∃p,dg n lt (if m<n then _ else _)=_/\_;by_cases z:m<n
 ·rw[ab z,rK q3];exact A_ L (n - m) p' m q2 q3 (by omega) q5
 ·rw[af z];have:m=n:=by omega
  exact⟨p',rfl,q2,by rw[<-this];exact q5⟩
theorem CH(h:Pn n p)(s:eR lt p n):p.toList.Pairwise fun i j=>lt i j=true:=by
 rw[List.pairwise_iff_getElem];intro i j hi hj qH;have qL:i<n:=by rw[bq,h.size]at hi;exact hi
 have uo:j<n:=by rw[bq,h.size]at hj;exact hj
 have e:=s i j qH uo;unfold wH at e;have e1:=h.getD qL;have e2:=h.getD uo;rw[<-cu,aB hi]at e1;rw[<-cu,aB hj]at e2;rw[Option.some.inj e1,Option.some.inj e2];exact e
end
end L2
namespace L2
open PySem PySem.Spec PySem.Calls PyProof.Rows
def lX(a b:List Int):Bool:=!decide (b<a)
theorem qP{a b:List Int}:lX a b=true↔a<=b:=by
 unfold lX;rw[Bool.not_eq_true',decide_eq_false_iff_not];exact Iff.rfl
theorem fQ{a b c:List Int}(h1:lX a b=true)(h2:lX b c=true):lX a c=true:=by
 rw[qP]at*;exact List.le_trans h1 h2
theorem fR(a b:List Int):(lX a b||lX b a)=true:=by
 rw[nk,qP,qP];exact List.le_total _ _
theorem gw{a b:List Int}(h1:lX a b=true)(h2:lX b a=true):a=b:=by
 rw[qP]at*;exact List.le_antisymm h1 h2
def PM(ks:List (List Int))(i j:Nat):Bool:=decide (ks.getD i []<ks.getD j [])
theorem Lh{a b:List Int}(h:a≠b):decide (a<b)=!decide (b<a):=by
 cases e:decide (b<a)with
 |true=>
  have h1:b<a:=cb e;rw[eQ];exact bg (List.lt_asymm h1)
 |false=>
  rw[nr];have h1:lX a b=true:=by unfold lX;rw[e];rfl
  cases q:decide (a<b)with
  |true=>rfl
  |false=>
   have h2:lX b a=true:=by unfold lX;rw[q];rfl
   exact absurd (gw h1 h2) h
theorem Ba{ks:List (List Int)}(nd:ks.Nodup){i j:Nat}(hi:i<ks.length)(hj:j<ks.length)(h:i≠j):ks.getD i []≠ks.getD j []:=by
 rw[bb,bb,aB hi,aB hj];intro e;exact h ((gJ nd).mp e)
theorem v8{ks:List (List Int)}(nd:ks.Nodup):CF ks.length (PM ks):=
 ⟨fun i j hi hj h=>Lh (Ba nd hi hj h),fun i j k _ _ _ h1 h2=>bF (List.lt_trans (cb h1) (cb h2))⟩
def bU(ks:List (List Int)):List Nat:=(List.range ks.length).mergeSort fun i j=>lX (ks.getD i []) (ks.getD j [])
theorem cS(ks:List (List Int)):(bU ks).Perm (List.range ks.length):=cM _ _
theorem cF{ks:List (List Int)}{i:Nat}(h:i∈bU ks):i<ks.length:=cC.mp ((cS ks).mem_iff.mp h)
theorem iG(ks:List (List Int)):(bU ks).Pairwise fun i j=>lX (ks.getD i []) (ks.getD j [])=true:=jx (le:=fun i j=>lX (ks.getD i []) (ks.getD j [])) (fun a b c h1 h2=>fQ h1 h2) (fun a b=>fR _ _) _
theorem pF{ks:List (List Int)}(nd:ks.Nodup){p:Array Nat}(h:Pn ks.length p)(s:eR (PM ks) p ks.length):p.toList=bU ks:=by
 refine jv (le:=fun i j=>lX (ks.getD i []) (ks.getD j [])=true) (fun a b ha hb h1 h2=>?_) ((CH h s).imp fun{i j} e=>?_) (iG ks) (List.Perm.trans h (cS ks).symm)
 ·have dQ:a<ks.length:=cC.mp ((List.Perm.mem_iff h).mp ha);have lK:b<ks.length:=cF hb;by_cases z:a=b
  ·exact z
  ·exact absurd (gw h1 h2) (Ba nd dQ lK z)
 ·have e:ks.getD i []<ks.getD j []:=cb e;unfold lX;rw[bg (List.lt_asymm e)];rfl
theorem jL{ks:List (List Int)}(h:ks.length<2):bU ks=List.range ks.length:=by
 unfold bU
 match ks,h with
 |[],_=>rw[show List.range ([]:List (List Int)).length=[]from rfl,List.mergeSort_nil]
 |[a],_=>rw[show List.range [a].length=[0]from rfl,List.mergeSort_singleton]
def wI(h:Heap)(v:Value)(a b:Int):Prop:=∃ad o t u n,v=.ref ad/\h.get? ad=some o/\o.cls=.type "tuple"/\o.data=.seq #[.int a t,.int b u] n
def RJ(h:Heap)(v:Value)(c a b:Int):Prop:=∃ad o t n x,v=.ref ad/\h.get? ad=some o/\o.cls=.type "tuple"/\o.data=.seq #[.int c t,x] n/\wI h x a b
def TK(h:Heap)(v:Value):List Int->Prop
 |[a,b]=>wI h v a b
 |[c,a,b]=>RJ h v c a b
 |_=>False
theorem wI.keep {h h':Heap}{v:Value}{a b:Int}(k:∀b o xs n,o.cls=Value.type "tuple"->o.data=.seq xs n->h.get? b=some o->h'.get? b=some o):wI h v a b->wI h' v a b
 |⟨ad,o,t,u,n,e,h1,h2,h3⟩=>⟨ad,o,t,u,n,e,k _ _ _ _ h2 h3 h1,h2,h3⟩
theorem TK.keep {h h':Heap}{v:Value}(k:∀b o xs n,o.cls=Value.type "tuple"->o.data=.seq xs n->h.get? b=some o->h'.get? b=some o):∀{ky:List Int},TK h v ky->TK h' v ky
 |[a,b],x=>wI.keep k x
 |[c,a,b],⟨ad,o,t,n,y,e,h1,h2,h3,h4⟩=>⟨ad,o,t,n,y,e,k _ _ _ _ h2 h3 h1,h2,h3,wI.keep k h4⟩
 |[],x=>x.elim
 |[_],x=>x.elim
 |_::_::_::_::_,x=>x.elim
theorem TK.shape {h:Heap}{v:Value}:∀{ky:List Int},TK h v ky->(∃a b,ky=[a,b])\/∃c a b,ky=[c,a,b]
 |[a,b],_=>.inl ⟨a,b,rfl⟩
 |[c,a,b],_=>.inr ⟨c,a,b,rfl⟩
 |[],x=>x.elim
 |[_],x=>x.elim
 |_::_::_::_::_,x=>x.elim
section
variable {prog:Program}{w:World}{A:Around}{E:Value->Shared->Prop}{s:Shared}
theorem jM{a b:Int}{l m:List Int}:decide (a::l<b::m)=(decide (a<b)||(a==b&&decide (l<m))):=by
 rw[nh,ck,nk,aJ,ck,ck,h9];exact List.cons_lt_cons_iff
theorem zx:decide (([]:List Int)<[])=false:=rfl
theorem wI.key {h:Heap}{v:Value}{a b:Int}(x:wI h v a b):∃ad,v=.ref ad/\(tupleKind (ay prog w)).is h [.inl a,.inl b] ad:=by
 obtain⟨ad,o,t,u,n,rfl,h1,h2,h3⟩:=x;exact⟨ad,rfl,o,_,n,h1,h2,h3,.cons (Az (k:=.inl a) (t:=t)) (.cons (Az (k:=.inl b) (t:=u)) .nil)⟩
theorem Li{v v':Value}{a b a' b':Int}{Q:Bool->Shared->Prop}(hx:wI s.heap v a b)(hy:wI s.heap v' a' b')(ff:([a,b]:List Int)≠[a',b'])(h:Q (decide ([a,b]<[a',b'])) s):wpAny (model prog w) A (keyLt' (tuples' true) v v') Q E s:=by
 obtain⟨ad,o,t,u,n,rfl,h1,h2,h3⟩:=hx;obtain⟨VU,o',t',u',n',rfl,Ct,FN,wG⟩:=hy;rw[jM,jM,zx]at h;refine rR h1 h3 Ct wG (kg (nq ?_));by_cases z:a=a'
 ·subst z;rw[bB];refine PySem.W.kat_yes (kg (nq ?_));have hb:b≠b':=fun e=>ff (by rw[e]);rw[eP hb];refine ko (rM _ _ (wpAny_lt_int ?_));rw[bg (nE a),bB,eP hb]at h;show Q (decide (b<b')) s;simpa using h
 ·rw[eP z];refine ko (oneLt_int ?_);rw[eP z]at h;simpa using h
theorem Lj{v v':Value}{c a b c' a' b':Int}{Q:Bool->Shared->Prop}(hu:A.units<cLine)(hx:RJ s.heap v c a b)(hy:RJ s.heap v' c' a' b')(ff:([c,a,b]:List Int)≠[c',a',b'])(h:Q (decide ([c,a,b]<[c',a',b'])) s):wpAny (model prog w) A (keyLt' (tuples' true) v v') Q E s:=by
 obtain⟨ad,o,t,n,x,rfl,h1,h2,h3,PN⟩:=hx;obtain⟨VU,o',t',n',x',rfl,Ct,FN,wG,PO⟩:=hy;rw[jM]at h;refine rR h1 h3 Ct wG (kg (nq ?_));by_cases z:c=c'
 ·subst z;rw[bB];obtain⟨b1,rfl,k1⟩:=wI.key (prog:=prog) (w:=w) PN;obtain⟨b2,rfl,k2⟩:=wI.key (prog:=prog) (w:=w) PO;have hb:([a,b]:List Int)≠[a',b']:=fun e=>ff (by rw[e]);refine PySem.W.kat_yes (kg ((tupleKind (ay prog w)).eqBool hu k1 k2 ?_));have hk:([.inl a,.inl b]:List Key)≠[.inl a',.inl b']:=fun e=>hb (by injection e with e1 e2;injection e2 with e2 _;injection e1 with e1;injection e2 with e2;rw[e1,e2]);rw[bg hk];obtain⟨_,ob,tb,ub,nb,e,g1,g2,g3⟩:=PN;cases e;obtain⟨_,T9,T_,T',Ua,e,Ub,Uc,Ud⟩:=PO;cases e;refine ko (rM _ _ (HT.sf ⟨ob,g1,g2,nb,g3⟩ ⟨T9,Ub,Uc,Ua,Ud⟩ (.cons a tb (.cons b ub .nil)) (.cons a' T_ (.cons b' T' .nil)) hu ?_));show Q (HT.lexLt [a,b] [a',b']) s;have e:HT.lexLt [a,b] [a',b']=decide ([a,b]<[a',b']):=by
   rw[jM,jM,zx];unfold HT.lexLt;by_cases q:a=a'
   ·subst q;rw[bB,bg (nE a)];have Ny:b≠b':=fun e=>hb (by rw[e]);simp[HT.lexLt,Ny]
   ·simp[q,HT.lexLt]
  rw[e];rw[bg (nE c),bB]at h;simpa using h
 ·rw[eP z];refine ko (oneLt_int ?_);rw[eP z]at h;simpa using h
theorem Jd{v v':Value}{k k':List Int}{Q:Bool->Shared->Prop}(hu:A.units<cLine)(hx:TK s.heap v k)(hy:TK s.heap v' k')(hl:k.length=k'.length)(ff:k≠k')(h:Q (decide (k<k')) s):wpAny (model prog w) A (keyLt' (tuples' true) v v') Q E s:=by
 rcases hx.shape with⟨a,b,rfl⟩|⟨c,a,b,rfl⟩<;>rcases hy.shape with⟨a',b',rfl⟩|⟨c',a',b',rfl⟩
 ·exact Li hx hy ff h
 ·cases hl
 ·cases hl
 ·exact Lj hu hx hy ff h
end
theorem EG{h:Heap}{v:Value}{k:List Int}(x:TK h v k):∃a o xs n i t,v=.ref a/\h.get? a=some o/\o.cls=.type "tuple"/\o.data=.seq xs n/\xs[0]?=some (.int i t):=by
 match k,x with
 |[a,b],⟨ad,o,t,u,n,e,h1,h2,h3⟩=>exact⟨ad,o,_,n,a,t,e,h1,h2,h3,rfl⟩
 |[c,a,b],⟨ad,o,t,n,y,e,h1,h2,h3,_⟩=>exact⟨ad,o,_,n,c,t,e,h1,h2,h3,rfl⟩
theorem mD{h:Heap}:∀{vs:List Value} {ks:List (List Int)},vs.length=ks.length->(∀(i:Nat) (v:Value) (k:List Int),vs[i]?=some v->ks[i]?=some k->TK h v k)->∃fs:List Value,PySem.W.KatTups h vs fs/\fs.length=ks.length/\∀v∈fs,∃z t,v=Value.int z t
 |[],[],_,_=>⟨[],.nil,rfl,fun v m=>(nomatch m)⟩
 |[],_::_,e,_=>by cases e
 |_::_,[],e,_=>by cases e
 |v::vs,k::ks,e,kk=>by
  obtain⟨a,o,xs,n,i,t,rfl,h1,h2,h3,h4⟩:=EG (kk 0 v k rfl rfl);obtain⟨fs,q1,q2,q3⟩:=mD (vs:=vs) (ks:=ks) (by simpa using e) fun i b y e1 e2=>kk (i+1) b y (by simpa using e1) (by simpa using e2);refine⟨.int i t::fs,.cons h1 h2 h3 h4 q1,by rw[br,br,q2],fun v m=>?_⟩;rcases aN.mp m with rfl|m
  ·exact⟨i,t,rfl⟩
  ·exact q3 v m
section
variable {prog:Program}{w:World}{A:Around}{E:Value->Shared->Prop}{s:Shared}
theorem cK{α:Type}(d:α)(l:List α):(List.range l.length).map (fun i=>l.getD i d)=l:=by
 refine kf (by simp) fun i h1 h2=>?_
 simp[h2]
theorem CI{L D:Addr}{m:Str->Option Value}{vs:List Value}{ks:List (List Int)}{n0:Nat}{P:PySem.Fin->Shared->Prop}(hu:A.units<cLine)(uG:s.heap.Ns L m)(Hw:D≠L)(ho:s.heap.get? D=some (seqObj "list" vs.toArray n0))(hl:vs.length=ks.length)
  (ht:∀(i:Nat) (v:Value) (k:List Int),vs[i]?=some v->ks[i]?=some k->TK s.heap v k) (zy:ks.Nodup) (yF:ks.length<64) (yg:∀k∈ks,∀k'∈ks,k.length=k'.length)
  (h:∀h' c,(∀b o,b≠L->b≠D->s.heap.get? b=some o->h'.get? b=some o)->h'.Ns L m->h'.get? D=some (seqObj "list" ((bU ks).map fun i=>vs.getD i Value.none).toArray c)->P (.done (.ret .none)) {s with heap:=h'}):
  wpAny (model prog w) A (Builtin.«list.sort» ⟨[.ref D],[]⟩) P E s:=by
 by_cases h2:ks.length<2
 ·refine jU ho (by rw[hl];exact h2) fun h' c kp hD=>?_
  refine h h' c (fun b o _ n e=>kp b o n e) ?_ (by rw[jL h2,<-hl,cK];exact hD)
  obtain⟨o,es,vw,wR,r'⟩:=uG;exact⟨o,es,vw,kp _ _ Hw.symm wR,r'⟩
 ·have h2:2<=ks.length:=by omega
  obtain⟨p,er,hp,hs⟩:=sX (v8 zy) h2;have ep:=pF zy hp hs;have F:Fr pk L s.heap m:=⟨uG,(fun b o e=>by rw[eZ]at e;cases e),bP _⟩;have N:News pk L s.heap (qM s.heap L D):=fun t ht=>by
   obtain⟨n1,n2,e⟩:=cI.mp (show(t.1,t.2)∈_ from ht);exact⟨e,n1,eZ _⟩
  refine PySem.W.kat_list_sort F N ho Hw (eZ _) (fun t ht=>(cI.mp (show(t.1,t.2)∈_ from ht)).2.1) (by rw[hl];exact h2) (by rw[hl];exact yF) fun e1 h' F' N'=>?_
  have kt:∀b o xs n,o.cls=Value.type "tuple"->o.data=.seq xs n->s.heap.get? b=some o->h'.get? b=some o:=fun b o xs n hc hd e=>by
   have nL:b≠L:=fun z=>by
    obtain⟨o',es,vw,wR,hx,_⟩:=uG;rw[z,wR]at e;cases e;rw[hx]at hd;cases hd
   have nD:b≠D:=fun z=>by
    rw[z,ho]at e;cases e;exact absurd (show Value.type "list"=Value.type "tuple"from hc) (by decide)
   exact(N' (b,o) (aO _ (cI.mpr ⟨nL,nD,e⟩))).1
  have tp:∀(i:Nat) (v:Value) (k:List Int),vs[i]?=some v->ks[i]?=some k->TK h' v k:=fun i v k e1 e2=>(ht i v k e1 e2).keep kt
  obtain⟨fs,aD,fl,Ll⟩:=mD hl tp;refine rD (T:=.type "int") aD (by rw[fl];omega) (fun v hv=>by obtain⟨z,t,rfl⟩:=Ll v hv;exact .of_pure rfl) (by decide) ?_
  rw[show(Value.type "int" !=Value.type "tuple")=true by decide,hl];refine lP (fun i j C hi hj qH hC=>?_) _ er ?_
  ·have vi:vs[i]?=some (vs[i]'(by omega)):=aB (by omega)
   have vj:vs[j]?=some (vs[j]'(by omega)):=aB (by omega)
   have ki:ks[i]?=some ks[i]:=aB hi
   have kj:ks[j]?=some ks[j]:=aB hj
   show wpAny _ _ (keyLt' _ (vs.getD i Value.none) (vs.getD j Value.none)) _ _ _;rw[bb,bb,vi,vj];refine Jd hu (tp i _ _ vi ki) (tp j _ _ vj kj) (yg _ (f' hi) _ (f' hj)) (fun e=>qH ((gJ zy).mp e)) ?_
   unfold PM at hC;rw[bb,bb,ki,kj]at hC;exact hC
  ·refine PySem.W.KasFin.intro F' N' (.head fun t ht=>(cI.mp (show(t.1,t.2)∈_ from ht)).2.1) fun Ue c Ug PQ=>?_
   refine h Ue c (fun b o n1 n2 e=>(PQ (b,o) (aO _ (cI.mpr ⟨n1,n2,e⟩))).1) Ug.ns ?_
   rw[<-ep];exact(PQ _ (aS ..)).1
end
end L2
namespace L2
open PySem PySem.Spec PySem.Calls PyProof.Rows
def Hx:Tr->Option (List Int)
 |.tup [.int a,.int b]=>some [a,b]
 |.tup [.int c,.tup [.int a,.int b]]=>some [c,a,b]
 |_=>none
def fK(t:Tr):List Int:=(Hx t).getD []
def yD(ts:List Tr):Bool:=(ts.all fun t=>(Hx t).isSome)&&(decide (ts.length<64)&&(decide ((ts.map fK).Nodup)&&((ts.all fun t=>(fK t).length==2)||(ts.all fun t=>(fK t).length==3))))
def fB(ts:List Tr):List Tr:=ts.mergeSort fun a b=>lX (fK a) (fK b)
theorem zz{ts:List Tr}(h:yD ts=true):(∀t∈ts,Hx t=some (fK t))/\ts.length<64/\(ts.map fK).Nodup/\∀k∈ts.map fK,∀k'∈ts.map fK,k.length=k'.length:=by
 unfold yD at h;rw[aJ,aJ,aJ,ck,ck]at h;obtain⟨h1,h2,h3,h4⟩:=h;refine⟨fun t ht=>?_,h2,h3,fun k hk k' x9=>?_⟩
 ·have q:=bG.mp h1 t ht;unfold fK;cases e:Hx t with
  |none=>rw[e]at q;cases q
  |some k=>rfl
 ·obtain⟨t,ht,rfl⟩:=aW.mp hk;obtain⟨t',Je,rfl⟩:=aW.mp x9;rw[nk]at h4;rcases h4 with h4|h4
  ·exact(eq_of_beq (bG.mp h4 t ht)).trans (eq_of_beq (bG.mp h4 t' Je)).symm
  ·exact(eq_of_beq (bG.mp h4 t ht)).trans (eq_of_beq (bG.mp h4 t' Je)).symm
theorem Hy{ts:List Tr}(nd:(ts.map fK).Nodup){a b:Tr}(ha:a∈ts)(hb:b∈ts)(e:fK a=fK b):a=b:=by
 obtain⟨i,hi⟩:=dM ha;obtain⟨j,hj⟩:=dM hb;obtain⟨PR,Jf⟩:=b_.mp hi;obtain⟨PU,Jg⟩:=b_.mp hj;have q:(ts.map fK)[i]'(by rw[ah];exact PR)=(ts.map fK)[j]'(by rw[ah];exact PU):=by
  rw[fo,fo,Jf,Jg,e]
 have z:=(gJ nd).mp q;subst z;rw[<-Jf,<-Jg]
theorem ve{ts:List Tr}(nd:(ts.map fK).Nodup):(bU (ts.map fK)).map (fun i=>ts.getD i .cD)=fB ts:=by
 have hp:((bU (ts.map fK)).map fun i=>ts.getD i .cD).Perm ts:=by
  have q:=(cS (ts.map fK)).map fun i=>ts.getD i .cD;rw[ah,cK]at q;exact q
 have BK:(fB ts).Perm ts:=cM _ _;refine jv (le:=fun a b=>lX (fK a) (fK b)=true) (fun a b ha hb h1 h2=>Hy nd (hp.mem_iff.mp ha) (BK.mem_iff.mp hb) (gw h1 h2)) ?_ (jx (le:=fun a b=>lX (fK a) (fK b)) (fun a b c h1 h2=>fQ h1 h2) (fun a b=>fR _ _) _) (hp.trans BK.symm)
 rw[gX];refine(iG (ts.map fK)).imp_of_mem fun{i j} hi hj e=>?_
 have qL:=cF hi;have uo:=cF hj;rw[ah]at qL uo;rw[bb,bb,aP,aP,aB qL,aB uo]at e;rw[bb,bb,aB qL,aB uo];exact e
theorem qQ{f:Nat->V}{g:Nat->Value}:∀{p:List Nat},(∀i∈p,RelV (f i) (g i))->Vals (p.map f) (p.map g)
 |[],_=>.nil
 |i::p,h=>.cons (h i (aS ..)) (qQ fun j m=>h j (aO _ m))
section
variable {X:Cx}{pins:List (Addr×Obj)}{σ:St}{H:Hp}{s:Shared}{B:bZ}
theorem Hz(I:Inv X pins σ H s){v:V}{a b:Int}{u:Value}(r:Rep X.K (aT B H) v (.tup [.int a,.int b]))(rv:RelV v u):wI s.heap u a b:=by
 obtain⟨ad,us,rfl,hq,rr⟩:=r.iN;cases(show u=Value.ref ad from rv);obtain⟨x1,x2,rfl,r1,r2⟩:=sr rr;obtain⟨aZ,zc,⟨o,h1,h2,n,h3⟩,_⟩:=I.tuple (.inl (.inl (aE _ _ hq)));obtain⟨u1,u2,rfl,e1,e2⟩:=vals2 zc;cases r1.int_inv;cases r2.int_inv;obtain⟨t1,rfl⟩:=e1;obtain⟨t2,rfl⟩:=e2;exact⟨ad,o,t1,t2,n,rfl,h1,h2,h3⟩
theorem zA{Q:VK}(hu:X.A.units+4<cLine)(I:Inv X pins σ H s){h1:Heap}{tk:Nat}{d:Drawn}(v9:∀b o,s.heap.get? b=some o->h1.get? b=some o){vs:List V}{us:List Value}{ks:List (List Int)}(rv:Vals vs us)(hl:us.length=ks.length)
  (ht:∀(i:Nat) (v:Value) (k:List Int),us[i]?=some v->ks[i]?=some k->TK s.heap v k) (zy:ks.Nodup) (yF:ks.length<64) (yg:∀k∈ks,∀k'∈ks,k.length=k'.length)
  (q:∀D,H D=none->Q (.ref D) (upd H D (.lst ((bU ks).map fun i=>vs.getD i .cD)))) {P:PySem.Fin->Shared->Prop} {E:Value->Shared->Prop}
  (hP:∀s',EP X pins σ Q (.ref h1.objs.size) s'->P (.done (.ret .none)) s'):
  wpAny (model X.prog X.w) X.A.in1.in1 (Builtin.«list.sort» ⟨[.ref h1.objs.size],[]⟩) P E {s with heap:=h1.push (seqObj "list" us.toArray 0),toks:=tk,drawn:=d}:=by
 obtain⟨m,uG,_⟩:=id I.loc;have C7:(h1.push (seqObj "list" us.toArray 0)).get? h1.objs.size=some (seqObj "list" us.toArray 0):=aU _ rfl;have J:Inv X pins σ H {s with heap:=h1,toks:=tk}:=I.kept v9;have zB:H h1.objs.size=none:=J.fresh;have Uh:jy X pins H h1.objs.size:=J.ua (ak _) zB;have Ui:X.fb.heap.objs.size<=h1.objs.size:=J.sz;have Hw:h1.objs.size≠X.env.locals:=cy J.lt;have Lm:(h1.push (seqObj "list" us.toArray 0)).Ns X.env.locals m:=by
  obtain⟨o,es,vw,ho,r'⟩:=uG;exact⟨o,es,vw,aC _ (v9 _ _ ho),r'⟩
 refine CI (s:={s with heap:=h1.push (seqObj "list" us.toArray 0),toks:=tk,drawn:=d}) (ks:=ks) (by show X.A.units+1+1<cLine;omega) Lm Hw C7 hl (fun i v k e1 e2=>(ht i v k e1 e2).keep fun b o _ _ _ _ e=>aC _ (v9 b o e)) zy yF yg fun h' c kp Ig hD=>hP _ ?_
 have Uj:∀b o,s.heap.get? b=some o->b<h1.objs.size:=fun b o e=>ar (v9 b o e);have I1:Inv X pins σ H {s with heap:=h',toks:=tk}:=I.xF uG Ig fun b o n e=>kp b o n (aM (Uj b o e)) (aC _ (v9 b o e));have X6:vs.length=us.length:=rv.length;have I2:=I1.adopt (o:=.lst ((bU ks).map fun i=>vs.getD i .cD)) Ui ⟨zB,Uh.2⟩ ⟨by rw[ah,(cS ks).length_eq,fW,bH];omega,_,c,qQ fun i hi=>?_,hD⟩
 ·exact⟨.ref h1.objs.size,_,I2.AB d,rfl,q _ zB⟩
 ·have NN:=cF hi;have PV:i<vs.length:=by omega
  obtain⟨u,eu,ru⟩:=rv.get (aB PV);rw[bb,bb,eu,aB PV];exact ru
theorem CJ{ts:List Tr}{vs:List V}{K:PySem.W.Frag}{W:Vw}(h:yD ts=true)(rr:aK K W vs ts):aK K W ((bU (ts.map fK)).map fun i=>vs.getD i .cD) (fB ts):=by
 obtain⟨_,_,nd,_⟩:=zz h;rw[<-ve nd];refine qN fun i hi=>?_
 have hit:=cF hi;rw[ah]at hit;obtain⟨v,ev,rv⟩:=rr.get (aB hit);rw[bb,bb,ev,aB hit];exact rv
end
end L2
namespace L2
open PySem PySem.Spec PyProof.Rows
section
variable {prog:Program}{w:World}{A:Around}{R:Result->Shared->Prop}{I S:Addr}{fp:List Addr}{n:Nat}{P:Nat->Value->Prop}{St:Nat->Heap->Prop}
theorem CK(hu:A.units+1<cLine)(W:Walks prog w A.in1 I fp [I] n P St)(HC:S∉fp)(val:Nat->List Key×Addr)(EH:∀i v,P i v->v=.ref (val i).2)(hn:n<=18){h0:Heap}(Ln:h0.get? S=none)(Pg:h0.get? I=none)
  (Ca:∀i,i<n->∀h':Heap,(∀b o,h0.get? b=some o->h'.get? b=some o)->(tupleKind (ay prog w)).is h' (val i).1 (val i).2) (ff:∀i j,i<n->j<n->i≠j->(val i).1≠(val j).1):
  ∀(k i:Nat) (s:Shared),n - i=k->i<=n->St i s.heap->(∀b o,h0.get? b=some o->s.heap.get? b=some o)->oD prog w s.heap S ((List.range i).map val)->
   (∀h' tk,(∀b o,b≠S->b≠I->s.heap.get? b=some o->h'.get? b=some o)->oD prog w h' S ((List.range n).map val)->R (.ok (.ret .none)) {s with heap:=h',toks:=tk})->
   codeAny (model prog w) A (.builtin "set.update.loop" ⟨[.ref S,.ref I],[]⟩) R s:=by
 have Uk:I∈fp:=W.sub I (by simp);have PX:S≠I:=fun e=>HC (e▸Uk);have nS:∀{b:Addr} {o:Obj},h0.get? b=some o->b≠S:=fun{b o} e z=>by rw[z,Ln]at e;cases e
 have nI:∀{b:Addr} {o:Obj},h0.get? b=some o->b≠I:=fun{b o} e z=>by rw[z,Pg]at e;cases e
 intro k
 induction k with
 |zero=>
  intro i s hk hi dD PY hS hR;have j1:i=n:=by omega
  subst j1;refine dZ mZ ?_
  rw[fj iV _];show wpAny _ A.in1 (pyNext (.ref I)>>=_) _ _ s;refine aa (W.done s _ _ dD fun h' tk kk=>?_);show wpAny _ A.in1 (ret Value.none) _ _ _;exact ae (hR h' tk (fun b o _ h2 e=>kk b o (by simpa using h2) e) (hS.keep fun o e=>kk S o (by simpa using PX) e))
 |succ k ih=>
  intro i s hk hi dD PY hS hR;have eG:i<n:=by omega
  refine dZ mZ ?_
  rw[fj iV _];show wpAny _ A.in1 (pyNext (.ref I)>>=_) _ _ s;refine aa (W.item i s _ _ eG dD fun v h1 ox hP Lo kk=>?_);have ev:=EH i v hP;subst ev;have MH:∀b o,h0.get? b=some o->h1.get? b=some o:=fun b o e=>kk b o (by simpa using nI e) (PY b o e);have Pw:oD prog w h1 S ((List.range i).map val):=hS.keep fun o e=>kk S o (by simpa using PX) e;have EI:=Ca i eG h1 MH;show wpAny _ A.in1 (holding [.ref (val i).2] (setAdd S (.ref (val i).2))>>=_) _ _ _;refine aa (cn ?_);unfold setAdd;refine cn ?_
  refine aa ((tupleKind (ay prog w)).pyHash (s:={s with heap:=h1,toks:=ox}) (i3 hu) EI ?_);refine TZ (s:={s with heap:=h1,toks:=ox+(tupleKind (ay prog w)).draws (val i).1}) hu Pw (by rw[ah,fW];omega) EI (fun p hp=>?_) fun h2 sb PZ=>?_
  ·obtain⟨j,hj,rfl⟩:=aW.mp hp;have hj:=cC.mp hj;exact⟨Ca j (by omega) h1 MH,ff j i (by omega) eG (by omega)⟩
  have B_:∀b o,b≠S->h1.get? b=some o->h2.get? b=some o:=fun b o hb e=>(sb.2 b hb).trans e;have er:(List.range i).map val++[((val i).1,(val i).2)]=(List.range (i+1)).map val:=by rw[rN,cH];rfl
  rw[er]at PZ;refine ae ⟨eC iV _,ih (i+1) _ (by omega) eG (W.frame _ _ _ Lo fun b hb o e=>B_ b o (fun z=>HC (z▸hb)) e) (fun b o e=>B_ b o (nS e) (MH b o e)) PZ fun h' tk Ul CL=>?_⟩;exact hR h' tk (fun b o wF C_ e=>Ul b o wF C_ (B_ b o wF (kk b o (by simpa using C_) e))) CL
end
end L2
namespace PySem
section
variable {prog:Program}{w:World}{A:Around}{E:Value->Shared->Prop}{s:Shared}
set_option maxHeartbeats 3200000 in
theorem EJ{l:Addr}{items:Array Value}{val:Nat->List L2.Key×Addr}{Q:Value->Shared->Prop}(hu:A.units+6<cLine)(hh:A.handled=none)(hl:s.heap.IsList l items)(hv:∀(i:Nat) (v:Value),items[i]?=some v->v=.ref (val i).2)(hn:items.size<=18)
  (Ca:∀i,i<items.size->∀h':Heap,(∀b o,s.heap.get? b=some o->h'.get? b=some o)->(tupleKind (L2.ay prog w)).is h' (val i).1 (val i).2) (ff:∀i j,i<items.size->j<items.size->i≠j->(val i).1≠(val j).1)
  (h:∀(h':Heap) (tk:Nat),L2.oD prog w h' s.heap.objs.size ((List.range items.size).map val)->(∀b o,b<s.heap.objs.size->s.heap.get? b=some o->h'.get? b=some o)->Q (.ref s.heap.objs.size) {s with heap:=h',toks:=tk}):
  wpAny (model prog w) A (call (.type "set") [.ref l]) Q E s:=by
 obtain⟨c,tl,Um⟩:=cY.mro;have P0:=cY.made;have GV:=cY.sub;refine wpAny_call (codeAny_of_tree ?_);show wpAny _ _ (callAny (.type "set") _) _ _ _;refine ae ⟨Code.quiet_builtin _ (by decide+kernel),dZ F.entry_type_call ?_⟩;rw[Around.under_plain (weight_type_call_type "set" [.ref l] []) rfl];have h1:=cY.notType;have h2:=cY.canCreate;have X7:=F.typeCall_set_1 (.ref l)
 repeat(any_goals (first|assumption|wp_step))
 refine fq (xC (.ref l) (E:=E) (Q₁:=fun obj cj=>obj=.ref s.heap.objs.size/\cj={s with heap:=s.heap.push {cls:=.type "set",dict:=none,data:=.set #[] 0 (.fresh 0 0 (!L2.pf w))}}) ⟨rfl,rfl⟩) fun r cj hr=>?_
 cases r with
 |error e=>exact hr
 |ok fl=>
  cases fl with
  |ret obj=>
   obtain⟨rfl,rfl⟩:=hr;generalize Lp:({cls:=.type "set",dict:=none,data:=.set #[] 0 (.fresh 0 0 (!L2.pf w))}:Obj)=ob;have hS:(s.heap.push ob).get? s.heap.objs.size=some ob:=aU _ (by rw[<-Lp];rfl);have hT:Shared.TypeIs {s with heap:=s.heap.push ob} (.ref s.heap.objs.size) "set":=⟨_,hS,by rw[<-Lp]⟩;have Rx:=cY.init.lookup;have X8:=cY.init.bind (.ref s.heap.objs.size)
   repeat(any_goals (first|assumption|wp_step))
   refine fq (codeAny_call_builtin (R:=wants (fun r lT=>r=.none/\∃h' tk,lT={s with heap:=h',toks:=tk}/\L2.oD prog w h' s.heap.objs.size ((List.range items.size).map val)/\
     (∀b o,b<s.heap.objs.size->s.heap.get? b=some o->h'.get? b=some o)) E) cY.init.plain F.entry_set_init (check_set_init_1 hT ?_)) fun Lq lT sY=>?_
   ·obtain⟨ol,Hc,wC,nl,Hd⟩:=hl;obtain⟨Uo,EK,P4,zC⟩:=ol;simp only at wC Hd;subst wC;subst Hd;have Lr:(s.heap.push ob).get? l=some {cls:=.type "list",dict:=EK,data:=.seq items nl,slots:=zC}:=aC _ Hc;have Up:=F.sub_list_set;have Uq:=F.sub_list_frozenset;have Ur:(Value.type "list"==Value.type "dict")=false:=by decide
    have Cg:(s.heap.push ob).IsList l items:=⟨_,Lr,rfl,nl,rfl⟩;subst Lp;unfold Builtin.«set.__init__» noKeywords Builtin.Frozenset.updateFrom;generalize Us:pyIter=PI
    wp_walk
    subst Us;refine i6 Cg ?_
    refine aa (nK ?_);have P5:l<s.heap.objs.size:=ar Hc;have Ut:A.in1.in1.in1.handled=none:=by simp[hh]
    generalize hsz:(s.heap.push {cls:=.type "set",dict:=none,data:=.set #[] 0 (.fresh 0 0 (!L2.pf w))}).objs.size=I at*;have v_:I=s.heap.objs.size+1:=by rw[<-hsz,gc]
    have Ls:l≠I:=by rw[v_];exact aM (f_ P5)
    have HC:s.heap.objs.size∉[I,l]:=by
     simp only[aN,eM,dB,not_or];exact⟨by rw[v_];exact aM (i5 _),cy P5⟩
    refine L2.CK (h0:=s.heap) (by show A.units+1+1+1<cLine;omega) (Walks.list Ut I l Ls items) HC val hv hn (ka (ak _)) (ka (by rw[v_];exact hZ _)) Ca ff (items.size - 0) 0 _ (by omega) (bP _) ⟨⟨_,by rw[<-hsz];exact aU _ rfl,rfl,rfl⟩,Cg.push _⟩ (fun b o e=>aC _ (aC _ e)) ?Ln ?hR
    case Ln=>
     refine⟨_,#[],0,.fresh 0 0 (!L2.pf w),aC _ hS,⟨rfl,rfl,rfl⟩,rfl,List.Perm.refl _,⟨rfl,.inl rfl,(fun x hx=>by cases hx),rfl,(show 0*5<7*3 by decide),List.Pairwise.nil⟩,?_⟩;show L2.pf w=true\/(!L2.pf w)=true;cases L2.pf w<;>simp
    case hR=>
     intro h' tk hk CL;show wpAny _ _ _ _ _ _;refine ae ?_
     show wpAny _ _ (ret Value.none) _ _ _;refine ae ⟨rfl,h',tk,rfl,CL,fun b o hb e=>?_⟩;exact hk b o (aM hb) (by rw[v_];exact aM (f_ hb)) (aC _ (aC _ e))
   ·cases Lq with
    |error e=>exact sY
    |ok EL=>
     cases EL with
     |ret r=>
      obtain⟨rfl,h',tk,rfl,CL,x9⟩:=sY
      repeat(any_goals (first|assumption|wp_step))
      exact h _ _ CL x9
     |_=>exact sY.elim
  |_=>exact hr.elim
end
end PySem
namespace L2
open PySem PySem.Spec PySem.Calls PyProof.Rows
def p9(w:World)(a:Addr)(vs:List Value):HO:=.ext fun h=>mC w h a vs
theorem oD.toV {prog:Program}{w:World}{h:Heap}{a:Addr}{xs:List (List Key×Addr)}(x:oD prog w h a xs):mC w h a (xs.map fun p=>Value.ref p.2):=by
 obtain⟨o,es,ep,t,ho,hex,hd,hp,tk,hl⟩:=x;refine⟨o,es,ep,t,es.toList,ho,hex,hd,(oB _).symm,?_,trivial,?_,tk.fits,hl,tk.rise⟩
 ·have q:=hp.map (·.2);rw[bC]at q;exact q
 ·have:=tk.La;rcases tk.ms with e|e<;>rw[e]at this<;>(show es.size<4096;omega)
section
variable {X:Cx}
theorem CM(hu:X.A.units+6<cLine)(hc:X.calm=true):gm X (.type "set") (fun xs H Q=>∃(p:Addr) (ts:List (List Key×Addr)),xs=[.ref p]/\iS X.K H p (ts.map fun t=>V.ref t.2)/\(∀t∈ts,H t.2=some (.tup (t.1.map kV)))/\(ts.map (·.1)).Nodup/\ts.length<=18/\∀a,H a=none->Q (.ref a) (upd H a (p9 X.w a (ts.map fun t=>Value.ref t.2)))):=by
 intro pins s σ H xs us Q I r h;obtain⟨p,ts,rfl,hl,hk,nd,hb,q⟩:=h;obtain⟨u,rfl,ru⟩:=vals1 r;cases(show u=Value.ref p from ru);obtain⟨aZ,rv,pl,hz⟩:=I.list hl;have hlen:aZ.length=ts.length:=by have e:=rv.length;rw[ah]at e;exact e.symm
 have hsz:aZ.toArray.size=ts.length:=by rw[bf];exact hlen
 have gi:∀i,i<ts.length->ts.getD i ([],0)=ts[i]! :=fun i hi=>by simp[hi]
 have gd:∀i (hi:i<ts.length),ts.getD i ([],0)=ts[i]:=fun i hi=>by rw[bb,aB hi];rfl
 refine EJ (val:=fun i=>ts.getD i ([],0)) hu (I.ok.hd hc) pl.isList (fun i v hv=>?_) (by rw[hsz];exact hb) (fun i hi=>?_) (fun i j hi hj qH=>?_) fun h' tk hS v9=>?_
 ·have Lu:aZ[i]?=some v:=by simpa using hv
  have hi:i<ts.length:=by rw[<-hlen];exact(b_.mp Lu).1
  obtain⟨u,v5,ru⟩:=rv.get (i:=i) (x:=V.ref ts[i].2) (by rw[aP,aB hi];rfl);rw[Lu]at v5;cases v5;rw[gd i hi];exact ru
 ·rw[hsz]at hi;rw[gd i hi];exact gs (mf I.cp (hk _ (f' hi)))
 ·rw[hsz]at hi hj;rw[gd i hi,gd j hj];intro e;have q:(ts.map (·.1))[i]'(by rw[ah];exact hi)=(ts.map (·.1))[j]'(by rw[ah];exact hj):=by rw[fo,fo,e]
  exact qH ((gJ nd).mp q)
 ·rw[hsz,cK]at hS;have hV:=hS.toV;have hf:H s.heap.objs.size=none:=I.fresh;refine⟨.ref s.heap.objs.size,_,I.laid (o:=p9 X.w s.heap.objs.size (ts.map fun t=>Value.ref t.2)) (fun b o e=>v9 b o (ar e) e) (ak _) ⟨hV,?_,fun h1 h2 x k=>mC.keep x k⟩,rfl,q _ hf⟩;obtain⟨o,_,_,_,_,ho,_⟩:=hV;exact⟨o,ho⟩
theorem qB(hu:X.A.units+6<cLine)(hc:X.calm=true):gm X (.builtin "sorted") (fun xs H Q=>∃(a:Addr) (ts:List (List Int×Addr)),xs=[.ref a]/\H a=some (p9 X.w a (ts.map fun t=>Value.ref t.2))/\(∀t∈ts,t.1.length=2/\H t.2=some (.tup (t.1.map V.int)))/\(ts.map (·.1)).Nodup/\ts.length<64/\
  ∀D,H D=none->Q (.ref D) (upd H D (.lst ((bU (ts.map (·.1))).map fun i=>(ts.map fun t=>V.ref t.2).getD i .cD)))):=by
 intro pins s σ H xs us Q I r h;obtain⟨a,ts,rfl,ha,hk,nd,yF,q⟩:=h;obtain⟨u,rfl,ru⟩:=vals1 r;cases(show u=Value.ref a from ru);obtain⟨hS,_,_⟩:=(show bQ X.prog X.w H s.heap a (.ext fun h=>mC X.w h a (ts.map fun t=>Value.ref t.2))from I.cp a _ ha);refine call_function_entry kind_sorted plain_sorted entry_sorted (args_sorted1 _) ?_
 unfold Builtin.«sorted»;refine aa (m:=checkCount "sorted" 1 1 _) (ae ?_);refine aa (oC (A:=X.A.in1) (I.ok.hd hc) hS (by rw[ah,bH];omega) fun h1 tk d l hp v9 hle=>?_);have oX:(l.map lA).Perm (ts.map fun t=>Value.ref t.2):=hp;obtain⟨mI,e',Ht⟩:=perm_back (f:=fun v:Addr=>Value.ref v) (fun v=>match v with|.ref x=>x|_=>0) (fun _=>rfl) (l:=ts.map (·.2)) (es:=l.map lA) (by rw[bC];exact oX);have X9:∀t∈ts,∀t'∈ts,t.2=t'.2->t=t':=fun t ht t' Je e=>by
  have h1:=(hk t ht).2;have h2:=(hk t' Je).2;rw[e,h2]at h1;have h3:t'.1.map V.int=t.1.map V.int:=by have z:=Option.some.inj h1;injection z
  have h4:t'.1=t.1:=by
   have inj:∀(x y:List Int),x.map V.int=y.map V.int->x=y:=by
    intro x
    induction x with
    |nil=>intro y e;cases y with|nil=>rfl|cons _ _=>cases e
    |cons a x ih=>intro y e;cases y with|nil=>cases e|cons b y=>injection e with e1 e2;injection e1 with e1;rw[e1,ih y e2]
   exact inj _ _ h3
  exact kB h4.symm e
 have ex:∃tl:List (List Int×Addr),tl.map (·.2)=mI/\tl.Perm ts:=by
  have gen:∀(ys:List Addr) (zs:List (List Int×Addr)),ys.Perm (zs.map (·.2))->∃tl:List (List Int×Addr),tl.map (·.2)=ys/\tl.Perm zs:=by
   intro ys
   induction ys with
   |nil=>intro zs h;have:=h.length_eq;rw[ah]at this;cases zs with|nil=>exact⟨[],rfl,.refl _⟩|cons _ _=>cases this
   |cons y ys ih=>
    intro zs h;obtain⟨z,hz,rfl⟩:=aW.mp (h.mem_iff.mp (aS ..));obtain⟨i,hi,ei⟩:=List.getElem_of_mem hz;have pe:=il zs i hi;have h2:(z.2::ys).Perm (z.2::(zs.eraseIdx i).map (·.2)):=by
     refine h.trans ?_
     have:=(pe.map (·.2)).symm;rw[aA,ei]at this;exact this
    obtain⟨tl,e1,e2⟩:=ih _ (List.Perm.cons_inv h2);refine⟨z::tl,by rw[aA,e1],?_⟩;rw[ei]at pe;exact(List.Perm.cons z e2).trans pe
  exact gen mI ts Ht
 obtain⟨tl,et,Bc⟩:=ex;have oF:l.map lA=(tl.map (·.2)).map Value.ref:=by rw[e',et]
 have zD:(l.map lA).length=tl.length:=by rw[oF,ah,ah]
 have P6:(tl.map (·.1)).Nodup:=(mY (Bc.map _)).mpr nd;have EM:tl.length<64:=by rw[Bc.length_eq];exact yF
 refine aa (kz ?_ (by rw[zD,bH];omega));have C7:(h1.push (seqObj "list" (l.map lA).toArray 0)).get? h1.objs.size=some (seqObj "list" (l.map lA).toArray 0):=aU _ rfl;have Hn:Vals (tl.map fun t=>V.ref t.2) (l.map lA):=by
  rw[oF]
  clear oF zD P6 EM et Bc
  induction tl with
  |nil=>exact .nil
  |cons t tl ih=>exact .cons rfl ih
 refine aa (cn (dN slot_list_sort ⟨_,C7,rfl⟩ entry_list_sort (zA (Q:=Q) (tk:=tk) (d:=d) (by omega) I v9 Hn (ks:=tl.map (·.1)) (by rw[zD,ah]) (fun i v k e1 e2=>?_) P6 (by rw[ah];exact EM) (fun k X_ k' B_=>?_) (fun D hD=>?_) fun s' he=>⟨_,rfl,ae ⟨_,rfl,he⟩⟩) (args_list_sort _)))
 ·rw[oF,aP,aP]at e1;rw[aP]at e2;cases eq:tl[i]? with
  |none=>rw[eq]at e2;cases e2
  |some t=>
   rw[eq]at e1 e2;cases e1;cases e2;have hm:t∈ts:=Bc.mem_iff.mp (bw eq);obtain⟨h2,h3⟩:=hk t hm;obtain⟨uk,ta⟩:=t
   match uk,h2,h3 with
   |[x,y],_,h3=>
    obtain⟨aZ,zc,⟨o,g1,g2,n,g3⟩,_⟩:=I.tuple (.inl (.inl h3));obtain⟨u1,u2,rfl,⟨t1,rfl⟩,⟨t2,rfl⟩⟩:=vals2 zc;exact⟨ta,o,t1,t2,n,rfl,g1,g2,g3⟩
 ·obtain⟨t,ht,rfl⟩:=aW.mp X_;obtain⟨t',Je,rfl⟩:=aW.mp B_;rw[(hk t (Bc.mem_iff.mp ht)).1,(hk t' (Bc.mem_iff.mp Je)).1]
 ·
  have eqs:((bU (tl.map (·.1))).map fun i=>(tl.map fun t=>V.ref t.2).getD i .cD)=(bU (ts.map (·.1))).map fun i=>(ts.map fun t=>V.ref t.2).getD i .cD:=by
   have key:∀zs:List (List Int×Addr),((bU (zs.map (·.1))).map fun i=>(zs.map fun t=>V.ref t.2).getD i .cD)=((bU (zs.map (·.1))).map fun i=>zs.getD i ([],0)).map fun t=>V.ref t.2:=fun zs=>by
    rw[bC];refine fT fun i hi=>?_
    have qL:=cF hi;rw[ah]at qL;show(zs.map fun t=>V.ref t.2).getD i .cD=V.ref (zs.getD i ([],0)).2;rw[bb,bb,aP,aB qL];rfl
   rw[key,key];congr 1;have pr:∀zs:List (List Int×Addr),((bU (zs.map (·.1))).map fun i=>zs.getD i ([],0)).Perm zs:=fun zs=>by
    have q:=(cS (zs.map (·.1))).map fun i=>zs.getD i ([],0);rw[ah,cK]at q;exact q
   have pw:∀zs:List (List Int×Addr),((bU (zs.map (·.1))).map fun i=>zs.getD i ([],0)).Pairwise fun a b=>lX a.1 b.1=true:=fun zs=>by
    rw[gX];refine(iG (zs.map (·.1))).imp_of_mem fun{i j} hi hj e=>?_
    have qL:=cF hi;have uo:=cF hj;rw[ah]at qL uo;rw[bb,bb,aP,aP,aB qL,aB uo]at e;rw[bb,bb,aB qL,aB uo];exact e
   refine jv (le:=fun a b=>lX a.1 b.1=true) (fun a b ha hb h1 h2=>?_) (pw tl) (pw ts) ((pr tl).trans (Bc.trans (pr ts).symm));have dQ:a∈ts:=Bc.mem_iff.mp ((pr tl).mem_iff.mp ha);have lK:b∈ts:=(pr ts).mem_iff.mp hb;have e:=gw h1 h2;obtain⟨i,hi⟩:=dM dQ;obtain⟨j,hj⟩:=dM lK;obtain⟨PR,Jf⟩:=b_.mp hi;obtain⟨PU,Jg⟩:=b_.mp hj;have q:(ts.map (·.1))[i]'(by rw[ah];exact PR)=(ts.map (·.1))[j]'(by rw[ah];exact PU):=by
    rw[fo,fo,Jf,Jg,e]
   have z:=(gJ nd).mp q;subst z;rw[<-Jf,<-Jg]
  rw[eqs];exact q D hD
end
end L2
namespace L2
open PySem PySem.Spec PySem.Calls PyProof.Rows
def TL(h:Heap)(v:Value)(k:List Int):Prop:=∃ad o n x y a b,v=.ref ad/\h.get? ad=some o/\o.cls=.type "tuple"/\o.data=.seq #[x,y] n/\k=[a,b]/\wI h x a b
theorem TL.keep {h h':Heap}{v:Value}{ky:List Int}(k:∀b o xs n,o.cls=Value.type "tuple"->o.data=.seq xs n->h.get? b=some o->h'.get? b=some o):TL h v ky->TL h' v ky
 |⟨ad,o,n,x,y,a,b,e,h1,h2,h3,e2,h4⟩=>⟨ad,o,n,x,y,a,b,e,k _ _ _ _ h2 h3 h1,h2,h3,e2,wI.keep k h4⟩
section
variable {prog:Program}{w:World}{A:Around}{E:Value->Shared->Prop}{s:Shared}
theorem P7{v v':Value}{k k':List Int}{Q:Bool->Shared->Prop}(hu:A.units<cLine)(hx:TL s.heap v k)(hy:TL s.heap v' k')(ff:k≠k')(h:Q (decide (k<k')) s):wpAny (model prog w) A (keyLt' (tuples' false) v v') Q E s:=by
 obtain⟨ad,o,n,x,x2,a,b,rfl,h1,h2,h3,rfl,PN⟩:=hx;obtain⟨VU,o',n',x',Y0,a',b',rfl,Ct,FN,wG,rfl,PO⟩:=hy;obtain⟨b1,rfl,k1⟩:=wI.key (prog:=prog) (w:=w) PN;obtain⟨b2,rfl,k2⟩:=wI.key (prog:=prog) (w:=w) PO;refine rR h1 h3 Ct wG (kg ((tupleKind (ay prog w)).eqBool hu k1 k2 ?_));have hk:([.inl a,.inl b]:List Key)≠[.inl a',.inl b']:=fun e=>ff (by injection e with e1 e2;injection e2 with e2 _;injection e1 with e1;injection e2 with e2;rw[e1,e2]);rw[bg hk];obtain⟨_,ob,tb,ub,nb,e,g1,g2,g3⟩:=PN;cases e;obtain⟨_,T9,T_,T',Ua,e,Ub,Uc,Ud⟩:=PO;cases e;refine ko (rM _ _ (HT.sf ⟨ob,g1,g2,nb,g3⟩ ⟨T9,Ub,Uc,Ua,Ud⟩ (.cons a tb (.cons b ub .nil)) (.cons a' T_ (.cons b' T' .nil)) hu ?_));show Q (HT.lexLt [a,b] [a',b']) s;have e:HT.lexLt [a,b] [a',b']=decide ([a,b]<[a',b']):=by
  rw[jM,jM,zx];unfold HT.lexLt;by_cases q:a=a'
  ·subst q;rw[bB,bg (nE a)];have Ny:b≠b':=fun e=>ff (by rw[e]);simp[HT.lexLt,Ny]
  ·simp[q,HT.lexLt]
 rw[e];exact h
theorem sZ{M:Model}{h:Heap}:∀{vs:List Value} {ks:List (List Int)},vs.length=ks.length->(∀(i:Nat) (v:Value) (k:List Int),vs[i]?=some v->ks[i]?=some k->TL h v k)->∃fs:List Value,PySem.W.KatTups h vs fs/\fs.length=ks.length/\∀v∈fs,PySem.W.Looks M h (typeOf v) (.type "tuple")
 |[],[],_,_=>⟨[],.nil,rfl,fun v m=>(nomatch m)⟩
 |[],_::_,e,_=>by cases e
 |_::_,[],e,_=>by cases e
 |v::vs,k::ks,e,kk=>by
  obtain⟨ad,o,n,x,y,a,b,rfl,h1,h2,h3,_,c,oc,_,_,_,rfl,g1,g2,_⟩:=kk 0 v k rfl rfl;obtain⟨fs,q1,q2,q3⟩:=sZ (M:=M) (vs:=vs) (ks:=ks) (by simpa using e) fun i b y e1 e2=>kk (i+1) b y (by simpa using e1) (by simpa using e2);refine⟨.ref c::fs,.cons h1 h2 h3 rfl q1,by rw[br,br,q2],fun v m=>?_⟩;rcases aN.mp m with rfl|m
  ·rw[<-g2];exact(PySem.W.Looks.ld g1).andThen .now
  ·exact q3 v m
theorem CN{L D:Addr}{m:Str->Option Value}{vs:List Value}{ks:List (List Int)}{n0:Nat}{P:PySem.Fin->Shared->Prop}(hu:A.units<cLine)(uG:s.heap.Ns L m)(Hw:D≠L)(ho:s.heap.get? D=some (seqObj "list" vs.toArray n0))(hl:vs.length=ks.length)
  (ht:∀(i:Nat) (v:Value) (k:List Int),vs[i]?=some v->ks[i]?=some k->TL s.heap v k) (zy:ks.Nodup) (yF:ks.length<64)
  (h:∀h' c,(∀b o,b≠L->b≠D->s.heap.get? b=some o->h'.get? b=some o)->h'.Ns L m->h'.get? D=some (seqObj "list" ((bU ks).map fun i=>vs.getD i Value.none).toArray c)->P (.done (.ret .none)) {s with heap:=h'}):
  wpAny (model prog w) A (Builtin.«list.sort» ⟨[.ref D],[]⟩) P E s:=by
 by_cases h2:ks.length<2
 ·refine jU ho (by rw[hl];exact h2) fun h' c kp hD=>?_
  refine h h' c (fun b o _ n e=>kp b o n e) ?_ (by rw[jL h2,<-hl,cK];exact hD)
  obtain⟨o,es,vw,wR,r'⟩:=uG;exact⟨o,es,vw,kp _ _ Hw.symm wR,r'⟩
 ·have h2:2<=ks.length:=by omega
  obtain⟨p,er,hp,hs⟩:=sX (v8 zy) h2;have ep:=pF zy hp hs;have F:Fr pk L s.heap m:=⟨uG,(fun b o e=>by rw[eZ]at e;cases e),bP _⟩;have N:News pk L s.heap (qM s.heap L D):=fun t ht=>by
   obtain⟨n1,n2,e⟩:=cI.mp (show(t.1,t.2)∈_ from ht);exact⟨e,n1,eZ _⟩
  refine PySem.W.kat_list_sort F N ho Hw (eZ _) (fun t ht=>(cI.mp (show(t.1,t.2)∈_ from ht)).2.1) (by rw[hl];exact h2) (by rw[hl];exact yF) fun e1 h' F' N'=>?_
  have kt:∀b o xs n,o.cls=Value.type "tuple"->o.data=.seq xs n->s.heap.get? b=some o->h'.get? b=some o:=fun b o xs n hc hd e=>by
   have nL:b≠L:=fun z=>by
    obtain⟨o',es,vw,wR,hx,_⟩:=uG;rw[z,wR]at e;cases e;rw[hx]at hd;cases hd
   have nD:b≠D:=fun z=>by
    rw[z,ho]at e;cases e;exact absurd (show Value.type "list"=Value.type "tuple"from hc) (by decide)
   exact(N' (b,o) (aO _ (cI.mpr ⟨nL,nD,e⟩))).1
  have tp:∀(i:Nat) (v:Value) (k:List Int),vs[i]?=some v->ks[i]?=some k->TL h' v k:=fun i v k e1 e2=>(ht i v k e1 e2).keep kt
  obtain⟨fs,aD,fl,X'⟩:=sZ (M:=model prog w) hl tp;refine rD (T:=.type "tuple") aD (by rw[fl];omega) X' (by decide) ?_
  rw[show(Value.type "tuple" !=Value.type "tuple")=false by decide,hl];refine lP (fun i j C hi hj qH hC=>?_) _ er ?_
  ·have vi:vs[i]?=some (vs[i]'(by omega)):=aB (by omega)
   have vj:vs[j]?=some (vs[j]'(by omega)):=aB (by omega)
   have ki:ks[i]?=some ks[i]:=aB hi
   have kj:ks[j]?=some ks[j]:=aB hj
   show wpAny _ _ (keyLt' _ (vs.getD i Value.none) (vs.getD j Value.none)) _ _ _;rw[bb,bb,vi,vj];refine P7 hu (tp i _ _ vi ki) (tp j _ _ vj kj) (fun e=>qH ((gJ zy).mp e)) ?_
   unfold PM at hC;rw[bb,bb,ki,kj]at hC;exact hC
  ·refine PySem.W.KasFin.intro F' N' (.head fun t ht=>(cI.mp (show(t.1,t.2)∈_ from ht)).2.1) fun Ue c Ug PQ=>?_
   refine h Ue c (fun b o n1 n2 e=>(PQ (b,o) (aO _ (cI.mpr ⟨n1,n2,e⟩))).1) Ug.ns ?_
   rw[<-ep];exact(PQ _ (aS ..)).1
end
section
variable {X:Cx}{pins:List (Addr×Obj)}{σ:St}{H:Hp}{s:Shared}{B:bZ}
theorem yh{Q:VK}(hu:X.A.units+4<cLine)(I:Inv X pins σ H s){h1:Heap}{tk:Nat}{d:Drawn}(v9:∀b o,s.heap.get? b=some o->h1.get? b=some o){vs:List V}{us:List Value}{ks:List (List Int)}(rv:Vals vs us)(hl:us.length=ks.length)
  (ht:∀(i:Nat) (v:Value) (k:List Int),us[i]?=some v->ks[i]?=some k->TL s.heap v k) (zy:ks.Nodup) (yF:ks.length<64)
  (q:∀D,H D=none->Q (.ref D) (upd H D (.lst ((bU ks).map fun i=>vs.getD i .cD)))) {P:PySem.Fin->Shared->Prop} {E:Value->Shared->Prop}
  (hP:∀s',EP X pins σ Q (.ref h1.objs.size) s'->P (.done (.ret .none)) s'):
  wpAny (model X.prog X.w) X.A.in1.in1 (Builtin.«list.sort» ⟨[.ref h1.objs.size],[]⟩) P E {s with heap:=h1.push (seqObj "list" us.toArray 0),toks:=tk,drawn:=d}:=by
 obtain⟨m,uG,_⟩:=id I.loc;have C7:(h1.push (seqObj "list" us.toArray 0)).get? h1.objs.size=some (seqObj "list" us.toArray 0):=aU _ rfl;have J:Inv X pins σ H {s with heap:=h1,toks:=tk}:=I.kept v9;have zB:H h1.objs.size=none:=J.fresh;have Uh:jy X pins H h1.objs.size:=J.ua (ak _) zB;have Ui:X.fb.heap.objs.size<=h1.objs.size:=J.sz;have Hw:h1.objs.size≠X.env.locals:=cy J.lt;have Lm:(h1.push (seqObj "list" us.toArray 0)).Ns X.env.locals m:=by
  obtain⟨o,es,vw,ho,r'⟩:=uG;exact⟨o,es,vw,aC _ (v9 _ _ ho),r'⟩
 refine CN (s:={s with heap:=h1.push (seqObj "list" us.toArray 0),toks:=tk,drawn:=d}) (ks:=ks) (by show X.A.units+1+1<cLine;omega) Lm Hw C7 hl (fun i v k e1 e2=>(ht i v k e1 e2).keep fun b o _ _ _ _ e=>aC _ (v9 b o e)) zy yF fun h' c kp Ig hD=>hP _ ?_
 have Uj:∀b o,s.heap.get? b=some o->b<h1.objs.size:=fun b o e=>ar (v9 b o e);have I1:Inv X pins σ H {s with heap:=h',toks:=tk}:=I.xF uG Ig fun b o n e=>kp b o n (aM (Uj b o e)) (aC _ (v9 b o e));have X6:vs.length=us.length:=rv.length;have I2:=I1.adopt (o:=.lst ((bU ks).map fun i=>vs.getD i .cD)) Ui ⟨zB,Uh.2⟩ ⟨by rw[ah,(cS ks).length_eq,fW,bH];omega,_,c,qQ fun i hi=>?_,hD⟩
 ·exact⟨.ref h1.objs.size,_,I2.AB d,rfl,q _ zB⟩
 ·have NN:=cF hi;have PV:i<vs.length:=by omega
  obtain⟨u,eu,ru⟩:=rv.get (aB PV);rw[bb,bb,eu,aB PV];exact ru
end
end L2
namespace L2
open PySem PySem.Spec PySem.Calls PyProof.Rows
def pG(xs:List (Tr×Addr)):List (Tr×Addr):=xs.foldl lW []
theorem EN(xs:List (Tr×Addr))(p:Tr×Addr):pG (xs++[p])=lW (pG xs) p:=by
 unfold pG;rw[ro];rfl
theorem wa:∀{xs:List (Tr×Addr)} {p:Tr×Addr},p∈pG xs->p∈xs:=by
 have gen:∀(xs acc:List (Tr×Addr)) (p:Tr×Addr),p∈xs.foldl lW acc->p∈acc\/p∈xs:=by
  intro xs
  induction xs with
  |nil=>intro acc p m;exact .inl m
  |cons x xs ih=>
   intro acc p m;rcases ih _ p m with m|m
   ·unfold lW at m;split at m
    ·exact .inl m
    ·rcases bD.mp m with m|m
     ·exact .inl m
     ·rw[cB.mp m];exact .inr (aS ..)
   ·exact .inr (aO _ m)
 intro xs p m;rcases gen xs [] p m with m|m
 ·cases m
 ·exact m
section
variable {prog:Program}{w:World}{A:Around}{R:Result->Shared->Prop}{I S:Addr}{fp:List Addr}{n:Nat}{P:Nat->Value->Prop}{St:Nat->Heap->Prop}
theorem CO(hu:A.units+4<cLine)(W:Walks prog w A.in1 I fp [I] n P St)(HC:S∉fp)(val:Nat->Tr×Addr)(EH:∀i v,P i v->v=.ref (val i).2)(hn:∀i,i<=n->(pG ((List.range i).map val)).length<=18){h0:Heap}(Ln:h0.get? S=none)(Pg:h0.get? I=none)
  (Ca:∀i,i<n->NV h0 3 (val i).1 (.ref (val i).2)):
  ∀(k i:Nat) (s:Shared),n - i=k->i<=n->St i s.heap->(∀b o,h0.get? b=some o->s.heap.get? b=some o)->um w s.heap S (pG ((List.range i).map val))->
   (∀h' tk,(∀b o,b≠S->b≠I->s.heap.get? b=some o->h'.get? b=some o)->um w h' S (pG ((List.range n).map val))->R (.ok (.ret .none)) {s with heap:=h',toks:=tk})->
   codeAny (model prog w) A (.builtin "set.update.loop" ⟨[.ref S,.ref I],[]⟩) R s:=by
 have Uk:I∈fp:=W.sub I (by simp);have PX:S≠I:=fun e=>HC (e▸Uk);have nS:∀{b:Addr} {o:Obj},h0.get? b=some o->b≠S:=fun{b o} e z=>by rw[z,Ln]at e;cases e
 have nI:∀{b:Addr} {o:Obj},h0.get? b=some o->b≠I:=fun{b o} e z=>by rw[z,Pg]at e;cases e
 intro k
 induction k with
 |zero=>
  intro i s hk hi dD PY hS hR;have j1:i=n:=by omega
  subst j1;refine dZ mZ ?_
  rw[fj iV _];show wpAny _ A.in1 (pyNext (.ref I)>>=_) _ _ s;refine aa (W.done s _ _ dD fun h' tk kk=>?_);show wpAny _ A.in1 (ret Value.none) _ _ _;exact ae (hR h' tk (fun b o _ h2 e=>kk b o (by simpa using h2) e) (hS.keep fun o e=>kk S o (by simpa using PX) e))
 |succ k ih=>
  intro i s hk hi dD PY hS hR;have eG:i<n:=by omega
  refine dZ mZ ?_
  rw[fj iV _];show wpAny _ A.in1 (pyNext (.ref I)>>=_) _ _ s;refine aa (W.item i s _ _ eG dD fun v h1 ox hP Lo kk=>?_);have ev:=EH i v hP;subst ev;have MH:∀b o,h0.get? b=some o->h1.get? b=some o:=fun b o e=>kk b o (by simpa using nI e) (PY b o e);have Pw:um w h1 S (pG ((List.range i).map val)):=hS.keep fun o e=>kk S o (by simpa using PX) e;have EI:∀j,j<n->NV h1 3 (val j).1 (.ref (val j).2):=fun j hj=>(Ca j hj).keep fun b o _ _ _ _ e=>MH b o e;have er:pG ((List.range (i+1)).map val)=lW (pG ((List.range i).map val)) (val i):=by rw[rN,cH];exact EN _ _
  show wpAny _ A.in1 (holding [.ref (val i).2] (setAdd S (.ref (val i).2))>>=_) _ _ _;refine aa (cn ?_);unfold setAdd;refine cn ?_
  refine aa (A7 (d:=3) (s:={s with heap:=h1,toks:=ox}) (by show A.units+1+3<cLine;omega) (EI i eG) fun Ja=>?_);refine PK (s:={s with heap:=h1,toks:=Ja}) (by show A.units+1+3<cLine;omega) Pw (by rw[show((val i).1,(val i).2)=val i from rfl,<-er];exact hn (i+1) eG) (EI i eG) (fun p hp=>?_) fun h2 r sb PZ=>?_
  ·obtain⟨j,hj,rfl⟩:=aW.mp (wa hp);exact EI j (kr (cC.mp hj) eG)
  have B_:∀b o,b≠S->h1.get? b=some o->h2.get? b=some o:=fun b o hb e=>(sb.2 b hb).trans e;rw[show((val i).1,(val i).2)=val i from rfl,<-er]at PZ;refine ae ⟨eC iV _,ih (i+1) _ (by omega) eG (W.frame _ _ _ Lo fun b hb o e=>B_ b o (fun z=>HC (z▸hb)) e) (fun b o e=>B_ b o (nS e) (MH b o e)) PZ fun h' tk Ul CL=>?_⟩;exact hR h' tk (fun b o wF C_ e=>Ul b o wF C_ (B_ b o wF (kk b o (by simpa using C_) e))) CL
end
end L2
namespace PySem
section
variable {prog:Program}{w:World}{A:Around}{E:Value->Shared->Prop}{s:Shared}
set_option maxHeartbeats 3200000 in
theorem EO{l:Addr}{items:Array Value}{val:Nat->L2.Tr×Addr}{Q:Value->Shared->Prop}(hu:A.units+8<cLine)(hh:A.handled=none)(hl:s.heap.IsTuple l items)(hv:∀(i:Nat) (v:Value),items[i]?=some v->v=.ref (val i).2)(hn:∀i,i<=items.size->(L2.pG ((List.range i).map val)).length<=18)
  (Ca:∀i,i<items.size->L2.NV s.heap 3 (val i).1 (.ref (val i).2))
  (h:∀(h':Heap) (tk:Nat),L2.um w h' s.heap.objs.size (L2.pG ((List.range items.size).map val))->(∀b o,b<s.heap.objs.size->s.heap.get? b=some o->h'.get? b=some o)->Q (.ref s.heap.objs.size) {s with heap:=h',toks:=tk}):
  wpAny (model prog w) A (call (.type "set") [.ref l]) Q E s:=by
 obtain⟨c,tl,Um⟩:=cY.mro;have P0:=cY.made;have GV:=cY.sub;refine wpAny_call (codeAny_of_tree ?_);show wpAny _ _ (callAny (.type "set") _) _ _ _;refine ae ⟨Code.quiet_builtin _ (by decide+kernel),dZ F.entry_type_call ?_⟩;rw[Around.under_plain (weight_type_call_type "set" [.ref l] []) rfl];have h1:=cY.notType;have h2:=cY.canCreate;have X7:=F.typeCall_set_1 (.ref l)
 repeat(any_goals (first|assumption|wp_step))
 refine fq (xC (.ref l) (E:=E) (Q₁:=fun obj cj=>obj=.ref s.heap.objs.size/\cj={s with heap:=s.heap.push {cls:=.type "set",dict:=none,data:=.set #[] 0 (.fresh 0 0 (!L2.pf w))}}) ⟨rfl,rfl⟩) fun r cj hr=>?_
 cases r with
 |error e=>exact hr
 |ok fl=>
  cases fl with
  |ret obj=>
   obtain⟨rfl,rfl⟩:=hr;generalize Lp:({cls:=.type "set",dict:=none,data:=.set #[] 0 (.fresh 0 0 (!L2.pf w))}:Obj)=ob;have hS:(s.heap.push ob).get? s.heap.objs.size=some ob:=aU _ (by rw[<-Lp];rfl);have hT:Shared.TypeIs {s with heap:=s.heap.push ob} (.ref s.heap.objs.size) "set":=⟨_,hS,by rw[<-Lp]⟩;have Rx:=cY.init.lookup;have X8:=cY.init.bind (.ref s.heap.objs.size)
   repeat(any_goals (first|assumption|wp_step))
   refine fq (codeAny_call_builtin (R:=wants (fun r lT=>r=.none/\∃h' tk,lT={s with heap:=h',toks:=tk}/\L2.um w h' s.heap.objs.size (L2.pG ((List.range items.size).map val))/\
     (∀b o,b<s.heap.objs.size->s.heap.get? b=some o->h'.get? b=some o)) E) cY.init.plain F.entry_set_init (check_set_init_1 hT ?_)) fun Lq lT sY=>?_
   ·obtain⟨ol,Hc,wC,nl,Hd⟩:=hl;obtain⟨Uo,EK,P4,zC⟩:=ol;simp only at wC Hd;subst wC;subst Hd;have Lr:(s.heap.push ob).get? l=some {cls:=.type "tuple",dict:=EK,data:=.seq items nl,slots:=zC}:=aC _ Hc;have Up:=F.sub_tuple_set;have Uq:=F.sub_tuple_frozenset;have Ur:(Value.type "tuple"==Value.type "dict")=false:=by decide
    have Cg:(s.heap.push ob).IsTuple l items:=⟨_,Lr,rfl,nl,rfl⟩;subst Lp;unfold Builtin.«set.__init__» noKeywords Builtin.Frozenset.updateFrom;generalize Us:pyIter=PI
    wp_walk
    subst Us;refine i4 Cg ?_
    refine aa (nK ?_);have P5:l<s.heap.objs.size:=ar Hc;have Ut:A.in1.in1.in1.handled=none:=by simp[hh]
    generalize hsz:(s.heap.push {cls:=.type "set",dict:=none,data:=.set #[] 0 (.fresh 0 0 (!L2.pf w))}).objs.size=I at*;have v_:I=s.heap.objs.size+1:=by rw[<-hsz,gc]
    have Ls:l≠I:=by rw[v_];exact aM (f_ P5)
    have HC:s.heap.objs.size∉[I,l]:=by
     simp only[aN,eM,dB,not_or];exact⟨by rw[v_];exact aM (i5 _),cy P5⟩
    refine L2.CO (h0:=s.heap) (by show A.units+1+1+4<cLine;omega) (Walks.tuple Ut I l Ls items) HC val hv hn (ka (ak _)) (ka (by rw[v_];exact hZ _)) Ca (items.size - 0) 0 _ (by omega) (bP _) ⟨⟨_,by rw[<-hsz];exact aU _ rfl,rfl,rfl⟩,Cg.push _⟩ (fun b o e=>aC _ (aC _ e)) ?Ln ?hR
    case Ln=>
     refine⟨_,#[],0,.fresh 0 0 (!L2.pf w),aC _ hS,⟨rfl,rfl,rfl⟩,rfl,List.Perm.refl _,⟨rfl,.inl rfl,(fun x hx=>by cases hx),rfl,(show 0*5<7*3 by decide),List.Pairwise.nil⟩,?_,(fun p hp=>by cases hp)⟩;show L2.pf w=true\/(!L2.pf w)=true;cases L2.pf w<;>simp
    case hR=>
     intro h' tk hk CL;show wpAny _ _ _ _ _ _;refine ae ?_
     show wpAny _ _ (ret Value.none) _ _ _;refine ae ⟨rfl,h',tk,rfl,CL,fun b o hb e=>?_⟩;exact hk b o (aM hb) (by rw[v_];exact aM (f_ hb)) (aC _ (aC _ e))
   ·cases Lq with
    |error e=>exact sY
    |ok EL=>
     cases EL with
     |ret r=>
      obtain⟨rfl,h',tk,rfl,CL,x9⟩:=sY
      repeat(any_goals (first|assumption|wp_step))
      exact h _ _ CL x9
     |_=>exact sY.elim
  |_=>exact hr.elim
end
end PySem
namespace L2
open PySem PySem.Spec PySem.Calls PyProof.Rows
def d_:Tr->Rs Tr
 |.lst ts=>if yD ts=true/\ts.length<=18/\(ts.all fun t=>(fK t).length==2)=true then .ok (.lst (fB ts))else .bad
 |_=>.bad
theorem yi{K:PySem.W.Frag}{B:bZ}{H:Hp}:∀{vs:List V} {ts:List Tr},aK K (aT B H) vs ts->(∀t∈ts,Hx t=some (fK t)/\(fK t).length=2)->∃tl:List (List Int×Addr),vs=(tl.map fun t=>V.ref t.2)/\tl.map (·.1)=ts.map fK/\∀t∈tl,t.1.length=2/\H t.2=some (.tup (t.1.map V.int))
 |[],_,r,_=>by cases r;exact⟨[],rfl,rfl,fun t m=>nomatch m⟩
 |v::vs,t::ts,r,hk=>by
  cases r with
  |cons h r=>
   obtain⟨tl,e1,e2,e3⟩:=yi r fun t m=>hk t (aO _ m);obtain⟨q1,q2⟩:=hk t (aS ..);unfold Hx at q1;split at q1
   ·obtain⟨ad,us,rfl,hq,rr⟩:=h.iN;obtain⟨x1,x2,rfl,r1,r2⟩:=sr rr;cases r1.int_inv;cases r2.int_inv;refine⟨(fK _,ad)::tl,by rw[e1];rfl,by rw[aA,aA,e2],fun t m=>?_⟩;rcases aN.mp m with rfl|m
    ·exact⟨q2,aE _ _ hq⟩
    ·exact e3 t m
   ·rw[<-Option.some.inj q1]at q2;cases q2
   ·cases q1
section
variable {X:Cx}{l:Expr}{p1 p2 ER ES:Pos}{F:az->Rs Tr}
theorem HD(hu:X.A.units+6<cLine)(hs:X.mg "sorted"=none)(hm:X.mg "set"=none)(hl:PE X l (tP X F))(hc:X.calm=true:=by rfl) (hg:Gl X "sorted":=by rfl) (EF:Gl X "set":=by rfl) (dD:bt [l]=true:=by rfl):
  PE X (.Call (.Name "sorted" p1) [.Call (.Name "set" p2) [l] [] ES] [] ER) (tP X fun ρ=>(F ρ).bind d_):=
 (r9 (qB hu hc) hg hs rfl (iC (gQ (CM hu hc) EF hm rfl (iC hl kG (ba _ _ (aI dD).1)) (by decide) (by decide) (ba _ _ (aI dD).1) (cE (aI dD).2)) kG (ba _ _ rfl)) (by decide) (by decide) (ba _ _ rfl) (cE (es:=[]) rfl)).weak fun σ H Q ⟨B,ρ,hb,r,q⟩=>⟨B,ρ,hb,r,q.bind.mono fun t qt v H1 s1 rv=>by
  have key:∃ts,t=.lst ts/\yD ts=true/\ts.length<=18/\(ts.all fun t=>(fK t).length==2)=true/\∀v H',ax H H'->Rep X.K (aT B H') v (.lst (fB ts))->Q v H':=by
   unfold d_ at qt;split at qt
   ·obtain⟨⟨h0,h1,h2⟩,z⟩:=gp qt;exact⟨_,rfl,h0,h1,h2,z⟩
   ·exact qt.elim
  obtain⟨ts,rfl,ok,Uu,h2,k⟩:=key;obtain⟨a,vs,rfl,h,rr⟩:=rv.lst_inv;obtain⟨hk,yF,nd,_⟩:=zz ok;have Ya:=rr;obtain⟨tl,ev,ek,et⟩:=yi rr fun t m=>⟨hk t m,eq_of_beq (bG.mp h2 t m)⟩;have VV:tl.length=ts.length:=by have z:=bJ List.length ek;rw[ah,ah]at z;exact z
  refine⟨a,tl.map fun t=>(t.1.map Sum.inl,t.2),rfl,?_,fun t m=>?_,?_,by rw[ah,VV];exact Uu,fun sa EE=>⟨sa,tl,rfl,?_,fun t m=>?_,by rw[ek];exact nd,by rw[VV];exact yF,fun D hD=>?_⟩⟩
  ·rw[bC];have:(tl.map fun t=>V.ref t.2)=vs:=ev.symm;refine .of (ie (B:=B) ?_);rw[h,<-this];rfl
  ·obtain⟨t',m',rfl⟩:=aW.mp m;have e:=(et t' m').2;rw[bC];exact e
  ·rw[bC];have:(tl.map ((fun x:List Key×Addr=>x.1)∘fun t:List Int×Addr=>(t.1.map Sum.inl,t.2)))=(tl.map (·.1)).map (List.map Sum.inl):=by rw[bC];rfl
   rw[this,ek];refine List.Pairwise.map _ (fun x y ff e=>ff ?_) nd;have inj:∀(x y:List Int),(x.map Sum.inl:List Key)=y.map Sum.inl->x=y:=by
    intro x
    induction x with
    |nil=>intro y e;cases y with|nil=>rfl|cons _ _=>cases e
    |cons a x ih=>intro y e;cases y with|nil=>cases e|cons b y=>injection e with e1 e2;injection e1 with e1;rw[e1,ih y e2]
   exact inj _ _ e
  ·rw[aG,bC];rfl
  ·exact⟨(et t m).1,ax.upd EE _ _ (et t m).2⟩
  ·have s2:ax H1 (upd H1 sa (p9 X.w sa ((tl.map fun t=>((t.1.map Sum.inl:List Key),t.2)).map fun t=>Value.ref t.2))):=ax.upd EE;refine k _ _ ((s1.trans s2).trans (ax.upd hD)) (.yY ((hb.same s1).same s2) hD ?_);rw[ek,<-ev];exact(CJ ok Ya).same (bc s2)⟩
theorem HE(hu:X.A.units+6<cLine)(hs:X.mg "sorted"=none)(hm:X.mg "set"=none)(hl:QE X l F)(hc:X.calm=true:=by rfl) (hg:Gl X "sorted":=by rfl) (EF:Gl X "set":=by rfl) (dD:bt [l]=true:=by rfl):
  QE X (.Call (.Name "sorted" p1) [.Call (.Name "set" p2) [l] [] ES] [] ER) (fun ρ=>(F ρ).bind d_):=⟨HD hu hs hm hl.h hc hg EF dD⟩
end
end L2
namespace L2
open PySem PySem.Spec PySem.Calls PyProof.Rows
def kt:Nat->Tr->Bool
 |_,.int _=>true
 |d+1,.tup ts=>ts.all (kt d)
 |_,_=>false
def ju:Tr->List Int
 |.tup [.tup [.int a,.int b],.tup _]=>[a,b]
 |_=>[]
def ET(us:List Tr)(t:Tr):List Tr:=if(us.any fun y=>eqT y t)=true then us else us++[t]
def FR(ts:List Tr):List Tr:=ts.foldl ET []
def jW(ts:List Tr):List Tr:=ts.mergeSort fun a b=>lX (ju a) (ju b)
def MI(ts:List Tr):Bool:=(ts.all fun t=>kt 3 t&&(ju t).length==2)&&(decide ((FR ts).length<=18)&&decide (((FR ts).map ju).Nodup))
def gx:Tr->Rs Tr
 |.tup ts=>if MI ts=true then .ok (.lst (jW (FR ts)))else .bad
 |_=>.bad
theorem Lw(tl:List (Tr×Addr)):(pG tl).map (·.1)=FR (tl.map (·.1)):=by
 have gen:∀(tl acc:List (Tr×Addr)),(tl.foldl lW acc).map (·.1)=(tl.map (·.1)).foldl ET (acc.map (·.1)):=by
  intro tl
  induction tl with
  |nil=>intro acc;rfl
  |cons p tl ih=>
   intro acc;rw[gb,ih,aA,gb];congr 1;unfold lW ET;rw[kx];show(if(acc.any fun y=>eqT y.1 p.1)=true then acc else acc++[p]).map (·.1)=if(acc.any fun y=>eqT y.1 p.1)=true then _ else _
   split
   ·rfl
   ·rw[cH];rfl
 exact gen tl []
theorem HF(tl:List (Tr×Addr))(i:Nat):(pG (tl.take i)).length<=(pG tl).length:=by
 have grow:∀(xs acc:List (Tr×Addr)),acc.length<=(xs.foldl lW acc).length:=by
  intro xs
  induction xs with
  |nil=>intro acc;exact ak _
  |cons x xs ih=>
   intro acc;refine bx ?_ (ih _)
   unfold lW;split
   ·exact ak _
   ·rw[aY];omega
 have e:pG tl=(tl.drop i).foldl lW (pG (tl.take i)):=by
  unfold pG;rw[<-ro,List.take_append_drop]
 rw[e];exact grow _ _
theorem EU{ts:List Tr}(nd:(ts.map ju).Nodup){a b:Tr}(ha:a∈ts)(hb:b∈ts)(e:ju a=ju b):a=b:=by
 obtain⟨i,hi⟩:=dM ha;obtain⟨j,hj⟩:=dM hb;obtain⟨PR,Jf⟩:=b_.mp hi;obtain⟨PU,Jg⟩:=b_.mp hj;have q:(ts.map ju)[i]'(by rw[ah];exact PR)=(ts.map ju)[j]'(by rw[ah];exact PU):=by
  rw[fo,fo,Jf,Jg,e]
 have z:=(gJ nd).mp q;subst z;rw[<-Jf,<-Jg]
theorem mE(ts:List Tr):(jW ts).Pairwise fun a b=>lX (ju a) (ju b)=true:=jx (le:=fun a b=>lX (ju a) (ju b)) (fun a b c h1 h2=>fQ h1 h2) (fun a b=>fR _ _) _
theorem zE{ts us:List Tr}(nd:(ts.map ju).Nodup)(p:us.Perm ts):jW us=jW ts:=by
 have hp:(jW us).Perm ts:=(cM _ _).trans p;have BK:(jW ts).Perm ts:=cM _ _;exact jv (le:=fun a b=>lX (ju a) (ju b)=true) (fun a b ha hb h1 h2=>EU nd (hp.mem_iff.mp ha) (BK.mem_iff.mp hb) (gw h1 h2)) (mE _) (mE _) (hp.trans BK.symm)
theorem EV{ts:List Tr}(nd:(ts.map ju).Nodup):(bU (ts.map ju)).map (fun i=>ts.getD i .cD)=jW ts:=by
 have hp:((bU (ts.map ju)).map fun i=>ts.getD i .cD).Perm ts:=by
  have q:=(cS (ts.map ju)).map fun i=>ts.getD i .cD;rw[ah,cK]at q;exact q
 have BK:(jW ts).Perm ts:=cM _ _;refine jv (le:=fun a b=>lX (ju a) (ju b)=true) (fun a b ha hb h1 h2=>EU nd (hp.mem_iff.mp ha) (BK.mem_iff.mp hb) (gw h1 h2)) ?_ (mE _) (hp.trans BK.symm)
 rw[gX];refine(iG (ts.map ju)).imp_of_mem fun{i j} hi hj e=>?_
 have qL:=cF hi;have uo:=cF hj;rw[ah]at qL uo;rw[bb,bb,aP,aP,aB qL,aB uo]at e;rw[bb,bb,aB qL,aB uo];exact e
theorem yj{α:Type}:∀(ys:List Addr) (zs:List (α×Addr)),ys.Perm (zs.map (·.2))->∃tl:List (α×Addr),tl.map (·.2)=ys/\tl.Perm zs
 |[],zs,h=>by have:=h.length_eq;rw[ah]at this;cases zs with|nil=>exact⟨[],rfl,.refl _⟩|cons _ _=>cases this
 |y::ys,zs,h=>by
  obtain⟨z,hz,rfl⟩:=aW.mp (h.mem_iff.mp (aS ..));obtain⟨i,hi,ei⟩:=List.getElem_of_mem hz;have pe:=il zs i hi;have h2:(z.2::ys).Perm (z.2::(zs.eraseIdx i).map (·.2)):=by
   refine h.trans ?_
   have:=(pe.map (·.2)).symm;rw[aA,ei]at this;exact this
  obtain⟨tl,e1,e2⟩:=yj ys _ (List.Perm.cons_inv h2);refine⟨z::tl,by rw[aA,e1],?_⟩;rw[ei]at pe;exact(List.Perm.cons z e2).trans pe
section
variable {X:Cx}{pins:List (Addr×Obj)}{σ:St}{H:Hp}{s:Shared}{B:bZ}
theorem EW(I:Inv X pins σ H s):∀{d:Nat} {t:Tr} {v:V} {u:Value},kt d t=true->Rep X.K (aT B H) v t->RelV v u->NV s.heap d t u
 |0,t,v,u,k,r,rv=>by
  unfold kt at k;split at k
  ·cases r.int_inv;obtain⟨w,rfl⟩:=rv;exact⟨_,w,rfl,rfl⟩
  ·rename_i e;exact absurd e (Nat.succ_ne_zero _).symm
  ·cases k
 |d+1,t,v,u,k,r,rv=>by
  unfold kt at k;split at k
  ·cases r.int_inv;obtain⟨w,rfl⟩:=rv;exact .inl ⟨_,w,rfl,rfl⟩
  ·rename_i ts e;cases e;obtain⟨a,us,rfl,hq,rr⟩:=r.iN;cases(show u=Value.ref a from rv);obtain⟨aZ,zc,⟨o,h1,h2,n,h3⟩,_⟩:=I.tuple (.inl (.inl (aE _ _ hq)));refine .inr ⟨ts,a,o,aZ.toArray,n,rfl,rfl,h1,h2,h3,by rw[<-rr.length,zc.length,bf],fun i t v e1 e2=>?_⟩;obtain⟨v',ev,rp⟩:=rr.get e1;obtain⟨u',eu,ru⟩:=zc.get ev;rw[List.getElem?_toArray,eu]at e2;cases e2;exact EW I (bG.mp k t (bw e1)) rp ru
  ·cases k
theorem EY{t:Tr}(h:((ju t).length==2)=true):∃a b bs,t=.tup [.tup [.int a,.int b],.tup bs]:=by
 unfold ju at h;split at h
 ·exact⟨_,_,_,rfl⟩
 ·cases h
theorem Lx(I:Inv X pins σ H s){t:Tr}{v:V}{u:Value}(k:((ju t).length==2)=true)(r:Rep X.K (aT B H) v t)(rv:RelV v u):TL s.heap u (ju t):=by
 obtain⟨a,b,bs,rfl⟩:=EY k;obtain⟨ad,us,rfl,hq,rr⟩:=r.iN;cases(show u=Value.ref ad from rv);obtain⟨x1,x2,rfl,r1,r2⟩:=sr rr;obtain⟨aZ,zc,⟨o,h1,h2,n,h3⟩,_⟩:=I.tuple (.inl (.inl (aE _ _ hq)));obtain⟨u1,u2,rfl,e1,e2⟩:=vals2 zc;exact⟨ad,o,n,u1,u2,a,b,rfl,h1,h2,h3,rfl,Hz I r1 e1⟩
theorem CQ(hu:X.A.units+8<cLine)(hc:X.calm=true):gm X (.type "set") (fun xs H Q=>∃(p:Addr) (tl:List (Tr×Addr)) (B:bZ),xs=[.ref p]/\ir X.K H p (tl.map fun t=>V.ref t.2)/\(∀t∈tl,kt 3 t.1=true/\Rep X.K (aT B H) (.ref t.2) t.1)/\(pG tl).length<=18/\∀a,H a=none->Q (.ref a) (upd H a (p9 X.w a ((pG tl).map fun t=>Value.ref t.2)))):=by
 intro pins s σ H xs us Q I r h;obtain⟨p,ts,B,rfl,hl,hk,hb,q⟩:=h;obtain⟨u,rfl,ru⟩:=vals1 r;cases(show u=Value.ref p from ru);obtain⟨aZ,rv,pl,hz⟩:=I.tuple hl;have hlen:aZ.length=ts.length:=by have e:=rv.length;rw[ah]at e;exact e.symm
 have hsz:aZ.toArray.size=ts.length:=by rw[bf];exact hlen
 have gd:∀i (hi:i<ts.length),ts.getD i (.cD,0)=ts[i]:=fun i hi=>by rw[bb,aB hi];rfl
 have VW:∀i,i<=ts.length->(List.range i).map (fun i=>ts.getD i (.cD,0))=ts.take i:=fun i hi=>by
  refine kf (by simp;omega) fun j h1 h2=>?_
  rw[fo,List.getElem_range,List.getElem_take,gd]
 refine EO (val:=fun i=>ts.getD i (.cD,0)) hu (I.ok.hd hc) pl (fun i v hv=>?_) (fun i hi=>?_) (fun i hi=>?_) fun h' tk hS v9=>?_
 ·have Lu:aZ[i]?=some v:=by simpa using hv
  have hi:i<ts.length:=by rw[<-hlen];exact(b_.mp Lu).1
  obtain⟨u,v5,ru⟩:=rv.get (i:=i) (x:=V.ref ts[i].2) (by rw[aP,aB hi];rfl);rw[Lu]at v5;cases v5;rw[gd i hi];exact ru
 ·rw[hsz]at hi;rw[VW i hi];exact bx (HF ts i) hb
 ·rw[hsz]at hi;rw[gd i hi];obtain⟨k1,k2⟩:=hk _ (f' hi);exact EW I k1 k2 rfl
 ·rw[hsz,VW _ (ak _),List.take_length]at hS;have hV:mC X.w h' s.heap.objs.size ((pG ts).map fun t=>Value.ref t.2):=by
   obtain⟨o,es,ep,t,ho,hex,hd,hp,tk,hl,_⟩:=hS;refine⟨o,es,ep,t,es.toList,ho,hex,hd,(oB _).symm,?_,trivial,?_,tk.fits,hl,tk.rise⟩
   ·have q:=hp.map (·.2);rw[bC]at q;exact q
   ·have:=tk.La;rcases tk.ms with e|e<;>rw[e]at this<;>(show es.size<4096;omega)
  have hf:H s.heap.objs.size=none:=I.fresh;refine⟨.ref s.heap.objs.size,_,I.laid (o:=p9 X.w s.heap.objs.size ((pG ts).map fun t=>Value.ref t.2)) (fun b o e=>v9 b o (ar e) e) (ak _) ⟨hV,?_,fun h1 h2 x k=>mC.keep x k⟩,rfl,q _ hf⟩;obtain⟨o,_,_,_,_,ho,_⟩:=hV;exact⟨o,ho⟩
theorem qC(hu:X.A.units+6<cLine)(hc:X.calm=true):gm X (.builtin "sorted") (fun xs H Q=>∃(a:Addr) (ts:List (Tr×Addr)) (B:bZ),xs=[.ref a]/\H a=some (p9 X.w a (ts.map fun t=>Value.ref t.2))/\(∀t∈ts,((ju t.1).length==2)=true/\Rep X.K (aT B H) (.ref t.2) t.1)/\((ts.map (·.1)).map ju).Nodup/\ts.length<64/\
  ∀(D:Addr) (tl:List (Tr×Addr)),H D=none->tl.Perm ts->Q (.ref D) (upd H D (.lst ((bU ((tl.map (·.1)).map ju)).map fun i=>(tl.map fun t=>V.ref t.2).getD i .cD)))):=by
 intro pins s σ H xs us Q I r h;obtain⟨a,ts,B,rfl,ha,hk,nd,yF,q⟩:=h;obtain⟨u,rfl,ru⟩:=vals1 r;cases(show u=Value.ref a from ru);obtain⟨hS,_,_⟩:=(show bQ X.prog X.w H s.heap a (.ext fun h=>mC X.w h a (ts.map fun t=>Value.ref t.2))from I.cp a _ ha);refine call_function_entry kind_sorted plain_sorted entry_sorted (args_sorted1 _) ?_
 unfold Builtin.«sorted»;refine aa (m:=checkCount "sorted" 1 1 _) (ae ?_);refine aa (oC (A:=X.A.in1) (I.ok.hd hc) hS (by rw[ah,bH];omega) fun h1 tk d l hp v9 hle=>?_);have oX:(l.map lA).Perm (ts.map fun t=>Value.ref t.2):=hp;obtain⟨mI,e',Ht⟩:=perm_back (f:=fun v:Addr=>Value.ref v) (fun v=>match v with|.ref x=>x|_=>0) (fun _=>rfl) (l:=ts.map (·.2)) (es:=l.map lA) (by rw[bC];exact oX);obtain⟨tl,et,Bc⟩:=yj mI ts Ht;have oF:l.map lA=(tl.map (·.2)).map Value.ref:=by rw[e',et]
 have zD:(l.map lA).length=tl.length:=by rw[oF,ah,ah]
 have P6:((tl.map (·.1)).map ju).Nodup:=(mY ((Bc.map _).map _)).mpr nd;have EM:tl.length<64:=by rw[Bc.length_eq];exact yF
 refine aa (kz ?_ (by rw[zD,bH];omega));have C7:(h1.push (seqObj "list" (l.map lA).toArray 0)).get? h1.objs.size=some (seqObj "list" (l.map lA).toArray 0):=aU _ rfl;have Hn:Vals (tl.map fun t=>V.ref t.2) (l.map lA):=by
  rw[oF]
  clear oF zD P6 EM et Bc
  induction tl with
  |nil=>exact .nil
  |cons t tl ih=>exact .cons rfl ih
 refine aa (cn (dN slot_list_sort ⟨_,C7,rfl⟩ entry_list_sort (yh (Q:=Q) (tk:=tk) (d:=d) (by omega) I v9 Hn (ks:=(tl.map (·.1)).map ju) (by rw[zD,ah,ah]) (fun i v k e1 e2=>?_) P6 (by rw[ah,ah];exact EM) (fun D hD=>q D tl hD Bc) fun s' he=>⟨_,rfl,ae ⟨_,rfl,he⟩⟩) (args_list_sort _)));rw[oF,aP,aP]at e1;rw[aP,aP]at e2;cases eq:tl[i]? with
 |none=>rw[eq]at e2;cases e2
 |some t=>
  rw[eq]at e1 e2;cases e1;cases e2;obtain⟨h2,h3⟩:=hk t (Bc.mem_iff.mp (bw eq));exact Lx I h2 h3 rfl
theorem Bd{K:PySem.W.Frag}{B:bZ}{H:Hp}:∀{vs:List V} {ts:List Tr},aK K (aT B H) vs ts->(∀t∈ts,((ju t).length==2)=true)->∃tl:List (Tr×Addr),vs=(tl.map fun t=>V.ref t.2)/\tl.map (·.1)=ts/\∀t∈tl,t.1∈ts/\Rep K (aT B H) (.ref t.2) t.1
 |[],_,r,_=>by cases r;exact⟨[],rfl,rfl,fun t m=>nomatch m⟩
 |v::vs,t::ts,r,hk=>by
  cases r with
  |cons h r=>
   obtain⟨tl,e1,e2,e3⟩:=Bd r fun t m=>hk t (aO _ m);obtain⟨a,b,bs,rfl⟩:=EY (hk t (aS ..));obtain⟨ad,us,rfl,hq,rr⟩:=h.iN;refine⟨(_,ad)::tl,by rw[e1];rfl,by rw[aA,e2],fun t m=>?_⟩;rcases aN.mp m with rfl|m
   ·exact⟨aS ..,h⟩
   ·exact⟨aO _ (e3 t m).1,(e3 t m).2⟩
end
section
variable {X:Cx}{l:Expr}{p1 p2 ER ES:Pos}{F:az->Rs Tr}
theorem HG(hu:X.A.units+8<cLine)(hs:X.mg "sorted"=none)(hm:X.mg "set"=none)(hl:PE X l (tP X F))(hc:X.calm=true:=by rfl) (hg:Gl X "sorted":=by rfl) (EF:Gl X "set":=by rfl) (dD:bt [l]=true:=by rfl):
  PE X (.Call (.Name "sorted" p1) [.Call (.Name "set" p2) [l] [] ES] [] ER) (tP X fun ρ=>(F ρ).bind gx):=
 (r9 (qC (by omega) hc) hg hs rfl (iC (gQ (CQ hu hc) EF hm rfl (iC hl kG (ba _ _ (aI dD).1)) (by decide) (by decide) (ba _ _ (aI dD).1) (cE (aI dD).2)) kG (ba _ _ rfl)) (by decide) (by decide) (ba _ _ rfl) (cE (es:=[]) rfl)).weak fun σ H Q ⟨B,ρ,hb,r,q⟩=>⟨B,ρ,hb,r,q.bind.mono fun t qt v H1 s1 rv=>by
  have key:∃ts,t=.tup ts/\MI ts=true/\∀v H',ax H H'->Rep X.K (aT B H') v (.lst (jW (FR ts)))->Q v H':=by
   unfold gx at qt;split at qt
   ·obtain⟨h0,z⟩:=gp qt;exact⟨_,rfl,h0,z⟩
   ·exact qt.elim
  obtain⟨ts,rfl,ok,k⟩:=key;unfold MI at ok;rw[aJ,aJ,ck,ck,bG]at ok;obtain⟨VX,VY,Uv⟩:=ok;obtain⟨a,vs,rfl,h,rr⟩:=rv.iN;obtain⟨tl,ev,et,er⟩:=Bd rr fun t m=>by have q:=VX t m;rw[aJ]at q;exact q.2
  have fO:∀t∈tl,kt 3 t.1=true/\((ju t.1).length==2)=true:=fun t m=>by have q:=VX _ (er t m).1;rw[aJ]at q;exact q
  have Uw:(pG tl).map (·.1)=FR ts:=by rw[Lw,et]
  have Uu:(pG tl).length<=18:=by rw[<-Uw,ah]at VY;exact VY
  refine⟨a,tl,B,rfl,.inl (.inl (by rw[<-ev];exact aE _ _ h)),fun t m=>⟨(fO t m).1,(er t m).2⟩,Uu,fun sa EE=>⟨sa,pG tl,B,rfl,aG ..,fun t m=>?_,by rw[Uw];exact Uv,by omega,fun D us hD hp=>?_⟩⟩
  ·have m:=wa m;exact⟨(fO t m).2,(er t m).2.same (bc (ax.upd EE))⟩
  ·have s2:ax H1 (upd H1 sa (p9 X.w sa ((pG tl).map fun t=>Value.ref t.2))):=ax.upd EE;refine k _ _ ((s1.trans s2).trans (ax.upd hD)) (.yY ((hb.same s1).same s2) hD ?_);have VZ:(us.map (·.1)).Perm (FR ts):=by rw[<-Uw];exact hp.map _
   have Yb:((us.map (·.1)).map ju).Nodup:=(mY (VZ.map _)).mpr Uv;rw[<-zE Uv VZ,<-EV Yb];refine qN fun i hi=>?_
   have hit:=cF hi;rw[ah,ah]at hit;rw[bb,bb,aP,aP,aB hit];exact(er _ (wa (hp.mem_iff.mp (f' hit)))).2.same (bc s2)⟩
theorem HH(hu:X.A.units+8<cLine)(hs:X.mg "sorted"=none)(hm:X.mg "set"=none)(hl:QE X l F)(hc:X.calm=true:=by rfl) (hg:Gl X "sorted":=by rfl) (EF:Gl X "set":=by rfl) (dD:bt [l]=true:=by rfl):
  QE X (.Call (.Name "sorted" p1) [.Call (.Name "set" p2) [l] [] ES] [] ER) (fun ρ=>(F ρ).bind gx):=⟨HG hu hs hm hl.h hc hg EF dD⟩
end
end L2
namespace L2
open PySem PySem.Spec PySem.Calls PyProof.Rows
section
variable {prog:Program}{w:World}
theorem CT{A:Around}(hh:A.handled=none)(I d:Addr)(ff:d≠I){o:Obj}{es:Array DictEntry}{ep:Nat}(hd:o.data=.dict es ep):
  Walks prog w A I [I,d] [I] es.size (fun i v=>∃e,es[i]?=some e/\v=e.key) (fun i h=>h.IsKeyIter I d i es.size ep/\h.get? d=some o) where
 sub:=fun b hb=>by simp at hb;simp[hb]
 frame:=fun _ _ _ st hk=>⟨st.1.at fun o e=>hk I (by simp) o e,hk d (by simp) _ st.2⟩
 item:=fun i s Q E hi st hQ=>by
  refine xO st.1 st.2 hd hi fun h' Tx sb=>?_
  exact hQ _ h' s.toks ⟨es[i],bV hi,rfl⟩ ⟨Tx,(sb.2 d ff).trans st.2⟩ fun b o hb e=>sb.extBut b o (fun h=>hb (by simp[h])) e
 done:=fun s Q E st hQ=>AR hh st.1 st.2 hd (ak _) fun h' eb=>hQ h' s.toks fun b o hb e=>eb b o (fun h=>hb (by simp[h])) e
 self:=fun _ _ _ _ st hQ=>wpAny_pyIter_keyiter st.1 hQ
theorem EZ{d:Addr}{o:Obj}{es:Array DictEntry}{ep:Nat}(lo:(d==sysModules)=false)(hc:o.cls=.type "dict")(hd:o.data=.dict es ep):PySem.W.KdlSrc prog w "dict" d d es.size (fun i v=>∃e,es[i]?=some e/\v=e.key) (fun h=>h.get? d=some o) where
 type:=fun _ hm=>⟨o,hm,hc⟩
 there:=fun _ hm=>⟨ar hm,ar hm⟩
 keep:=fun _ _ hm hk=>hk d (.inl rfl) o hm
 notList:=by decide
 notTuple:=by decide
 hint:=fun _ _ _ _ hm hq=>PySem.W.kdl_hint_dict ⟨o,hm,hc⟩ hq
 iter:=fun _ _ hh hm=>⟨_,_,(fun _ _ hq=>xN ⟨o,hm,hc⟩ lo hm hd hq),CT hh _ d (aM (ar hm)) hd,⟨⟨_,aU _ rfl,rfl,rfl⟩,aC _ hm⟩⟩
theorem wb{A:Around}{E:Value->Shared->Prop}{s:Shared}{a:Addr}{o:Obj}{es:Array DictEntry}{ep:Nat}{R:List Value->Shared->Prop}(hh:A.handled=none)(lo:(a==sysModules)=false)(hm:s.heap.get? a=some o)(hc:o.cls=.type "dict")(hd:o.data=.dict es ep)(hn:es.size<=sizeLine)
  (h:∀(h':Heap) (tk:Nat),(∀b o,s.heap.get? b=some o->h'.get? b=some o)->R (es.toList.map (·.key)) {s with heap:=h',toks:=tk}):wpAny (model prog w) A (collect (.ref a)) R E s:=by
 have eG:a<s.heap.objs.size:=ar hm;have items:∀(acc:Array Value),ItemsOf (fun i v=>∃e,es[i]?=some e/\v=e.key) acc es.size->acc.toList=es.toList.map (·.key):=fun acc hi=>by
  refine rn fun i=>?_
  rw[aP,cu,cu];cases e:acc[i]? with
  |none=>
   have h1:acc.size<=i:=mL.mp e;rw[hi.1]at h1;rw[mL.mpr h1];rfl
  |some v=>
   obtain⟨x,ex,ev⟩:=hi.2 i v e;rw[ex,ev];rfl
 unfold collect;refine aa (nK (dZ entry_proto_collect' ?_));rw[fj wL _];show wpAny _ A.in1 (newList []>>=fun l=>again (.builtin "list.__iadd__" ⟨[l,.ref a],[]⟩)) _ _ s;refine aa (fX ?_);refine ae ⟨eC mP _,dZ entry_list_iadd' ?_⟩;rw[fj mP _];have hL:(s.heap.push {cls:=.type "list",data:=.seq ([]:List Value).toArray}).get? s.heap.objs.size=some {cls:=.type "list",data:=.seq #[]}:=aU _ rfl;show wpAny _ A.in1 (Builtin.List.listExtendWith (.ref s.heap.objs.size) (.ref a) (.ref s.heap.objs.size)) _ _ _;have key:=PySem.W.kdl_extend (prog:=prog) (w:=w) (A:=A) (s:={s with heap:=s.heap.push {cls:=.type "list",data:=.seq ([]:List Value).toArray}})
  (R:=fun(q:Result) (s':Shared)=>∃(h':Heap) (tk:Nat) (iw:Array Value) (c':Nat),q=.ok (.ret (.ref s.heap.objs.size))/\s'={s with heap:=h',toks:=tk}/\
   (∀b o,s.heap.get? b=some o->h'.get? b=some o)/\h'.get? s.heap.objs.size=some {cls:=.type "list",dict:=none,data:=.seq iw c',slots:=#[]}/\ItemsOf (fun i v=>∃e,es[i]?=some e/\v=e.key) iw es.size)
  (EZ lo hc hd) hh (aC _ hm) s.heap.objs.size (cy eG) (cy eG) (.ref s.heap.objs.size) 0 hL
  (fun h' tk iw c' hk zu pB=>⟨h',tk,iw,c',rfl,rfl,fun b o e=>hk b o (aM (ar e)) (aC _ e),zu,pB⟩) hn
 refine c0 key (fun fin s' x=>?_) fun e s' x=>?_
 ·cases fin with
  |done f=>
   obtain⟨h',tk,iw,c',e,rfl,hk,zu,pB⟩:=x;cases e;show wpAny _ A (load s.heap.objs.size>>=_) _ _ _;refine aa (kA zu ?_);refine ae ?_
   rw[items iw pB];exact h h' tk hk
  |again c₁=>
   refine⟨x.1,fq x.2 fun q lT y=>?_⟩;obtain⟨h',tk,iw,c',rfl,rfl,hk,zu,pB⟩:=y;show wpAny _ A (load s.heap.objs.size>>=_) _ _ _;refine aa (kA zu ?_);refine ae ?_
   rw[items iw pB];exact h h' tk hk
 ·obtain⟨_,_,_,_,e',_⟩:=x;cases e'
end
end L2
namespace L2
open PySem PySem.Spec PySem.Calls PyProof.Rows
theorem pH{prog:Program}{w:World}{h h':Heap}{d:Addr}{xs:List (List Key×Addr×Value)}(k:∀b o,h.get? b=some o->h'.get? b=some o)(x:h.DictOfH (tupleKind (ay prog w)) d xs):h'.DictOfH (tupleKind (ay prog w)) d xs:=by
 obtain⟨o,es,ep,e1,e2,e3,e4,e5,e6⟩:=x;exact⟨o,es,ep,k _ _ e1,e2,e3,e4,fun x hx=>gs (e5 x hx) h' k,e6⟩
abbrev CU(d x:Str)(p1 p2 p3 p4 p5:Pos)(n1:Nat):Expr:=.Tuple [.Subscript (.Name d p1) (.Name x p2) p3,.Name x p4] n1 p5
structure E1(scope:Scope)(d x:Str):Prop where
 kind:scope.kind=.function
 co:scope.isCoroutine=false
 gen:scope.isGenerator=false
 lx:scope.names.lookup x=some .local
 ld:scope.names.lookup d=some .free
 vE:∀y∈scope.names,y.2≠ .cell
 dx:(x==("__debug__":Str))=false
 dd:(d==("__debug__":Str))=false
 dc:(d==("__classdict__":Str))=false
section
variable {prog:Program}{w:World}{A:Around}{E:Value->Shared->Prop}{s:Shared}
theorem E2{f c' cell da b:Addr}{nm qual:Str}{params:Arguments}{scope:Scope}{qE:List (Str×Addr)}{pm zF:Value}{d x:Str}{p1 p2 p3 p4 p5:Pos}{n1:Nat}{xs:List (List Key×Addr×Value)}{k:List Key}{pv:Addr×Value}{Q:Value->Shared->Prop}
  (hu:∀env:Env,(A.deeper env).units+1<cLine) (P8:A.depth<recursionLimit) (J3:s.heap.NoLimit)
  (ho:s.heap.get? f=some (PySem.W.kla_obj nm qual params (CU d x p1 p2 p3 p4 p5 n1) scope qE pm c' zF)) (qf:s.heap.CodeRec (.ref c') qual)
  (hb:∀v,bindArgs (PySem.W.kla_fn nm qual params (CU d x p1 p2 p3 p4 p5 n1) scope qE pm (.ref c') zF) ⟨[v],[]⟩=pure [(x,v)]) (S:E1 scope d x)
  (wC:qE.lookup d=some cell) (EH:s.heap.IsCell cell (some (.ref da))) (hm:s.heap.DictOfH (tupleKind (ay prog w)) da xs) (hk:(tupleKind (ay prog w)).is s.heap k b) (hp:atKey xs k=some pv)
  (h:∀h' tk tp,(∀b o,s.heap.get? b=some o->h'.get? b=some o)->s.heap.objs.size<=tp->h'.get? tp=some {cls:=.type "tuple",data:=.seq #[pv.2,.ref b]}->Q (.ref tp) {s with heap:=h',toks:=tk}):
  wpAny (model prog w) A (call (.ref f) [.ref b]) Q E s:=by
 refine wpAny_call (PySem.W.kla_callFunE P8 ho rfl S.co S.gen rfl qf ?_);rw[hb];refine ae (wpAny_newFunctionEnv S.vE (fun y hy=>by rw[cB.mp hy];exact S.lx) (fun dP uG DM=>?_) S.kind);have yk:∀b o,s.heap.get? b=some o->dP.get? b=some o:=fun b o e=>DM.extBut b o (aM (ar e)) (aC _ e);refine⟨J3.fresh _ DM,?_⟩;have Ly:dP.Ns s.heap.objs.size (fun y=>[(x,Value.ref b)].reverse.lookup y):=uG;have V0:[(x,Value.ref b)].reverse.lookup x=some (.ref b):=by simp
 have pM:dP.IsCell cell (some (.ref da)):=by obtain⟨o,e,r⟩:=EH;exact⟨o,yk _ _ e,r⟩
 refine PySem.W.kla_codeExpr (wpAny_Tuple_spliced ?_);show wpAny _ _ (spliced ((false,eval (.Subscript (.Name d p1) (.Name x p2) p3) _)::backTo p5 (starEach [.Name x p4] _))) _ _ _;refine m7 (Subscript_ ?_);refine h_ (wpAny_loadName_free S.kind S.ld wC pM ?_ S.dc) S.dd;refine h_ (m4 S.kind S.lx Ly V0 ?_) S.dx;refine tail_any (T:="dict") (pH yk hm).typeIs qV.lookup (wpAny_getItem_heap (i3 (hu _)) (gs hk dP yk) (pH yk hm) hp ?_) rfl;show wpAny _ _ (spliced ((false,eval (.Name x p4) _)::backTo p5 (starEach [] _))) _ _ _;refine m7 (h_ (m4 S.kind S.lx Ly V0 ?_) S.dx);refine rO ⟨by show 2<=sizeLine;decide,?_⟩;exact h _ _ dP.objs.size (fun b o e=>aC _ (yk b o e)) (gf (bN (i5 _) (by obtain⟨o,es,ep,e,_⟩:=Ly;exact ar e))) (aU _ rfl)
end
end L2
namespace L2
open PySem PySem.Spec PySem.Calls PyProof.Rows
section
variable {prog:Program}{w:World}{A:Around}{E:Value->Shared->Prop}{s:Shared}
structure lQ(s:Shared)(D kS e1:Nat)(ks:List (List Int))(kv:List Value)(h:Heap):Prop where
 old:∀b o,b≠D->s.heap.get? b=some o->h.get? b=some o
 d:h.get? D=some (seqObj "list" #[] e1)
 k:∃e,h.get? kS=some (seqObj "list" kv.toArray e)
 t:∀(i:Nat) (v:Value) (k:List Int),kv[i]?=some v->ks[i]?=some k->TK h v k
theorem lQ.upd {D kS e1:Nat}{ks:List (List Int)}{kv Ux:List Value}{h:Heap}{g:Array Value->Array Value}(x:lQ s D kS e1 ks kv h)(hn:s.heap.objs.size<=kS)(hD:kS≠D)(hg:g kv.toArray=Ux.toArray)(ht:∀(i:Nat) (v:Value) (k:List Int),Ux[i]?=some v->ks[i]?=some k->TK h v k):
  lQ s D kS e1 ks Ux (h.update kS (Obj.mapSeq g)):=by
 obtain⟨e,ek⟩:=x.k;have sb:=dS h kS (Obj.mapSeq g);refine⟨fun b o n q=>(sb.2 b (fun z=>?_)).trans (x.old b o n q),(sb.2 D hD.symm).trans x.d,⟨_,by rw[<-hg];exact nM ek g⟩,fun i v k e1 e2=>(ht i v k e1 e2).keep fun b o xs n hc hd q=>(sb.2 b fun z=>?_).trans q⟩
 ·rw[z]at q;exact absurd (ar q) (Nat.not_lt.mpr hn)
 ·rw[z,ek]at q;cases q;exact absurd (show Value.type "list"=Value.type "tuple"from hc) (by decide)
theorem zG{D f:Addr}{vs:List Value}{ks:List (List Int)}{n0:Nat}{P:PySem.Fin->Shared->Prop}(hu:A.units<cLine)(ho:s.heap.get? D=some (seqObj "list" vs.toArray n0))(hl:vs.length=ks.length)(yF:ks.length<64)(zy:ks.Nodup)(yg:∀k∈ks,∀k'∈ks,k.length=k'.length)
  (P9:∀(i:Nat) (v:Value) (k:List Int) (h1:Heap) (ox:Nat) (C:Value->Shared->Prop),vs[i]?=some v->ks[i]?=some k->(∀b o,b≠D->s.heap.get? b=some o->h1.get? b=some o)->(∀h' tk u,(∀b o,h1.get? b=some o->h'.get? b=some o)->TK h' u k->C u {s with heap:=h',toks:=tk})->
   wpAny (model prog w) A (call (.ref f) [v]) C (fun _ _=>False) {s with heap:=h1,toks:=ox})
  (h:∀h' tk c,(∀b o,b≠D->s.heap.get? b=some o->h'.get? b=some o)->h'.get? D=some (seqObj "list" ((bU ks).map fun i=>vs.getD i Value.none).toArray c)->P (.done (.ret .none)) {s with heap:=h',toks:=tk}):
  wpAny (model prog w) A (PyProof.Rows.ksk_tree D (.ref f) false) P E s:=by
 have Uy:D<s.heap.objs.size:=ar ho;have s1:=dS s.heap D (Obj.mapSeq fun _=>(#[]:Array Value));obtain⟨e1,IM⟩:∃e1,(s.heap.update D (Obj.mapSeq fun _=>(#[]:Array Value))).get? D=some (seqObj "list" #[] e1):=⟨_,nM ho fun _=>#[]⟩;unfold PyProof.Rows.ksk_tree;refine aa (listItems_at ho rfl ?_);refine aa (jc ho rfl ?_ (by rw[bf,bH];omega) (bP _));refine aa (seqEpoch_at IM rfl ?_);refine aa (nJ ?_ (by show vs.length<=_;rw[bH];omega));refine aa (kz ?_ (bP _));refine cn ?_
 have Ca:((s.heap.update D (Obj.mapSeq fun _=>(#[]:Array Value))).push (seqObj "tuple" vs.toArray 0)).objs.size=s.heap.objs.size+1:=by rw[size_push',Heap.size_update]
 have K0:lQ s D (s.heap.objs.size+1) e1 ks [] (((s.heap.update D (Obj.mapSeq fun _=>(#[]:Array Value))).push (seqObj "tuple" vs.toArray 0)).push (seqObj "list" #[] 0)):=
  ⟨fun b o n q=>aC _ (aC _ ((s1.2 b n).trans q)),aC _ (aC _ IM),⟨0,by rw[<-Ca];exact aU _ rfl⟩,fun i v k e=>by simp at e⟩
 show wpAny (model prog w) A (PyProof.Rows.ksk_rest D (.ref f) false vs.toArray e1 (.ref ((s.heap.update D (Obj.mapSeq fun _=>(#[]:Array Value))).push (seqObj "tuple" vs.toArray 0)).objs.size)) P E {s with heap:=((s.heap.update D (Obj.mapSeq fun _=>(#[]:Array Value))).push (seqObj "tuple" vs.toArray 0)).push (seqObj "list" #[] 0)};rw[Ca];have Uz:s.heap.objs.size+1≠D:=cy (f_ Uy);generalize Y1:s.heap.objs.size+1=kS at K0 Uz;have V1:s.heap.objs.size<=kS:=by omega
 generalize ((s.heap.update D (Obj.mapSeq fun _=>(#[]:Array Value))).push (seqObj "tuple" vs.toArray 0)).push (seqObj "list" #[] 0)=h0 at K0;unfold PyProof.Rows.ksk_rest;refine aa (fv ?_)
 first
  |rw[List.forIn_toArray]
  |(rw[<-iB];simp only[List.toList_toArray])
  |rw[<-iB]
 refine aa (fY _ (fun rest _ s'=>∃done kv h1 ox,vs=done++rest/\kv.length=done.length/\s'={s with heap:=h1,toks:=ox}/\lQ s D kS e1 ks kv h1) _ ?_ ?_ vs PUnit.unit ⟨[],[],h0,s.toks,rfl,rfl,rfl,K0⟩)
 ·rintro x rest _ s' ⟨done,kv,h1,ox,ev,MG,rfl,K⟩
  have hi:vs[done.length]?=some x:=by rw[ev];simp
  have NN:done.length<ks.length:=by rw[<-hl,ev];simp
  have RF:ks[done.length]?=some ks[done.length]:=aB NN
  refine aa (hU (c0 (P9 done.length x _ h1 ox (fun u FH=>∃h' tk,FH={s with heap:=h',toks:=tk}/\(∀b o,h1.get? b=some o->h'.get? b=some o)/\TK h' u ks[done.length]) hi RF K.old fun h' tk u kp tu=>⟨h',tk,rfl,kp,tu⟩) (fun u FH hq=>?_) fun _ _ hF=>hF.elim));obtain⟨h',tk,rfl,kp,tu⟩:=hq;have K1:lQ s D kS e1 ks kv h':=⟨fun b o n q=>kp _ _ (K.old b o n q),kp _ _ K.d,let⟨e,q⟩:=K.k;⟨e,kp _ _ q⟩,fun i v k e1 e2=>(K.t i v k e1 e2).keep fun b o _ _ _ _ q=>kp b o q⟩;obtain⟨e,ek⟩:=K1.k
  try dsimp only
  have V2:kv.length<64:=by omega
  refine aa (jc (s:={s with heap:=h',toks:=tk}) ek rfl ?_ (by rw[bf,bH];omega) (bx (Nat.le_of_eq (Array.size_push ..)) (by rw[bf,bH];omega)));refine ae ⟨done++[x],kv++[u],h'.update kS (Obj.mapSeq (·.push u)),tk,by rw[ev,fV];rfl,by rw[aY,aY,MG];rfl,rfl,?_⟩;refine K1.upd V1 Uz (by simp) fun i v k e1 e2=>?_
  by_cases z:i<kv.length
  ·rw[cq z]at e1;exact K1.t i v k e1 e2
  ·have hz:=(b_.mp e1).1;rw[aY,fS]at hz;have V3:i=kv.length:=by omega
   rw[V3,dI (ak _),eD]at e1;cases e1;rw[V3,MG,RF]at e2;cases e2;exact tu
 ·rintro _ s' ⟨done,kv,h1,ox,ev,MG,rfl,K⟩
  rw[dW]at ev;subst ev;obtain⟨e,ek⟩:=K.k
  try dsimp only
  refine aa (listItems_at (s:={s with heap:=h1,toks:=ox}) ek rfl ?_);have hz:∀n,n<=vs.length->n<=sizeLine:=fun n hn=>by rw[bH];omega
  have fin:∀st:SortSt,(arrOf st).map (·.2)=((bU ks).map fun i=>vs.getD i Value.none).toArray->failedOf st=none->wpAny (model prog w) A (PyProof.Rows.ksk_tail D false e1 (.ref kS) st) P E {s with heap:=h1,toks:=ox}:=by
   intro st UA hf;unfold PyProof.Rows.ksk_tail
   try dsimp only
   rw[UA];simp only[aV,aR];refine aa (jc (s:={s with heap:=h1,toks:=ox}) ek rfl ?_ (by rw[bf];exact hz _ (by omega)) (bP _));refine aa (wpAny_letGo ?_);have sb:=dS h1 kS (Obj.mapSeq fun _=>(#[]:Array Value));have hd2:(h1.update kS (Obj.mapSeq fun _=>(#[]:Array Value))).get? D=some (seqObj "list" #[] e1):=(sb.2 D Uz.symm).trans K.d;refine aa (seqEpoch_at hd2 rfl ?_);have hsz:(((bU ks).map fun i=>vs.getD i Value.none).toArray).size<=sizeLine:=by rw[bf,ah,(cS ks).length_eq,fW];exact hz _ (by omega)
   refine aa (jc hd2 rfl ?_ (bP _) (bx hsz (hZ _)));rw[hf];simp only[gW,aV,aR];refine ae ?_
   have Ry:=dS (h1.update kS (Obj.mapSeq fun _=>(#[]:Array Value))) D (Obj.mapSeq fun _=>((bU ks).map fun i=>vs.getD i Value.none).toArray);refine h _ ox _ (fun b o n q=>?_) (nM hd2 fun _=>((bU ks).map fun i=>vs.getD i Value.none).toArray);refine(Ry.2 b n).trans ((sb.2 b fun z=>?_).trans (K.old b o n q));rw[z]at q;exact absurd (ar q) (Nat.not_lt.mpr V1)
  unfold PyProof.Rows.ksk_end
  try dsimp only
  simp only[aV,aR];have V4:kv.length=vs.length:=MG;by_cases h2:ks.length<2
  ·have FN:vs.toArray.size<2:=by rw[bf,hl];exact h2
   rw[ab FN,ab FN];refine aa (ae ?_);rw[StateT.run_pure];refine aa (ae ?_);dsimp only;refine fin _ ?_ rfl
   rw[jL h2,<-hl,cK];show((List.toArray kv).zip (List.toArray vs)).map (·.2)=_;apply Array.toList_inj.mp;simp only[Array.toList_map,Array.toList_zip];exact List.map_snd_zip (by omega)
  ·have h2:2<=ks.length:=by omega
   have Ra:¬vs.toArray.size<2:=by rw[bf,hl];omega
   rw[af Ra,af Ra];obtain⟨p,er,hp,hs⟩:=sX (v8 zy) h2;have ep:=pF zy hp hs;have UB:kv.length=ks.length:=by omega
   obtain⟨fs,aD,fl,Ll⟩:=mD UB K.t;refine aa (rD (s:={s with heap:=h1,toks:=ox}) (T:=.type "int") aD (by rw[fl];omega) (fun v hv=>by obtain⟨z,t,rfl⟩:=Ll v hv;exact .of_pure rfl) (by decide) ?_);rw[show(Value.type "int" !=Value.type "tuple")=true by decide];refine aa (PySem.W.kat_run (Q:=fun uc s'=>wpAny (model prog w) A (PyProof.Rows.ksk_tail D false e1 (.ref kS) uc) P E s') (G:=fun q s'=>s'={s with heap:=h1,toks:=ox}/\q.toList=bU ks) V4 (by omega) (by omega) (fun p' uc s' a1 a2 a3 a4=>?_) ?_)
   ·obtain⟨rfl,a5⟩:=a4;exact fin uc (by rw[PySem.W.kat_snds V4 a2,a5]) a3
   ·rw[hl];refine lP (fun i j C hi hj qH hC=>?_) _ er ⟨rfl,ep⟩;have vi:kv[i]?=some (kv[i]'(by omega)):=aB (by omega)
    have vj:kv[j]?=some (kv[j]'(by omega)):=aB (by omega)
    have ki:ks[i]?=some ks[i]:=aB hi
    have kj:ks[j]?=some ks[j]:=aB hj
    show wpAny _ _ (keyLt' _ (kv.getD i Value.none) (kv.getD j Value.none)) _ _ _;rw[bb,bb,vi,vj];refine Jd (s:={s with heap:=h1,toks:=ox}) hu (K.t i _ _ vi ki) (K.t j _ _ vj kj) (yg _ (f' hi) _ (f' hj)) (fun e=>qH ((gJ zy).mp e)) ?_
    unfold PM at hC;rw[bb,bb,ki,kj]at hC;exact hC
end
end L2
namespace L2
open PySem PySem.Spec PySem.Calls PyProof.Rows
def CV(K:PySem.W.Frag)(c P:Addr):Bool:=match K.lookup c with
 |some ⟨.type "code",_,.fields vs,_⟩=>decide (vs[11]?=some (.ref P))&&((match vs.getD 18 .none with|.str _ _=>true|_=>false)&&((match vs.getD 7 .none with|.int _ _=>true|_=>false)&&((match vs.getD 9 .none with|.bool _=>true|_=>false)&&((match vs.getD 10 .none with|.int _ _=>true|_=>false)&&decide (c≠P)))))
 |_=>false
theorem E3{K:PySem.W.Frag}{c P:Addr}{h:Heap}(X:K.In h)(e:CV K c P=true):PySem.W.CodeHd h c P:=by
 unfold CV at e;split at e
 ·rename_i od vs sl hk;rw[aJ,aJ,aJ,aJ,aJ,ck,ck]at e;obtain⟨h1,h2,h3,h4,h5,h6⟩:=e;have g:=X _ _ hk;have UC:vs.getD 11 .none=.ref P:=by rw[cw,h1];rfl
  cases e2:vs.getD 18 .none with
  |str f tf=>
   cases e3:vs.getD 7 .none with
   |int fl tg=>
    cases e4:vs.getD 9 .none with
    |bool b=>
     cases e5:vs.getD 10 .none with
     |int tx tt=>exact⟨_,vs,f,tf,fl,tg,b,tx,tt,g,rfl,rfl,h1,UC,e2,e3,e4,e5,h6⟩
     |_=>rw[e5]at h5;cases h5
    |_=>rw[e4]at h4;cases h4
   |_=>rw[e3]at h3;cases h3
  |_=>rw[e2]at h2;cases h2
 ·cases e
def UD(mg:Str->Option Value)(base:Heap):Prop:=∃bm ob,mg "__builtins__"=some (.ref bm)/\bm≠builtinsNs/\bm≠mainGlobals/\base.get? bm=some ob/\ob.cls=.type "module"/\ob.dict=some builtinsNs/\ob.data=.plain
theorem yl{i j:Int}{t u:Tok}{c:Value}:∀{l:List Value},TriplesOk l->TriplesOk (l++[.int i t,.int j u,c])
 |[],_=>trivial
 |.int _ _:: .int _ _::_::rest,h=>yl (l:=rest) h
theorem vf{q:Pos}{i j:Int}{t u:Tok}{c v:Value}:∀{l:List Value},TriplesOk l->codeAmong q (l++[.int i t,.int j u,c])=some v->codeAmong q l=some v\/v=c
 |[],_,e=>by
  have e:(if(i==q.line&&j==q.col)=true then some c else codeAmong q [])=some v:=e;split at e
  ·exact .inr (Option.some.inj e).symm
  ·cases e
 |.int a _:: .int b _::d::rest,h,e=>by
  have e:(if(a==q.line&&b==q.col)=true then some d else codeAmong q (rest++[.int i t,.int j u,c]))=some v:=e;show(if(a==q.line&&b==q.col)=true then some d else codeAmong q rest)=some v\/_;split at e
  ·rename_i z;rw[ab z];exact .inl e
  ·rename_i z;rw[af z];exact vf (l:=rest) h e
section
variable {X:Cx}{pins:List (Addr×Obj)}{σ:St}{H:Hp}{s:Shared}
theorem E4{nm q:Str}{params:Arguments}{body:Expr}{scope:Scope}{qE:List (Str×Addr)}{c P:Addr}{pos:Pos}{fl:Nat}{A:Around}{E:Value->Shared->Prop}{Q:Value->Shared->Prop}(I:Inv X pins σ H s)(C:PySem.W.CodeHd X.base c P)(Bm:UD X.mg X.base)(hP:H P=some (.wB #[.str q 0])) (vg:X.env.code=.ref c) (MJ:X.env.globals=mainGlobals)
  (wC:closureFor scope X.env=pure qE)
  (h:∀f c' pm zF h' tk H',Inv X pins σ H' {s with heap:=h',toks:=tk}->ax H H'->H' f=none->s.heap.objs.size<=f->h'.get? f=some (PySem.W.kla_obj nm q params body scope qE pm c' zF)->h'.CodeRec (.ref c') q->Q (.ref f) {s with heap:=h',toks:=tk}):
  wpAny (model X.prog X.w) A (makeFunction nm q params (.expr body) scope X.env [] [] [] pos fl) Q E s:=by
 obtain⟨qs,hp,tr,rec⟩:=(show bQ X.prog X.w H s.heap P (.wB #[.str q 0])from I.cp P _ hP);have hC:=C.keeps I.bk;have hg:=I.mod.glob.keeps I.bk;obtain⟨bm,ob,b1,b2,b3,b4,b5,b6,b7⟩:=Bm;have Yc:bm≠P:=fun z=>by
  have e:=I.bk _ _ b4;rw[z,hp]at e;cases e;cases b5
 have hB:s.heap.BuiltinsAt X.mg P:=⟨bm,ob,b1,b2,b3,Yc,I.bk _ _ b4,b5,b6,b7⟩;have Yd:mainGlobals≠P:=fun z=>by
  obtain⟨o,es,ep,e,hd,_⟩:=hg;rw[z,hp]at e;cases e;cases hd
 cases hf:codeAmong pos qs.toList with
 |some v=>
  obtain⟨c',oc,vs,q',t,rfl,e2,e3,e4,e5,e6⟩:=rec pos v hf;have eq:q=q':=by
   have z:=bJ (fun a:Array Value=>a[0]?) e2;simp at z;exact z
  subst eq;refine PySem.W.kla_makeFunctionHit wC MJ hg vg hC hp tr hf hB fun zF h' tk kp hsz=>?_
  have I1:Inv X pins σ H {s with heap:=h',toks:=tk}:=I.kept kp;refine h _ c' _ zF _ tk H (I1.kept fun b o e=>aC _ e) (ax.refl H) (I1.cp.fresh (ak _)) hsz (aU _ rfl) ⟨c',oc,vs,t,rfl,aC _ (kp _ _ e4),e5,e6⟩
 |none=>
  refine PySem.W.kla_makeFunction wC MJ hg vg hC hp tr hf Yd hB fun c' zF h' tk hx E5 eG UE V5=>?_
  obtain⟨c₂,oc,vs,t,e2,Mn,hd,hv⟩:=UE;cases e2;have Lz:H c'=none:=I.cp.fresh E5;have Y2:c'≠P:=cy (bN (ar hp) E5);have cp:lZ X.prog X.w (upd H c' (.own P)) (h'.push (PySem.W.kla_obj nm q params body scope qE ((X.mg "__name__").getD .none) c' zF)):=by
   intro b u e;by_cases z:b=c'
   ·subst z;rw[aG]at e;cases e;exact⟨oc,aC _ Mn⟩
   ·rw[aj z]at e;by_cases zP:b=P
    ·subst zP;rw[hP]at e;cases e;refine⟨_,aC _ V5,?_,fun pos' v' ev=>?_⟩
     ·rw[Array.toList_append];exact yl tr
     ·rw[Array.toList_append]at ev;rcases vf tr ev with ev|rfl
      ·obtain⟨c₂,P_,Qa,UG,UH,f1,f2,f3,f4,f5⟩:=rec pos' v' ev;refine⟨c₂,P_,Qa,UG,UH,f1,f2,(aj fun z=>by rw[z,Lz]at f3;cases f3).trans f3,aC _ (hx _ _ (fun z=>?_) f4),f5⟩;rw[z,hP]at f3;cases f3
      ·exact⟨c',oc,vs,q,t,rfl,rfl,aG,aC _ Mn,hd,hv⟩
    ·refine(I.cp b u e).ma (fun d o Dl e'=>aC _ (hx d o (fun zd=>?_) e')) (fun d e'=>(aj fun zd=>by rw[zd,Lz]at e';cases e').trans e') fun d xs e'=>(aj fun zd=>by rw[zd,Lz]at e';cases e').trans e';rcases Dl with Dl|Dl
     ·exact zP (Dl.symm.trans zd)
     ·rw[zd,hP]at Dl;cases Dl
  have I1:Inv X pins σ (upd H c' (.own P)) {s with heap:=h'.push (PySem.W.kla_obj nm q params body scope qE ((X.mg "__name__").getD .none) c' zF),toks:=tk}:=by
   refine I.un (t':=tk) ⟨fun b o e n _ _=>aC _ (hx _ _ (fun z=>by rw[z,hP]at n;cases n) e),fun b o e n _ _=>⟨o.slots,aC _ (hx _ _ (fun z=>by rw[z,hP]at n;cases n) e)⟩,fun b o e n _=>(aj fun z=>by rw[z]at e;exact absurd (ar e) (Nat.not_lt.mpr E5)).trans n,fun b o e _=>?_,fun b xs e=>(aj fun z=>by rw[z,Lz]at e;cases e).trans e,fun b o u e=>(aj fun z=>by rw[z,Lz]at e;cases e).trans e,fun b ps e=>⟨#[],by rw[Array.append_empty];exact(aj fun z=>by rw[z,Lz]at e;cases e).trans e⟩⟩ cp;by_cases z:b=P
   ·exact⟨_,by rw[z];exact aC _ V5⟩
   ·exact⟨o,aC _ (hx _ _ z e)⟩
  have Mm:h'.objs.size≠c':=cy eG;refine h _ c' _ zF _ tk _ I1 (ax.upd Lz) ?_ ?_ (aU _ rfl) ⟨c',oc,vs,t,rfl,aC _ Mn,hd,hv⟩
  ·rw[aj Mm];refine I.cp.fresh (bx E5 (gf eG))
  ·exact bx E5 (gf eG)
end
end L2
namespace L2
open PySem PySem.Spec PySem.Calls PyProof.Rows
def iq(aD:List (List Key×Tr)):List Tr:=aD.map fun p=>.tup [p.2,.tup (p.1.map oo)]
def E6:Tr->Tr
 |.tup [_,k]=>k
 |_=>.cD
def wc:Tr->Rs Tr
 |.bj aD=>if yD (iq aD)=true/\((iq aD).all fun t=>(fK t).length==3)=true then .ok (.lst ((fB (iq aD)).map E6))else .bad
 |_=>.bad
def lC(x q:Str)(r:Rs Tr)(A:Ab):Rz Tr:=match(A[0]? :Option Ao)with
 |some (.tb x' q')=>if x'=x/\q'=q then aq (r.bind wc) A else .bad
 |_=>.bad
theorem zH{X:Cx}{H:Hp}{xc:Tr->Ab->Prop}{x q:Str}{ρ:az}{i:Nat}{A:Ab}{k:Tr->Ab->Prop}(h:dG xc (lC x q (au ρ i) A) k):A[0]?=some (.tb x q)/\∃aD,au ρ i=.ok (.bj aD)/\yD (iq aD)=true/\((iq aD).all fun t=>(fK t).length==3)=true/\k (.lst ((fB (iq aD)).map E6)) A:=by
 unfold lC at h;split at h
 ·rename_i x' q' e;obtain⟨⟨rfl,rfl⟩,h2⟩:=oj h
  clear h
  refine⟨e,?_⟩;cases e2:au ρ i with
  |bad=>rw[e2]at h2;exact(show False from h2).elim
  |exc c=>rw[e2]at h2;exact(show False from h2).elim
  |ok t=>
   rw[e2]at h2;have h4:dG xc (aq (wc t) A) k:=h2
   clear h2
   cases t with
   |bj aD=>
    by_cases z:yD (iq aD)=true/\((iq aD).all fun t=>(fK t).length==3)=true
    ·have e3:wc (.bj aD)=.ok (.lst ((fB (iq aD)).map E6)):=ab z;rw[e3]at h4;exact⟨aD,rfl,z.1,z.2,h4⟩
    ·have e3:wc (.bj aD)=.bad:=af z;rw[e3]at h4;exact(show False from h4).elim
   |_=>exact(show False from h4).elim
 ·exact(show False from h).elim
theorem E7{xs:List (List Key×Addr×Value)}(nd:(xs.map (·.1)).Nodup):∀{i:Nat} {x:List Key×Addr×Value},xs[i]?=some x->atKey xs x.1=some x.2:=by
 induction xs with
 |nil=>intro i x e;simp at e
 |cons y xs ih=>
  intro i x e;rw[aA,dX]at nd;unfold atKey;cases i with
  |zero=>
   cases e;rw[dY,bF rfl];rfl
  |succ i=>
   have e:xs[i]?=some x:=e
   have ff:¬y.1=x.1:=fun z=>nd.1 (by rw[z];exact List.mem_map_of_mem (bw e));rw[dY,bg ff];exact ih nd.2 e
section
variable {X:Cx}
theorem HI{d x Qb q:Str}{i:Nat}{c P:Addr}{p pd p1 p2 p3 p4 p5 kp pos LA:Pos}{n1:Nat}{params:Arguments}{scope:Scope}(hu:X.A.units+40<cLine)(Y3:X.A.depth+3<recursionLimit)(UI:PySem.W.tabIn X.K Qb=some (c,P))(UJ:CV X.K c P=true)(vg:X.env.code=.ref c)
  (hm:X.mg "sorted"=none) (hN:X.N[i]?=some d) (LB:X.env.scope.names.lookup d=some .cell) (S:E1 scope d x) (Mz:∀y∈scope.names,y.2=.free->y.1=d) (hq:X.env.qual++"<lambda>"=q)
  (LD:defaultsOf params X.env=([],[])) (xb:∀(nm qual:Str) (qE:List (Str×Addr)) (pm:Value) (c':Addr) (zF v:Value),bindArgs (PySem.W.kla_fn nm qual params (CU d x p1 p2 p3 p4 p5 n1) scope qE pm (.ref c') zF) ⟨[v],[]⟩=pure [(x,v)])
  (MJ:X.env.globals=mainGlobals) (hc:X.calm=true) (hg:Gl X "sorted") (UK:∀env:Env,(X.A.in1.in1.deeper env).units+1<cLine) (hk:X.env.kindOf d=some .cell):
  PE X (.Call (.Name "sorted" p) [.Name d pd] [⟨some "key",.Lambda params (CU d x p1 p2 p3 p4 p5 n1) scope LA,kp⟩] pos) (tE X fun ρ A=>lC Qb q (au ρ i) A):=by
 intro pins s σ H Q I ⟨B,A,ρ,ha,r,n,qq⟩;obtain⟨eA,aD,eg,ok,h3,k⟩:=zH (X:=X) (H:=H) qq;obtain⟨P',t9,Dl,⟨c',Je⟩,hP⟩:=ha.ob 0 _ eA;cases UI.symm.trans Je;obtain⟨v,t,ev,rv,et⟩:=xl (X:=X) (k:=fun t=>t=.bj aD) r (by rw[eg];rfl);subst et;obtain⟨da,aw,rfl,Ye,ek,rr⟩:=rv.vW;have Qc:Jw X.env.scope d:=Or.inr (Or.inl LB);obtain⟨m,hn,UB⟩:=id I.loc;obtain⟨u,ru,look⟩:=UB i d _ hN ev Qc;cases(show u=Value.ref da from ru);obtain⟨cell,wC,pM⟩:∃cell,X.env.cells.lookup d=some cell/\s.heap.IsCell cell (some (.ref da)):=by
  rcases look with⟨x9,_⟩|⟨_,cc,e1,e2⟩
  ·rw[hk]at x9;cases x9
  ·exact⟨cc,e1,e2⟩
 have UL:∀(Q':Value->Shared->Prop),Q' (.ref da) s->wpAny (model X.prog X.w) X.A (eval (.Name d pd) X.env) Q' X.xe s:=fun Q' Le=>h_ (rq I.ok.kind hk wC pM Le) S.dd;refine m8 (oW (u:=.builtin "sorted") I hg hm rfl ?_ (by decide) (by decide));refine callWith_kw ?_ (by rw[ba _ _ rfl];rfl) (cE (es:=[.Name d pd]) rfl)
 show wpAny _ _ (spliced ((false,eval (.Name d pd) X.env)::backTo pos (starEach [] X.env))) _ _ _;refine m7 (UL _ (rO ?_));refine kws_cons (PySem.W.kla_eval LD ?_);rw[hq];have kK:∀y∈scope.names,y.2=.free->∃c,X.env.cells.lookup y.1=some c:=fun y hy z=>by rw[Mz y hy z];exact⟨cell,wC⟩
 have sub:∀x c,(vD scope X.env).lookup x=some c->X.env.cells.lookup x=some c:=mh scope.names [] kK (fun x c e=>by simp at e);obtain⟨E8,Qd⟩:∃c,(vD scope X.env).lookup d=some c:=qW.mp (mi scope.names [] d (.inr (gI S.ld)));have Qe:E8=cell:=by have z:=sub d E8 Qd;rw[wC]at z;exact(Option.some.inj z).symm
 subst Qe;refine E4 I (E3 I.mod.MY UJ) I.mod.bm hP vg MJ (jC kK) fun f cd pm zF wG Yf H3 I3 sm Mm Y4 NG qf=>kws_nil ?_
 have LF:wG.IsCell E8 (some (.ref da)):=by
  obtain⟨m3,_,RK⟩:=I3.loc;obtain⟨u3,Yg,Qg⟩:=RK i d _ hN ev Qc;cases(show u3=Value.ref da from Yg);rcases Qg with⟨x9,_⟩|⟨_,cc,f1,f2⟩
  ·rw[hk]at x9;cases x9
  ·rw[wC]at f1;cases f1;exact f2
 have Qh:Rd H3 da (.dT aw):=(Ye.same aE).same sm;obtain⟨hz,UM,xs,rel,o,es,ep,g1,g2,g3,g4,g5⟩:=(show bQ X.prog X.w H3 wG da (.dT aw)from Qh.ok I3.cp);obtain⟨_,_,Xh,Yh,dd⟩:=w_ I3.cp Qh;have cp:∀x∈xs,(tupleKind (ay X.prog X.w)).is wG x.1 x.2.1:=by
  have all:∀{l:List (List Key×V)} {m:List (List Key×Addr×Value)},KT H3 l m->∀x∈m,(tupleKind (ay X.prog X.w)).is wG x.1 x.2.1:=by
   intro l m q
   induction q with
   |nil=>intro x hx;exact nomatch hx
   |@cons p q ps qs hq t ih=>
    intro x hx;rcases aN.mp hx with e|hx
    ·subst e;exact mf I3.cp (by rw[<-hq.1];exact hq.2.1)
    ·exact ih x hx
  exact all rel
 have dd:wG.DictOfH (tupleKind (ay X.prog X.w)) da xs:=⟨o,es,ep,g1,g2,g3,g4,cp,g5⟩;have UN:xs.length=aD.length:=by
  have z1:=Paired.length rel;have z2:=bJ List.length ek;rw[ah,ah]at z2;omega
 obtain⟨Yi,yF,nd,same⟩:=zz ok;have V6:(iq aD).length=aD.length:=by unfold iq;rw[ah]
 have Qi:∀(j:Nat) (xj:List Key×Addr×Value),xs[j]?=some xj->∃kt hh a b,aD[j]?=some kt/\kt.2=.int hh/\kt.1=[.inl a,.inl b]/\(iq aD)[j]?=some (.tup [.int hh,.tup [.int a,.int b]])/\xj.1=[.inl a,.inl b]/\(∃t,xj.2.2=.int hh t)/\H3 xj.2.1=some (.tup [.int a,.int b]):=by
  intro j xj ej;have hj:j<aD.length:=by rw[<-UN];exact(b_.mp ej).1
  have Jh:aD[j]?=some aD[j]:=aB hj
  generalize aD[j]=kt at Jh;have UO:(iq aD)[j]?=some (.tup [kt.2,.tup (kt.1.map oo)]):=by unfold iq;rw[aP,Jh];rfl
  have EI:=Yi _ (bw UO);have RK:(fK (.tup [kt.2,.tup (kt.1.map oo)])).length=3:=eq_of_beq (bG.mp h3 _ (bw UO));obtain⟨vk,UP,V7⟩:=zl rel ej;have e1:(aw.map (·.1))[j]?=some xj.1:=by rw[aP,UP];rfl
  rw[ek,aP,Jh]at e1;have qJ:kt.1=xj.1:=Option.some.inj e1;obtain⟨vv,V8,UQ⟩:=rr.get (i:=j) (t:=kt.2) (by rw[aP,Jh];rfl);rw[aP,UP]at V8;cases V8;obtain⟨k1,k2⟩:=kt;have qJ:k1=xj.1:=qJ;have UQ:Rep X.K (aT B H) vk k2:=UQ;unfold Hx at EI;split at EI
  ·rename_i a b e;rw[<-Option.some.inj EI]at RK;cases RK
  ·rename_i hh a b e;injection e with e
   injection e with e2 e
   injection e with e3 _
   injection e3 with e3
   have e2:k2=.int hh:=e2;subst e2;have Yj:k1=[.inl a,.inl b]:=by
    match k1,e3 with
    |[.inl x,.inl y],e3=>injection e3 with z1 z2;injection z2 with z2 _;injection z1 with z1;injection z2 with z2;rw[z1,z2]
    |[.inl x,.inr y],e3=>injection e3 with z1 z2;injection z2 with z2 _;cases z2
    |[.inr x,_],e3=>injection e3 with z1 z2;cases z1
   subst Yj;cases UQ.int_inv;have UR:RelV (.int hh) xj.2.2:=by
    have gen:∀{l:List (List Key×V)} {m:List (List Key×Addr×Value)},KT H3 l m->∀{j:Nat} {y:List Key×Addr×Value} {w':V} {kk:List Key},m[j]?=some y->l[j]?=some (kk,w')->RelV w' y.2.2:=by
     intro l m q
     induction q with
     |nil=>intro j y w' kk e;simp at e
     |@cons p q' ps qs hq t ih=>
      intro j y w' kk e1 e2;cases j with
      |zero=>cases e1;cases e2;exact hq.2.2
      |succ j=>exact ih (show qs[j]?=some y from e1) (show ps[j]?=some (kk,w')from e2)
    exact gen rel ej UP
   refine⟨_,hh,a,b,Jh,rfl,rfl,UO,qJ.symm,UR,?_⟩;rw[<-qJ]at V7;exact V7
  ·cases EI
 refine call_function_entry_kw kind_sorted plain_sorted entry_sorted (ksk_s1 _ _) ?_
 unfold Builtin.«sorted»;refine aa (m:=checkCount "sorted" 1 1 _) (ae ?_);have Hr:es.size=xs.length:=by rw[<-bq,g4,ah]
 refine aa (wb (A:=X.A.in1) (s:={s with heap:=wG,toks:=Yf}) (I3.ok.hd hc) UM g1 g2.1 g3 (by rw[Hr,bH];omega) fun h4 US UT=>?_);have Yk:es.toList.map (·.key)=xs.map fun x=>Value.ref x.2.1:=by rw[g4,bC];rfl
 rw[Yk];refine aa (kz ?_ (by rw[ah,bH];omega));have C7:(h4.push (seqObj "list" (xs.map fun x=>Value.ref x.2.1).toArray 0)).get? h4.objs.size=some (seqObj "list" (xs.map fun x=>Value.ref x.2.1).toArray 0):=aU _ rfl;have RG:∀{b:Addr} {o:Obj},wG.get? b=some o->b≠h4.objs.size:=fun{b o} e=>aM (ar (UT _ _ e));refine aa (cn (wpAny_call_entry_kw slot_list_sort ⟨_,C7,rfl⟩ entry_list_sort ?body (ksk_l1 _ _)))
 case body=>
  show wpAny _ X.A.in1.in1 (Builtin.«list.sort» ⟨[.ref h4.objs.size],[(Str.ofString "key",.ref f)]⟩) _ _ _;rw[ksk_t1];refine zG (s:={s with heap:=h4.push (seqObj "list" (xs.map fun x=>Value.ref x.2.1).toArray 0),toks:=US}) (ks:=(iq aD).map fK) (by show X.A.units+1+1<cLine;omega) C7 (by rw[ah,ah,V6,UN]) (by rw[ah];exact yF) nd same (fun j v' ky h1 ox C ej Jh Yl hC=>?_) fun h5 Ym c5 Yn Yo=>?_
  ·rw[aP]at ej;cases Qj:xs[j]? with
   |none=>rw[Qj]at ej;cases ej
   |some xj=>
    rw[Qj]at ej;cases ej;obtain⟨kt,hh,a,b,e1,e2,e3,e4,e5,⟨t5,e6⟩,e7⟩:=Qi j xj Qj;rw[aP,e4]at Jh;cases Jh;have LG:∀b o,wG.get? b=some o->h1.get? b=some o:=fun b o e=>Yl b o (RG e) (aC _ (UT b o e));refine E2 (s:={s with heap:=h1,toks:=ox}) UK (by show X.A.in1.in1.depth<recursionLimit;show X.A.depth<_;omega) ((I3.nolimit).keeps LG) (LG _ _ NG) (qf.keeps LG) (xb _ _ _ _ _ _) S Qd (by obtain⟨oc,ec,rc⟩:=id LF;exact⟨oc,LG _ _ ec,rc⟩) (pH LG dd) (gs (cp xj (bw Qj)) h1 LG) (E7 g5 Qj) fun h6 Yp tp V9 _ Tg=>hC h6 Yp _ V9 ?_
    show RJ h6 (.ref tp) hh a b;obtain⟨aZ,zc,⟨ot,t1,t2,nt,t3⟩,_⟩:=I3.tuple (.inl (.inl e7));obtain⟨w1,w2,rfl,⟨UU,rfl⟩,⟨UW,rfl⟩⟩:=vals2 zc;exact⟨tp,_,t5,0,.ref xj.2.1,rfl,Tg,rfl,by rw[e6],xj.2.1,ot,UU,UW,nt,rfl,V9 _ _ (LG _ _ t1),t2,t3⟩
  ·
   refine⟨_,rfl,ae ⟨_,rfl,?_⟩⟩;have J:Inv X pins σ H3 {s with heap:=h4,toks:=US}:=(I3.kept (t':=US) UT);have UX:H3 h4.objs.size=none:=J.fresh;have V_:HB B H3:=ha.hb.same sm;have Qk:((iq aD).map fK).length=xs.length:=by rw[ah,V6,UN]
   have I5:=J.laid (t':=Ym) (o:=.lst ((bU ((iq aD).map fK)).map fun j=>(xs.map fun x=>V.ref x.2.1).getD j .cD)) (h':=h5) (fun b o e=>Yn b o (aM (ar e)) (aC _ e)) (ak _) ⟨by rw[ah,(cS _).length_eq,fW,ah,bH];omega,_,c5,qQ fun j hj=>?_,Yo⟩
   ·refine⟨.ref h4.objs.size,_,I5,rfl,k _ B _ (.of (sm.trans (ax.upd UX))) (ha.same (sm.trans (ax.upd UX))) (.yY V_ UX ?_)⟩;rw[<-ve nd,bC];refine qN fun j hj=>?_
    have uo:=cF hj;rw[Qk]at uo;obtain⟨kt,hh,a,b,e1,e2,e3,e4,e5,_,e7⟩:=Qi j xs[j] (aB uo);show Rep _ _ ((xs.map fun x=>V.ref x.2.1).getD j .cD) (E6 ((iq aD).getD j .cD));rw[bb,bb,aP,aB uo,e4];exact .tup (V_.tup e7) (.cons (.int a) (.cons (.int b) .nil))
   ·have uo:=cF hj;rw[Qk]at uo;rw[bb,bb,aP,aP,aB uo];exact rfl
end
end L2
namespace L2
open PySem PySem.Spec PyProof.Rows PySem.W
def E9(K:Frag)(D:Addr):Bool:=decide (findIn K (.ref D) "__getattribute__"=some (some (.builtin "BaseException.__getattribute__")))&&(decide (findIn K (.ref D) "__getattr__"=some none)&&(decide (findIn K (.ref D) "__class__"=some (some (.builtin "object.__class__")))&&(decide (mroIn K D (.type "object")=some true)&&decide (mroIn K D (.type "BaseException")=some true))))
theorem HJ{K:Frag}{D:Addr}(h:E9 K D=true):O1 K D:=by
 unfold E9 at h;rw[aJ,aJ,aJ,aJ]at h;exact⟨cb h.1,cb h.2.1,cb h.2.2.1,cb h.2.2.2.1,cb h.2.2.2.2⟩
def Ql(K:Frag)(u:Value)(tab:List (Str×Bool)):Bool:=tab.all fun p=>decide (kitOne K (.ref (clsAt K p.1)) u=some p.2)
def Qm(K:Frag)(xs:List Str):Bool:=xs.all fun x=>E9 K (clsAt K x)&&(clsIn K (clsAt K x)).isSome
theorem pI{α:Type}{z:Str}:∀{l:List (Str×α)} {a:α},l.lookup z=some a->(z,a)∈l
 |[],_,h=>by cases h
 |(y,b)::l,a,h=>by
  rw[dq]at h;cases e:(z==y)with
  |true=>rw[e]at h;cases h;rw[eq_of_beq e];exact aS ..
  |false=>rw[e]at h;exact aO _ (pI h)
theorem LH{K:Frag}{u:Value}{tab:List (Str×Bool)}{xs:List Str}(h:Ql K u tab=true)(q:Qm K xs=true)(e:tab.map (·.1)=xs):IL K u tab:=⟨fun x b hx=>by
 have m:=pI hx;have h1:=cb (bG.mp h _ m);have mx:x∈xs:=by rw[<-e];exact List.mem_map_of_mem m
 have h2:=bG.mp q x mx;rw[aJ]at h2;exact⟨h1,HJ h2.1,h2.2⟩⟩
def Qn(K:Frag)(c:Str)(xs:List Str):Bool:=xs.all fun x=>decide (exmOne K (.ref (clsAt K x)) (.ref (clsAt K c))=some true)
theorem E_{K:Frag}{mg:Str->Option Value}{c:Str}{xs:List Str}(m:mg c=some (.ref (clsAt K c)))(h:Qn K c xs=true):AJ K mg c xs:=⟨m,fun x hx=>cb (bG.mp h x hx)⟩
theorem MK{P:List Value->Prop}(h:P []):∀us:List Value,us.length=0->P us
 |[],_=>h
theorem UY{P:List Value->Prop}{n:Nat}(h:∀a us,us.length=n->P (a::us)):∀us:List Value,us.length=n+1->P us
 |a::us,e=>h a us (Nat.succ.inj e)
theorem ML{P:List Value->Prop}(h:∀a,P [a]):∀us:List Value,us.length=1->P us:=UY fun a=>MK (P:=fun l=>P (a::l)) (h a)
theorem MM{P:List Value->Prop}(h:∀a b,P [a,b]):∀us:List Value,us.length=2->P us:=UY fun a=>ML (P:=fun l=>P (a::l)) (h a)
theorem Qo{P:List Value->Prop}(h:∀a b c,P [a,b,c]):∀us:List Value,us.length=3->P us:=UY fun a=>MM (P:=fun l=>P (a::l)) (h a)
end L2
namespace L2
open PySem PySem.Spec PyProof.Rows PySem.W
section
variable {K:Frag}{c m f:Str}{C:Addr}
def HK(K:Frag)(C:Addr):Bool:=plainGet K C Str.empty&&(hasDictIn K C&&(plainOver K C&&decide (findIn K (.ref C) "__setattr__"=some (some (.builtin "object.__setattr__")))))
theorem Fb(h:HK K C=true):Mq K C:=by
 unfold HK at h;rw[aJ,aJ,aJ]at h;exact⟨h.1,h.2.1,h.2.2.1,cb h.2.2.2⟩
def UZ(K:Frag)(C:Addr)(fs:List Str):Bool:=fs.all fun f=>decide (findIn K (.ref C) f=some none)
end
end L2
namespace L2
open PySem PySem.Spec PyProof.Rows PySem.W
structure Df where
 c:Option Str
 x:Str
 q:Str
 st:Stmt
 ps:List Str
def Yq(K:Frag)(c m:Str):Addr:=match findIn K (.ref (clsAt K c)) m with
 |some (some (.ref a))=>a
 |_=>0
def Qp(K:Frag)(a:Addr):FuncData:=match K.lookup a with
 |some ⟨_,_,.func d,_⟩=>d
 |_=>default
def U0(K:Frag)(a:Addr):Bool:=match K.lookup a with
 |some ⟨_,_,.func _,_⟩=>true
 |_=>false
theorem LI{K:Frag}{a:Addr}(h:U0 K a=true):∃oc od z8,K.lookup a=some ⟨oc,od,.func (Qp K a),z8⟩:=by
 unfold U0 at h;unfold Qp;split at h
 ·rename_i e;rw[e];exact⟨_,_,_,rfl⟩
 ·cases h
namespace Df
def adr(K:Frag)(d:Df):Addr:=match d.c with
 |none=>clsAt K d.x
 |some c=>Yq K c d.x
def fd(K:Frag)(d:Df):FuncData:=Qp K (d.adr K)
def re(d:Df)(f:FuncData):FuncData:=fnOf d.x d.q (qG d.st) (dv d.st) (aF d.st) .none f.kwdefaults f.doc f.pyModule f.annotations f.code f.closureTuple
def isAt(K:Frag)(d:Df):Bool:=match d.c with
 |none=>decide (nsIn K mainGlobals d.x=some (some (.ref (d.adr K))))
 |some c=>decide (findIn K (.ref (clsAt K c)) d.x=some (some (.ref (d.adr K))))&&(isFn K (.ref (d.adr K))&&HK K (clsAt K c))
def Ji(K:Frag)(d:Df):Bool:=U0 K (d.adr K)&&(codeIn K (d.fd K).code d.q&&(keepIn K (.ref (d.adr K))&&d.isAt K))
structure Ok(K:Frag)(mg:Str->Option Value)(d:Df):Prop where
 fn:uf K d.x d.q d.st (d.adr K) (d.fd K)
 m0:d.c=none->mg d.x=some (.ref (d.adr K))
 m1:∀c,d.c=some c->Meth K (clsAt K c) d.x (d.adr K)/\Mq K (clsAt K c)
theorem of{K:Frag}{mg:Str->Option Value}{d:Df}{h:Heap}(X:K.In h)(G:h.Ns mainGlobals mg)(e:d.fd K=d.re (d.fd K))(k:d.Ji K=true):d.Ok K mg:=by
 unfold Ji at k;rw[aJ,aJ,aJ]at k;obtain⟨k1,k2,k3,k4⟩:=k;obtain⟨oc,od,z8,l⟩:=LI k1;refine⟨⟨⟨oc,od,_,_,_,_,_,_,z8,e,l,k2⟩,k3⟩,fun z=>?_,fun c z=>?_⟩<;>unfold isAt at k4<;>rw[z]at k4
 ·exact mg_of X G (cb k4)
 ·rw[aJ,aJ]at k4;exact⟨⟨cb k4.1,k4.2.1,k3⟩,Fb k4.2.2⟩
end Df
theorem Fc{K:Frag}{mg:Str->Option Value}{h:Heap}(X:K.In h)(G:h.Ns mainGlobals mg):∀{ds:List Df},ds.map (Df.fd K)=ds.map (fun d=>d.re (d.fd K))->ds.all (Df.Ji K)=true->∀d∈ds,d.Ok K mg
 |[],_,_,d,m=>nomatch m
 |a::ds,e,k,d,m=>by
  rw[hJ,aJ]at k;rw[aA,aA]at e;injection e with e1 e2
  rcases aN.mp m with rfl|m
  ·exact Df.of X G e1 k.1
  ·exact Fc X G e2 k.2 d m
section
variable {P:Program}{w:World}{K:Frag}{mg:Str->Option Value}{base:Heap}{d:Df}{N:List Str}{k n:Nat}
structure ym(P:Program)(w:World)(K:Frag)(mg:Str->Option Value)(base:Heap)(CX:yQ)(n:Nat)(d:Df)(sp:Sp):Prop where
 ok:ia P w K mg base CX n (d.adr K) (d.fd K) d.ps sp
 bd:Binds K (d.fd K) d.ps []
 df:d.Ok K mg
abbrev Qq(d:Df):Prop:=∀(kV doc pm:Value) (an:Option Addr) (du ct:Value) (us:List Value),us.length=d.ps.length->bindArgs (fnOf d.x d.q (qG d.st) (dv d.st) (aF d.st) .none kV doc pm an du ct) ⟨us,[]⟩=pure (d.ps.zip us)
abbrev RL(CX:yQ)(P:Program)(w:World)(K:Frag)(mg:Str->Option Value)(base:Heap)(N:List Str)(d:Df):=jZ CX P w K mg base N d.q (aF d.st) (d.adr K)
abbrev Be(K:Frag)(d:Df)(k:Nat)(du:Value)(A:Around)(s:Shared):Prop:=dE k (A.deeper (envOfC d.q (aF d.st) s.heap.objs.size (d.adr K) du))
theorem LJ(N:List Str){a b:Nat}{G:az->Ab->Rz Out}(D:d.Ok K mg)(hb:N.Nodup->∀du A outer s H E,Be K d k du A s->ZB (RL (t7 P w) P w K mg base N d du A outer s H E) (dv d.st) G)(S:d0 N d.ps (aF d.st):=by exact⟨rfl,rfl,rfl,by decide+kernel,rfl,by decide+kernel,by decide+kernel⟩) (B:Qq d:=by exact fun _ _ _ _ _ _=>by first|exact MK rfl|exact ML fun _=>rfl|exact MM fun _ _=>rfl|exact Qo fun _ _ _=>rfl|exact RM fun _ _ _ _=>rfl|exact RN fun _ _ _ _ _=>rfl) (ha:d.ps.length=a:=by rfl) (hn:N.length=b:=by rfl):
  ym P w K mg base (t7 P w) (k+1) d (yC K (oq a b G)):=by
 subst ha;subst hn;exact⟨uf.Tt D.fn S (fun ts A e=>sG e) fun du A outer s H E hr=>⟨G,hb S.nd du A outer s H E hr,fun ts A e=>AH e⟩,D.fn.binds B,D⟩
theorem LK(N:List Str){a b:Nat}{G:az->Rs Out}(D:d.Ok K mg)(hb:N.Nodup->∀du A outer s H E,Be K d k du A s->QB (RL oS P w K mg base N d du A outer s H E).C8 (dv d.st) G)(S:d0 N d.ps (aF d.st):=by exact⟨rfl,rfl,rfl,by decide+kernel,rfl,by decide+kernel,by decide+kernel⟩) (B:Qq d:=by exact fun _ _ _ _ _ _=>by first|exact MK rfl|exact ML fun _=>rfl|exact MM fun _ _=>rfl|exact Qo fun _ _ _=>rfl|exact RM fun _ _ _ _=>rfl|exact RN fun _ _ _ _ _=>rfl) (ha:d.ps.length=a:=by rfl) (hn:N.length=b:=by rfl):
  ym P w K mg base oS (k+1) d (spT K (FL a b G)):=by
 subst ha;subst hn;exact⟨uf.Xk D.fn S (fun ts t e=>GR e) fun du A outer s H E hr=>⟨G,hb S.nd du A outer s H E hr,fun ts t e=>Kv e⟩,D.fn.binds B,D⟩
theorem LL(N:List Str){a b:Nat}{G:az->Ab->Rz Out}(D:d.Ok K mg)(hb:N.Nodup->∀du A outer s H E,Be K d k du A s->ZB (RL oS P w K mg base N d du A outer s H E).C8 (dv d.st) G)(S:d0 N d.ps (aF d.st):=by exact⟨rfl,rfl,rfl,by decide+kernel,rfl,by decide+kernel,by decide+kernel⟩) (B:Qq d:=by exact fun _ _ _ _ _ _=>by first|exact MK rfl|exact ML fun _=>rfl|exact MM fun _ _=>rfl|exact Qo fun _ _ _=>rfl|exact RM fun _ _ _ _=>rfl|exact RN fun _ _ _ _ _=>rfl) (ha:d.ps.length=a:=by rfl) (hn:N.length=b:=by rfl):
  ym P w K mg base oS (k+1) d (spT K (uj a b G)):=by
 subst ha;subst hn;exact⟨uf.Ts D.fn S (fun ts t e=>D4 e) fun du A outer s H E hr=>⟨G,hb S.nd du A outer s H E hr,fun ts t e=>G1 e⟩,D.fn.binds B,D⟩
theorem U1(D:d.Ok K mg)(B:Qq d:=by exact fun _ _ _ _ _ _=>by first|exact MK rfl|exact ML fun _=>rfl|exact MM fun _ _=>rfl|exact Qo fun _ _ _=>rfl|exact RM fun _ _ _ _=>rfl|exact RN fun _ _ _ _ _=>rfl):ym P w K mg base oS k d (spT K fun _=>.bad):=
 ⟨⟨fun vs H Q E ⟨_,ts,_,_,t,e,_⟩=>(nomatch e),fun A outer s H args us vs Q E _ _ _ _ ⟨_,ts,_,_,t,e,_⟩=>(nomatch e)⟩,D.fn.binds B,D⟩
theorem ym.da {CX:yQ}{sp:Sp}{x:Str}(C:ym P w K mg base CX n d sp)(hc:d.c=none)(hx:d.x=x)(hq:d.q=x):uH K mg x d.st d.ps (d.adr K) (d.fd K):=
 ⟨by have f:=C.df.fn;rw[hx,hq]at f;exact f,C.bd,by have m:=C.df.m0 hc;rw[hx]at m;exact m⟩
structure U2(K:Frag)(mg:Str->Option Value)(c:Str):Prop where
 m:makesIn K (clsAt K c)=true
 k:keepIn K (.ref (clsAt K c))=true
 g:mg c=some (.ref (clsAt K c))
end
section
variable {X:Cx}{d:Df}{n k:Nat}{o e l:Expr}{es:List Expr}{p kp pos apos:Pos}{x c m:Str}
section
variable {F O:az->Rs Tr}{L:az->Rs (List Tr)}{h:List Tr->Rs Tr}(C:ym X.prog X.w X.K X.mg X.base oS n d (spT X.K h))
include C
theorem gG(hr:dE k X.A)(ha:QA X (e::es) L)(hn:n<=k:=by first|decide|omega) (hc:d.c=none:=by rfl) (hx:d.x=x:=by rfl) (hq:d.q=x:=by rfl) (hg:Gl X x:=by rfl) (jA:(x==("__debug__":Str))=false:=by decide) (dD:bt (e::es)=true:=by rfl):QE X (.Call (.Name x p) (e::es) [] pos) (fun ρ=>aL h (L ρ)):=
 O4 (C.da hc hx hq) (C.ok.mono hn) hr ha hg jA dD
end
section
variable {F:az->Ab->Rz Tr}{L:az->Ab->Rz (List Tr)}{h:List Tr->Ab->Rz Tr}(C:ym X.prog X.w X.K X.mg X.base (t7 X.prog X.w) n d (yC X.K h))
include C
theorem jX(hr:dE k X.A)(ha:ZL X (e::es) L)(hn:n<=k:=by first|decide|omega) (hc:d.c=none:=by rfl) (hx:d.x=x:=by rfl) (hq:d.q=x:=by rfl) (he:X.ex=[]:=by rfl) (hg:Gl X x:=by rfl) (jA:(x==("__debug__":Str))=false:=by decide) (dD:bt (e::es)=true:=by rfl):ZE X (.Call (.Name x p) (e::es) [] pos) (fun ρ A=>(L ρ A).bind h):=
 O9 (C.da hc hx hq) (C.ok.mono hn) hr ha he hg jA dD
end
end
end L2
namespace L2
open PySem PySem.Spec PyProof.Rows PySem.W
theorem Qr{k:Nat}{A:Around}(hr:dE k A):A.units+4<cLine:=by have:=hr.un;omega
theorem Yr{k:Nat}{A:Around}(hr:dE k A):A.units+6<cLine:=by have:=hr.un;omega
structure TabAt(K:Frag)(x:Str)(c P:Addr):Prop where
 t:tabIn K x=some (c,P)
 h:CV K c P=true
theorem Fd{K:Frag}{x:Str}{c P:Addr}(h:tabIn K x=some (c,P)):(Qp K (clsAt K x)).code=.ref c:=by
 unfold tabIn at h;unfold Qp clsAt;split at h
 ·rename_i f hf;rw[hf];split at h
  ·rename_i fd _ NG;show(match K.lookup f with|some ⟨_,_,.func d,_⟩=>d|_=>default).code=_;rw[NG];split at h
   ·rename_i c' hc;split at h
    ·split at h
     ·cases h;exact hc
     ·cases h
    ·cases h
   ·cases h
  ·cases h
 ·cases h
section
variable {P:Program}{w:World}{K:Frag}{mg:Str->Option Value}{base:Heap}{d:Df}{N:List Str}{k n:Nat}
theorem Qs(N:List Str){a b:Nat}{G:az->Ab->Rz Out}(D:d.Ok K mg)(hb:N.Nodup->∀du A outer s H E,du=(d.fd K).code->Be K d k du A s->ZB (RL (t7 P w) P w K mg base N d du A outer s H E) (dv d.st) G)(S:d0 N d.ps (aF d.st):=by exact⟨rfl,rfl,rfl,by decide+kernel,rfl,by decide+kernel,by decide+kernel⟩) (B:Qq d:=by exact fun _ _ _ _ _ _=>by first|exact MK rfl|exact ML fun _=>rfl|exact MM fun _ _=>rfl|exact Qo fun _ _ _=>rfl|exact RM fun _ _ _ _=>rfl|exact RN fun _ _ _ _ _=>rfl) (ha:d.ps.length=a:=by rfl) (hn:N.length=b:=by rfl):
  ym P w K mg base (t7 P w) (k+1) d (yC K (oq a b G)):=by
 subst ha;subst hn;refine⟨?_,D.fn.binds B,D⟩;obtain⟨oc,od,kV,doc,pm,an,du,ct,z8,e9,lk,qf⟩:=D.fn.ex;have Ys:du=(d.fd K).code:=by rw[e9]
 rw[e9]at lk⊢;have nb:∀{B:bZ} {A:Ab} {H:Hp} {E:XK} {ts:List Tr} {k:Tr->Ab->Prop},dG (To K B H E) (oq d.ps.length N.length G ts A) k->oq d.ps.length N.length G ts A≠ .bad:=fun{B A H E ts k} q z=>by rw[z]at q;exact q
 refine DB lk qf S (fun vs H Q E ⟨B,A,ts,ha,r,q⟩=>by rw[r.length];exact sG (nb q)) fun A outer s H vs Q E hr ⟨B,A1,ts,ha,r,q⟩=>?_
 have hG:=(hb S.nd du A outer s H E Ys hr).h;refine⟨_,hG,B,H,B,A1,startT N.length ts,ha.hb,.refl,ha,bu.start r,my,?_⟩;rw[AH (nb q)]at q;refine(dG.bind q).imp (fun c A2 z B' H' g dQ e s x=>xA x (z B' H' g dQ))|>.mono fun o A2 z=>?_
 cases o with
 |nx ρ=>exact fun cf B' H' g dQ r' n'=>z .cD B' H' g dQ .cD
 |ret t=>exact fun v B' H' g dQ r'=>z v B' H' g dQ r'
 |bk ρ=>exact(show False from z).elim
 |ct ρ=>exact(show False from z).elim
end
theorem HL{X:Cx}{d x Qb q:Str}{c P:Addr}{p pd p1 p2 p3 p4 p5 kp pos LA:Pos}{n1 k:Nat}{params:Arguments}{scope:Scope}(i:Nat)(hr:dE (k+2) X.A)(T:TabAt X.K Qb c P)(vg:X.env.code=.ref c)(hm:X.mg "sorted"=none)(hN:X.N[i]?=some d:=by rfl) (LB:X.env.scope.names.lookup d=some .cell:=by rfl)
  (S:E1 scope d x:=by exact⟨rfl,rfl,rfl,rfl,rfl,by decide,by decide,by decide,by decide⟩) (Mz:∀y∈scope.names,y.2=.free->y.1=d:=by decide) (hq:X.env.qual++"<lambda>"=q:=by rfl)
  (LD:defaultsOf params X.env=([],[]):=by rfl) (xb:∀(nm qual:Str) (qE:List (Str×Addr)) (pm:Value) (c':Addr) (zF v:Value),bindArgs (PySem.W.kla_fn nm qual params (CU d x p1 p2 p3 p4 p5 n1) scope qE pm (.ref c') zF) ⟨[v],[]⟩=pure [(x,v)]:=by exact fun _ _ _ _ _ _ _=>rfl)
  (MJ:X.env.globals=mainGlobals:=by rfl) (hc:X.calm=true:=by rfl) (hg:Gl X "sorted":=by rfl) (hk:X.env.kindOf d=some .cell:=by rfl):
  ZE X (.Call (.Name "sorted" p) [.Name d pd] [⟨some "key",.Lambda params (CU d x p1 p2 p3 p4 p5 n1) scope LA,kp⟩] pos) (fun ρ A=>lC Qb q (au ρ i) A):=
 ⟨HI (o8 hr) (by have:=hr.dp;omega) T.t T.h vg hm hN LB S Mz hq LD xb MJ hc hg (fun env=>by have:=hr.un;show X.A.units+1+1+3+1<cLine;omega) hk⟩
end L2
namespace L2
open PySem PySem.Spec PySem.Calls PyProof.Rows
def CW(r:Rz Tr):Rz (List Tr):=r.bind fun t A=>match t with
 |.tup ts=>.ok ts A
 |_=>.bad
section
variable {X:Cx}{tg iter:Expr}{body:List Stmt}{T:j3}{G:az->Ab->Rz Out}{pos:Pos}
inductive U3(X:Cx)(F:az->Ab->Rz Tr)(σ:St)(H:Hp)(R:It->Hp->Prop):Prop
 |mk (B:bZ) (A:Ab) (ρ:az):HA X.K B A H->bu X.K B H σ ρ->dR ρ->(dG (XE X B H) (F ρ A) fun t A'=>∃ts,t=.tup ts/\∀J B' H',Grows B H B' H'->HA X.K B' A' H'->jQ X.K B' J H' ts->R J H')->U3 X F σ H R
theorem LM{F:az->Ab->Rz Tr}(h:PE X iter (tE X F)):PI X tg iter (U3 X F):=by
 intro pins s σ H R I ⟨B,A,ρ,ha,r,n,q⟩;refine eE (h pins s σ H (fun x H1=>∃a vs,x=.ref a/\ir X.K H1 a vs/\R (Sj X.K a) H1) I ⟨B,A,ρ,ha,r,n,q.mono fun t A1 ⟨ts,et,k⟩ v B1 H1 g1 iP rv=>?_⟩) fun v s1 ⟨x,H1,I1,r1,a,vs,ex,e1,k⟩=>?_
 ·subst et;obtain⟨a,vs,rfl,h,rr⟩:=rv.cZ;exact⟨a,vs,rfl,ax.tup aE h,k _ B1 H1 g1 iP (uL h rr)⟩
 ·subst ex;cases r1;obtain⟨aZ,rv,p,hz⟩:=I1.tuple e1;refine i4 (show s1.heap.IsTuple a aZ.toArray from p) ⟨s1.heap.objs.size,[s1.heap.objs.size],_,_,H1,rfl,I1.kept (t':=s1.toks) fun b o e=>aC _ e,rV a _,⟨_,aU _ rfl,rfl,rfl⟩,fun b hb=>?_,k⟩;rw[cB.mp hb];exact I1.ua (ak _) (I1.cp.fresh (ak _))
end
end L2
namespace L2
open PySem PySem.Spec PySem.Calls PyProof.Rows
def CY(ix:List (Option Nat))(T:j3)(A:az->Rs Bool)(F:az->Rs Tr)(r:Rz (List Tr))(ρ:az):Rz Tr:=r.bind fun ts A'=>aq (iD ix T A F (.ok ts) ρ) A'
section
variable {X:Cx}{tg iter elt:Expr}{ifs:List Expr}{T:j3}{A:az->Rs Bool}{F:az->Rs Tr}{F0:az->Ab->Rz Tr}{pos:Pos}{ix:List (Option Nat)}{scope:Scope}{N':List Str}
theorem C0{σ:St}{H:Hp}{Q:VK}(hT:gK T)(q:tE X (fun ρ A'=>CY ix T A F (CW (F0 ρ A')) ρ) σ H Q):J_ (U3 X F0) ix (GB X.K T) (GA X.K A) (Gz X.K F) σ H Q:=by
 obtain⟨B,A',ρ,ha,r,n,q⟩:=q;refine⟨B,A',ρ,ha,r,n,(dG.bind (dG.bind q)).mono fun t A1 qt=>?_⟩;have key:∃ts,t=.tup ts/\dG (XE X B H) (aq (iD ix T A F (.ok ts) ρ) A1) fun t A2=>∀v B' H',Grows B H B' H'->HA X.K B' A2 H'->Rep X.K (aT B' H') v t->Q v H':=by
  split at qt
  ·exact⟨_,rfl,qt⟩
  ·exact(show False from qt).elim
 obtain⟨ts,et,qt⟩:=key;refine⟨ts,et,fun J B1 H1 g1 iP gt D hD=>?_⟩;have ql:Fi X H (if ts.length<=ji then(mq T A F ts (l5 ix ρ)).bind fun ys=>Rs.ok (Tr.lst ys)else .bad) (fun t=>∀v B' H',Grows B H B' H'->HA X.K B' A1 H'->Rep X.K (aT B' H') v t->Q v H'):=ij (X:=X) qt;by_cases hz:ts.length<=ji
 ·rw[ab hz]at ql;exact nZ hT (nY ix ρ) iP.hb gt hz ((r.grow n g1).comp ix (ic hD)) hD (Fi.bind ql) fun ys H' k s' rp=>k _ B1 H' (g1.trans ha.hb (.of s')) (iP.same s') rp
 ·rw[af hz]at ql;exact(show False from ql).elim
end
end L2
namespace L2
open PySem PySem.Spec PySem.Calls PyProof.Rows
theorem Yt{k:Nat}{A:Around}(hr:dE k A):A.units+8<cLine:=by have:=hr.units;omega
theorem Qt{k:Nat}{A:Around}(hr:dE k A):A.units+44<cLine:=by have:=hr.units;omega
section
variable {prog:Program}{w:World}{A:Around}{E:Value->Shared->Prop}
theorem vh{it l:Addr}{items:Array Value}(W:Walks prog w A it [it,l] [it] items.size (fun i v=>items[i]?=some v) (fun i h=>h.IsListIter it l i/\h.IsList l items)):∀(n i:Nat) (s:Shared) (Q:List Value->Shared->Prop),s.heap.IsListIter it l i/\s.heap.IsList l items->i+n<=items.size->
  (∀h' tk,(h'.IsListIter it l (i+n)/\h'.IsList l items)->(∀b o,b≠it->s.heap.get? b=some o->h'.get? b=some o)->Q ((items.toList.drop i).take n) {s with heap:=h',toks:=tk})->wpAny (model prog w) A (draw (.ref it) n) Q E s
 |0,i,s,Q,hit,_,hQ=>by
  show wpAny _ _ (pure []) Q E s;exact ae (by simpa using hQ s.heap s.toks hit (fun b o _ e=>e))
 |n+1,i,s,Q,hit,hle,hQ=>by
  have eG:i<items.size:=by omega
  show wpAny _ _ (pyNext (.ref it)>>=_) Q E s;refine aa (W.item i s _ _ eG hit fun v h1 ox hv dD kk=>?_);refine aa (cn (vh W n (i+1) _ _ dD (by omega) fun kL Ja LN Qu=>ae ?_));have Lu:items[i]=v:=by rw[bV eG]at hv;exact Option.some.inj hv
  have hd:items.toList.drop i=v::items.toList.drop (i+1):=by rw[<-Lu];simp[lI,eG]
  have:=hQ kL Ja (by rw[show i+(n+1)=i+1+n by omega];exact LN) (fun b o hb e=>Qu b o hb (kk b o (by simpa using hb) e));rw[hd,List.take_succ_cons]at this;exact this
theorem oG{s:Shared}{env:Env}{elts:List Expr}{x1}{pos:Pos}{l:Addr}{items:Array Value}{Q:Unit->Shared->Prop}(hh:A.handled=none)(hl:s.heap.IsList l items)
  (hn:(assignEach elts env).length=items.size) (Qv:(assignEach elts env).findIdx? (·.1)=none)
  (h:∀h' tk,(∀b o,s.heap.get? b=some o->h'.get? b=some o)->wpAny (model prog w) A (assignInOrder ((assignEach elts env).map (·.2)) items.toList) Q E {s with heap:=h',toks:=tk}):
  wpAny (model prog w) A (assign (.Tuple elts x1 pos) env (.ref l)) Q E s:=by
 have eG:l≠s.heap.objs.size:=by obtain⟨o,ho,_⟩:=hl;exact aM (ar ho)
 rw[assign_Tuple];refine aa (wpAny_standAt ?_);unfold unpack;rw[hn,Qv];refine aa (cn ?_);unfold unpackItems notIterableAtAll;refine aa (aa (g8 hl.typeIs F.slot_list_iter.lookup ?_));refine ae ?_
 simp only[aV,aR];refine aa (cn (i6 hl ?_));have W:=Walks.list (prog:=prog) (w:=w) hh s.heap.objs.size l eG items;refine aa (cn (vh W items.size 0 _ _ ⟨⟨_,aU _ rfl,rfl,rfl⟩,hl.push _⟩ (by omega) fun dP ox Fe Qw=>?_));have fO:List.take items.size (List.drop 0 items.toList)=items.toList:=by
  rw[List.drop_zero];exact mR (by simp)
 rw[fO];rw[af (by simp)];rw[hX]at Fe;refine aa (cn (W.done _ _ _ Fe fun kL Ja Qx=>?_));simp only[Option.isSome_none,aV,aR];refine ae (h kL Ja fun b o e=>?_);have hb:b≠s.heap.objs.size:=aM (ar e);exact Qx b o (by simpa using hb) (Qw b o hb (aC _ e))
end
def Bf(is:List Nat)(r:Rz Tr)(ρ:az):Rz Out:=r.bind fun t A=>match t with
 |.at j=>match A[j]? with
  |some (.lst us)=>(aq (uK is us ρ) A).bind fun eS A=>.ok (.nx eS) A
  |_=>.bad
 |_=>.bad
section
variable {X:Cx}{e:Expr}{F:az->Ab->Rz Tr}{pos:Pos}
def U4(n:Nat)(t:F4):TG:=fun v σ H Q=>∃a xs,v=.ref a/\H a=some (.lst xs)/\xs.length=n/\t xs σ H Q
theorem LO{es:List Expr}{k:Nat}{t:F4}{n:Nat}(hc:X.calm=true)(h:FG X es t)
  (hn:(assignEach es X.env).length=n:=by rfl) (dD:(assignEach es X.env).findIdx? (·.1)=none:=by rfl):PG X (.Tuple es k pos) (U4 n t):=by
 intro pins s σ H v u Q I r hw;obtain⟨a,xs,e1,hq,hl,hw⟩:=hw;subst e1;cases r;obtain⟨aZ,rv,ht,hz⟩:=I.list (iS.of hq);refine oG (I.ok.hd hc) ht.isList (by simp[hn,<-hl,rv.length]) dD fun h' tk hx=>?_
 exact h pins _ σ H xs _ Q (I.kept (t':=tk) hx) (by simpa using rv) hw
theorem HM{es:List Expr}{k:Nat}{is:List Nat}{nT:Pos}(h:O3 X es (uK is))(he:ZE X e F)(hc:X.calm=true:=by rfl) (hn:(assignEach es X.env).length=is.length:=by rfl) (dD:(assignEach es X.env).findIdx? (·.1)=none:=by rfl)
  (hs:swapsWithSole [.Tuple es k nT] e pos.line X.env=pure false:=by rfl) (hw:swappedStores [.Tuple es k nT] e X.env=pure none:=by rfl) (h1:(assignEach [.Tuple es k nT] X.env).map (·.2)=[assign (.Tuple es k nT) X.env]:=by rfl):
  ZS X (.Assign [.Tuple es k nT] e pos) (fun ρ A=>Bf is (F ρ A) ρ):=
 ⟨(JC he.h (LO hc h.h hn dD) hs hw h1).weak fun D σ H ⟨B0,H0,B,A,ρ,hb,g,ha,r,n,q⟩=>ik hb g ha r n q.bind fun t A' v B' H' qt g' dQ r' rv _=>by
   have key:∃j us,t=.at j/\A'[j]?=some (.lst us)/\dG (XE X B0 H0) ((aq (uK is us ρ) A').bind fun eS A=>.ok (.nx eS) A) (kZ X D B0 H0):=by
    split at qt
    ·rename_i j;split at qt
     ·rename_i us ej;exact⟨j,us,rfl,ej,qt⟩
     ·exact qt.elim
    ·exact qt.elim
   obtain⟨j,us,rfl,ej,qt⟩:=key;obtain⟨a,rfl,t9⟩:=rv.sv;obtain⟨vs,q1,q2⟩:=Et dQ t9 ej;cases eg:uK is us ρ with
   |exc c=>exact(o6 eg).elim
   |bad=>rw[eg]at qt;exact(show False from qt).elim
   |ok eS=>
    rw[eg]at qt;refine⟨a,vs,rfl,q1,by rw[q2.length];exact vI eg,B',ρ,us,dQ.hb,r',q2,?_⟩;rw[eg];exact fun rX H2 s2 r2=>qt rX B' H2 (g'.trans hb (.of s2)) (dQ.same s2) r2 (vJ n eg)⟩
end
section
variable {X:Cx}{e:Expr}{F:az->Ab->Rz Tr}{pos:Pos}
theorem LP{i:Nat}{x:Str}{px:Pos}(he:ZE X e F)(hN:X.N.Nodup:=by assumption) (hi:X.N[i]?=some x:=by rfl) (hx:Loc X.env.scope x:=by first|exact Or.inl rfl|exact Or.inr rfl) (hs:swapsWith e (some (.Name x px)) pos.line X.env=pure false:=by rfl) (hf:X.fn x=true\/X.env.scope.names.lookup x=some .local:=by first|exact .inl rfl|exact .inr rfl|assumption):
  ZS X (.Assign [.Name x px] e pos) (fun ρ A=>cR i (F ρ A) ρ):=
 ⟨(yH hN hi hx he.h hs hf).weak fun D σ H ⟨B0,H0,B,A,ρ,hb,g,ha,r,n,q⟩=>ik hb g ha r n q.bind fun t A' v B' H' qt g' dQ r' rv _=>qt _ B' H' g' dQ (r'.set i rv) (n.set i t)⟩
end
section
variable {X:Cx}{tg iter elt:Expr}{ifs:List Expr}{T:j3}{A:az->Rs Bool}{F:az->Rs Tr}{F0:az->Ab->Rz Tr}{pos:Pos}{ix:List (Option Nat)}{scope:Scope}{N':List Str}
theorem Qy(Lk:fL X N' ix scope)(hit:ZE X iter F0)(j1:xG X scope N' tg elt ifs T A F)(hT:gK T)(hc:X.calm=true:=by rfl) (hs:isSet iter=false:=by rfl):
  ZE X (.ListComp elt [⟨tg,iter,ifs,0⟩] scope pos) (fun ρ A'=>CY ix T A F (CW (F0 ρ A')) ρ):=
 ⟨(Af Lk hc (LM hit.h) j1.to.Mx (dF hs)).weak fun σ H Q q=>C0 hT q⟩
end
def MN(r:Rz Bool)(k:Ab->Rz Bool):Rz Bool:=r.bind fun c A=>if c then .ok true A else k A
section
variable {X:Cx}{a b c:Expr}{rest:List Expr}{pos:Pos}{P R S:az->Ab->Rz Bool}
theorem pw_orZ(h1:PT X a (D0 X P))(h2:PW X (.BoolOp .Or (b::rest) pos) (D0 X R)):PW X (.BoolOp .Or (a::b::rest) pos) (D0 X fun ρ A=>MN (P ρ A) (R ρ)):=
 (pw_or h1 h2).weak fun σ H Q ⟨B,A,ρ,ha,r,n,q⟩=>⟨B,A,ρ,ha,r,n,(dG.bind q).mono fun c A1 qc B1 H1 g1 iP=>by
  cases c with
  |false=>exact⟨B1,A1,ρ,iP,r.grow n g1,n,((show dG (XE X B H) (R ρ A1) _ from qc).imp fun c A' x=>x.grow ha.hb g1).mono fun b A2 qb B2 H2 g2 vO=>qb B2 H2 (g1.trans ha.hb g2) vO⟩
  |true=>exact(show∀B' H',Grows B H B' H'->HA X.K B' A1 H'->Q true H' from qc) B1 H1 g1 iP⟩
theorem LQ(h1:ZT X a P)(h2:ZT X b R)(h3:ZT X c S):ZT X (.BoolOp .Or [a,b,c] pos) (fun ρ A=>MN (P ρ A) fun A=>MN (R ρ A) (S ρ)):=⟨(pw_orZ h1.h (pw_orZ h2.h (pw_or1 h3.h))).pt⟩
end
def LR:Tr->Tr->Rs Tr
 |x,.tup ts=>if n5 x=true/\jk ts=true/\uO ts<=40 then .ok (.bl (ts.any fun y=>eqT y x))else .bad
 |_,_=>.bad
section
variable {X:Cx}
theorem Jj(hu:X.A.units+44<cLine):uI X (compareOp .In) LR:=by
 intro pins s σ H x y v u Q I rx ry ⟨B,tx,ty,hb,r1,r2,q⟩;unfold LR at q;split at q
 ·rename_i ts;obtain⟨⟨f1,f2,f3⟩,q⟩:=gp q;obtain⟨a,vs,rfl,h,rr⟩:=r2.cZ;cases(show u=Value.ref a from ry);obtain⟨aZ,rv,pl,_⟩:=I.tuple h.up;have at':∀(j:Nat) (z:Value),aZ[j]?=some z->∃t xv,ts[j]?=some t/\t∈ts/\Rep X.K (aT B H) xv t/\RelV xv z:=fun j z ez=>by
   have hj:j<vs.length:=by rw[rv.length];exact(b_.mp ez).1
   obtain⟨t,e1,p1⟩:=rr.xi (aB hj);obtain⟨z',e2,p2⟩:=rv.get (aB hj);rw[ez]at e2;cases e2;exact⟨t,_,e1,bw e1,p1,p2⟩
  have same:∀{j j':Nat} {z:Value} {t t':Tr},aZ[j]?=some z->aZ[j']?=some z->ts[j]?=some t->ts[j']?=some t'->t=t':=fun{j j' z t t'} e1 e2 e3 e4=>by
   obtain⟨t1,x1,a1,a2,a3,a4⟩:=at' j z e1;obtain⟨t2,x2,b1,b2,b3,b4⟩:=at' j' z e2;rw[a1]at e3;rw[b1]at e4;cases e3;cases e4;rw[a4.inj b4]at a3;exact Am I 40 (bx (n6 _ a2) f3) (gq f2 _ a2) (gq f2 _ b2) a3.up b3.up
  have PL:∀z:Value,∃k:Bool,∀(j:Nat) (t:Tr),aZ[j]?=some z->ts[j]?=some t->k=eqT t tx:=fun z=>by
   by_cases hz:∃(j:Nat) (t:Tr),aZ[j]?=some z/\ts[j]?=some t
   ·obtain⟨j,t,e1,e2⟩:=hz;exact⟨eqT t tx,fun j' t' e3 e4=>by rw[same e1 e3 e2 e4]⟩
   ·exact⟨false,fun j t e1 e2=>absurd ⟨j,t,e1,e2⟩ hz⟩
  obtain⟨k,hk⟩:∃k:Value->Bool,∀(z:Value) (j:Nat) (t:Tr),aZ[j]?=some z->ts[j]?=some t->k z=eqT t tx:=⟨fun z=>(PL z).choose,fun z=>(PL z).choose_spec⟩
  refine SeqAt.in_tupleAt k pl (fun z hz=>?_) ⟨.bl _,H,I,rfl,?_⟩
  ·obtain⟨j,ej⟩:=dM (show z∈aZ by simpa using hz);obtain⟨t,xv,a1,a2,a3,a4⟩:=at' j z ej;rw[hk z j t ej a1];exact DV I 40 (bx (n6 _ a2) f3) (gq f2 _ a2) f1 a3.up r1.up a4 rx (by show X.A.units+1+40<cLine;omega)
  ·have e:aZ.map k=ts.map fun y=>eqT y tx:=by
    refine kf (by rw[ah,ah,<-rv.length,rr.length]) fun j h1 h2=>?_
    rw[ah]at h1 h2;rw[fo,fo];exact hk _ j _ (aB h1) (aB h2)
   have e2:aZ.toArray.any k=ts.any fun y=>eqT y tx:=by
    rw[show aZ.toArray.any k=aZ.any k by simp,show aZ.any k=(aZ.map k).any id by rw[kx];rfl,e,kx];rfl
   rw[e2];exact q _ H (ax.refl H) (.bl _)
 ·exact(show False from q).elim
end
end L2
namespace L2
open PySem PySem.Spec PyProof.Rows PySem.W
structure MO where
 bl:List Str
 own:List Str
 V':List Str
 fl:List (Str×List Str)
 kd:List Df
 er:List Str
 xs:List (Str⊕String)
 cs:List Str
 rs:List Str
namespace MO
def val(K:Frag):Str⊕String->Value
 |.inl c=>.ref (clsAt K c)
 |.inr c=>.type c
def tab(er:List Str):Str⊕String->List (Str×Bool)
 |.inl c=>er.map fun x=>(x,x==c)
 |.inr _=>er.map fun x=>(x,true)
def Ji(K:Frag)(o:MO):Bool:=o.bl.all (fun x=>decide (nsIn K mainGlobals x=some none))&&(o.own.all (fun c=>decide (nsIn K mainGlobals c=some (some (.ref (clsAt K c)))))&&(o.V'.all (fun c=>makesIn K (clsAt K c)&&(keepIn K (.ref (clsAt K c))&&decide (nsIn K mainGlobals c=some (some (.ref (clsAt K c))))))&&
 (o.fl.all (fun p=>HK K (clsAt K p.1)&&UZ K (clsAt K p.1) p.2)&&(o.kd.all (fun d=>decide (specialIn K (.ref (d.adr K)) "__get__"=some (some (.builtin "function.__get__")))&&decide (takesIn K (.ref (d.adr K))=some false))&&
 (Qm K o.er&&(o.xs.all (fun c=>Ql K (val K c) (tab o.er c))&&(o.cs.all (fun c=>Qn K c o.er)&&o.rs.all (fun c=>excIn K (clsAt K c) VD "ValueError.__new__"))))))))
structure Ok(o:MO)(K:Frag)(mg:Str->Option Value):Prop where
 bl:∀{x},o.bl.contains x=true->mg x=none
 RO:∀{c},o.own.contains c=true->mg c=some (.ref (clsAt K c))
 Y5:∀{c},o.V'.contains c=true->U2 K mg c
 fl:∀{c f fs},o.fl.lookup c=some fs->fs.contains f=true->OZ K [c] f
 bn:∀(i:Nat) {d:Df},o.kd[i]?=some d->O2 K (d.adr K)
 xc:∀(i:Nat) {c},o.xs[i]?=some c->IL K (val K c) (tab o.er c)
 ca:∀{c},o.cs.contains c=true->o.own.contains c=true->AJ K mg c o.er
 er:∀{c},o.rs.contains c=true->o.own.contains c=true->OY K mg c
theorem ok{o:MO}{K:Frag}{mg:Str->Option Value}{h:Heap}(X:K.In h)(G:h.Ns mainGlobals mg)(k:o.Ji K=true):o.Ok K mg:=by
 unfold Ji at k;simp only[aJ,bG,ck]at k;obtain⟨k1,k2,k3,k4,k5,k6,k7,k8,k9⟩:=k;have RO:∀{c},o.own.contains c=true->mg c=some (.ref (clsAt K c)):=fun m=>mg_of X G (k2 _ (iU.mp m));refine⟨fun m=>mg_none_of X G (k1 _ (iU.mp m)),RO,fun m=>?_,fun{c f fs} l m=>?_,fun i d e=>?_,fun i c e=>?_,fun m n=>E_ (RO n) (k8 _ (iU.mp m)),fun m n=>⟨RO n,k9 _ (iU.mp m)⟩⟩
 ·have q:=k3 _ (iU.mp m);exact⟨q.1,q.2.1,mg_of X G q.2.2⟩
 ·have q:=k4 _ (pI l);refine⟨fun x hx=>?_⟩;cases cB.mp hx;exact⟨Fb q.1,(cb (bG.mp q.2 f (iU.mp m)):findIn K (.ref (clsAt K c)) f=some none)⟩
 ·have q:=k5 _ (bw e);exact⟨q.1,q.2⟩
 ·refine LH (k7 _ (bw e)) k6 ?_
  cases c<;>simp[tab,Function.comp_def]
end MO
end L2
namespace lY
open PySem L2
def top(i:Nat):Stmt:=PySem.Challenge.pw_talkhall_k34_put_together.main.body.getD i (.Pass ⟨0,0,0,0⟩)
def fE:Df:=⟨none,"followers_of","followers_of",top 1,["known"]⟩
def fF:Df:=⟨none,"heights_of","heights_of",top 2,["letters"]⟩
def wd:Df:=⟨none,"order","order",top 3,["letters"]⟩
def jN:Df:=⟨none,"together","together",top 4,["one","other"]⟩
def s_:Df:=⟨none,"_law_cell","_law_cell",top 6,["_law_script","_law_k"]⟩
def we:Df:=⟨none,"_law_mix","_law_mix",top 7,["_law_cell_here","_law_prime","_law_many"]⟩
def oH:Df:=⟨none,"_law_same","_law_same",top 8,["_law_found","_law_due"]⟩
def iH:Df:=⟨none,"_law_letters","_law_letters",top 9,["_law_cell_here","_law_many"]⟩
def pJ:Df:=⟨none,"_law_mixed","_law_mixed",top 10,["_law_some","_law_cell_here"]⟩
def p_:Df:=⟨none,"law","law",top 12,["_law_script"]⟩
def DS:List Df:=[fE,fF,wd,jN,s_,we,oH,iH,pJ,p_]
structure Jk(K:PySem.W.Frag)(w:World)(mg:Str->Option Value)(tc tP:Addr):Prop where
 d:∀(i:Nat) {e:Df},DS[i]?=some e->e.Ok K mg
 all:mg "all"=none
 bool:mg "bool"=none
 dict:mg "dict"=none
 int:mg "int"=none
 isinstance:mg "isinstance"=none
 len:mg "len"=none
 list:mg "list"=none
 max:mg "max"=none
 range:mg "range"=none
 set:mg "set"=none
 sorted:mg "sorted"=none
 str:mg "str"=none
 tuple:mg "tuple"=none
 zip:mg "zip"=none
 tab:TabAt K "order" tc tP
abbrev CS(n:Nat)(d:Df)(a b:Nat):={F:az->Ab->Rz Out//∀{P:Program} {w:World} {K:PySem.W.Frag} {mg:Str->Option Value} {base:Heap} {tc tP:Addr},Jk K w mg tc tP->ym P w K mg base (t7 P w) n d (yC K (oq a b F))}
abbrev CP(n:Nat)(d:Df)(a b:Nat):={F:az->Rs Out//∀{P:Program} {w:World} {K:PySem.W.Frag} {mg:Str->Option Value} {base:Heap} {tc tP:Addr},Jk K w mg tc tP->ym P w K mg base oS n d (spT K (FL a b F))}
abbrev CZ(n:Nat)(d:Df)(a b:Nat):={F:az->Ab->Rz Out//∀{P:Program} {w:World} {K:PySem.W.Frag} {mg:Str->Option Value} {base:Heap} {tc tP:Addr},Jk K w mg tc tP->ym P w K mg base oS n d (spT K (uj a b F))}
abbrev CR(n:Nat)(d:Df)(a b:Nat)(r:List Tr->Rs Tr):={F:az->Rs Out//∀{P:Program} {w:World} {K:PySem.W.Frag} {mg:Str->Option Value} {base:Heap} {k:Nat} {tc tP:Addr},Jk K w mg tc tP->n<=k->ym P w K mg base oS k d (spT K r)->ym P w K mg base oS (k+1) d (spT K (FL a b F))}
abbrev KS(n:Nat)(d:Df)(m:List Tr->Ab->Rz Tr):Prop:=∀{P:Program} {w:World} {K:PySem.W.Frag} {mg:Str->Option Value} {base:Heap} {tc tP:Addr},Jk K w mg tc tP->ym P w K mg base (t7 P w) n d (yC K m)
abbrev KP(n:Nat)(d:Df)(m:List Tr->Rs Tr):Prop:=∀{P:Program} {w:World} {K:PySem.W.Frag} {mg:Str->Option Value} {base:Heap} {tc tP:Addr},Jk K w mg tc tP->ym P w K mg base oS n d (spT K m)
def fG:CS 1 fE 1 4:=⟨_,fun T=>LJ ["known","followers","mark","other"] (T.d 0 rfl) fun nd _ _ _ _ _ _ hr=>(bz (eK (i:=1) (CC (lz (Qr hr) rfl) T.dict (Hs (N':=["mark"]) (ix:=[none]) (fL.of (N:=["known","followers","mark","other"]) (sc:=aF fE.st) rfl rfl (by decide+kernel)) (AS (ai 0)) (fun s H ex=>NB.of (by show List.Nodup (["mark"]:List Str);decide+kernel)))) nd) (bz (K8 (AS (ai 0)) (eV 2 nd) (eU 2) (eB (AN (u5 (pZ (gE hr) (ai 0) (ai 2))) (eV 3 nd) (eU 3) (eB (Cr (AM (jr (IV (gE hr)) (ai 3) (ai 0))) (eB (mB (pY iy jw eX mw (FP (aH (pZ (gE hr) (ai 1) (ai 3)))) (bA (aH (ai 2)) cN)))) u6))))) (eB (l8 (aH (ai 1))))))⟩
def fH:=oq 1 4 fG.1
theorem tj:KS 1 fE fH:=fG.2
def gO:CZ 2 fF 1 10:=⟨_,fun T=>LL ["letters","known","followers","waits","heights","level","height_now","freed","mark","follower"] (T.d 1 rfl) fun nd _ _ _ _ _ _ hr=>(bz (eK (i:=1) (aH (Tq (lh (lz (Qr hr) rfl) T.dict (av (ai 0) aX)))) nd) (bz (eK (i:=2) (jX (tj T) hr (bA (aH (ai 1)) cN)) nd) (bz (eK (i:=3) (pX (lh (lz (Qr hr) rfl) T.dict (av (O8 (N':=["mark","known"]) (ix:=[none,some 1]) (fL.of (N:=["letters","known","followers","waits","heights","level","height_now","freed","mark","follower"]) (sc:=aF fF.st) rfl rfl (by first|decide+kernel|exact rfl|kernel_rfl)) (AS (ai 1)) ⟨fun s H ex=>⟨(eV 0 (by show List.Nodup (["mark","known"]:List Str);decide+kernel)),AL,(lb (av (ai 0) (av (dw mz T.len (av (Hg (N':=["other","known"]) (ix:=[none,some 1]) (fL.of (N:=["mark","known"]) (sc:=_) rfl rfl (by first|decide+kernel|exact rfl|kernel_rfl)) (u5 (pZ (gE hr) (ai 1) (ai 0))) ⟨fun s H ex=>⟨(eV 0 (by show List.Nodup (["other","known"]:List Str);decide+kernel)),(xJ (jr (IV (gE hr)) (ai 0) (ai 1))),(ai 0)⟩⟩ (eU 0)) aX)) aX)))⟩⟩ (eU 0)) aX))) nd) (bz (eK (i:=4) (pX K4) nd) (bz (Em (i:=5) (N':=["mark","waits"]) (ix:=[none,some 3]) (fL.of (N:=["letters","known","followers","waits","heights","level","height_now","freed","mark","follower"]) (sc:=aF fF.st) rfl rfl (by first|decide+kernel|exact rfl|kernel_rfl)) (AS (ai 1)) ⟨fun s H ex=>⟨(eV 0 (by show List.Nodup (["mark","waits"]:List Str);decide+kernel)),(xJ (jr (yZ (o8 hr)) (pZ (gE hr) (ai 1) (ai 0)) cg)),(ai 0)⟩⟩ (eU 0) nd) (bz (eK (i:=6) (aH cg) nd) (bz (AO 100 (qO (jr Oi (dw mz T.len (av (ai 5) aX)) cg)) (bz (eK (i:=7) (pX (xK aX)) nd) (bz (AU 100 (aH (ai 5)) (eV 8 nd) (eU 8) (bz (Hk (gE hr) (FP (aH (ai 4))) (aH (ai 8)) (aH (ai 6))) (eB (AU 100 (aH (pZ (gE hr) (ai 2) (ai 8))) (eV 9 nd) (eU 9) (bz (Hl (gE hr) (FP (aH (ai 3))) (aH (ai 9)) (aH cg)) (eB (Cr (qO (jr (yZ (o8 hr)) (pZ (gE hr) (ai 3) (ai 9)) cg)) (eB (mB (pY iy jw eX mw (FP (aH (ai 7))) (bA (aH (ai 9)) cN)))) u6))))))) (bz (eK (i:=5) (aH (ai 7)) nd) (eB (K6 6 (aH cg))))))) (eB (l8 (aH (ai 4)))))))))))⟩
def gP:=uj 1 10 gO.1
theorem wg:KP 2 fF gP:=gO.2
def wj:CS 6 wd 1 2:=⟨_,fun T=>Qs ["letters","heights"] (T.d 2 rfl) fun nd _ _ _ _ _ _ qf hr=>(bz (eK (i:=1) (aH (gG (wg T) hr (av (ai 0) aX))) nd) (eB (l8 (xM jE T.tuple (bA (HL (q:="order.<locals>.<lambda>") 1 hr T.tab (qf.trans (Fd T.tab.t)) T.sorted) cN)))))⟩
def jO:=oq 1 2 wj.1
theorem Bg:KS 6 wd jO:=wj.2
def mF:CS 7 jN 2 4:=⟨_,fun T=>LJ ["one","other","letters","known"] (T.d 3 rfl) fun nd _ _ _ _ _ _ hr=>(bz (eK (i:=2) (aH (lg jE T.tuple (av (HH (Yt hr) T.sorted T.set (e8 kT (ai 0) (ai 1))) aX))) nd) (bz (eK (i:=3) (aH (Tq (lh (lz (Qr hr) rfl) T.dict (av (ai 2) aX)))) nd) (eB (l8 (xM jE T.tuple (bA (Qy (N':=["mark","known"]) (ix:=[none,some 3]) (fL.of (N:=["one","other","letters","known"]) (sc:=aF jN.st) rfl rfl (by first|decide+kernel|exact rfl|kernel_rfl)) (jX (Bg T) hr (bA (aH (ai 2)) cN)) ⟨fun s H ex=>⟨(eV 0 (by show List.Nodup (["mark","known"]:List Str);decide+kernel)),AL,(lb (av (ai 0) (av (pZ (gE hr) (ai 1) (ai 0)) aX)))⟩⟩ (eU 0)) cN))))))⟩
def bY:=oq 2 4 mF.1
theorem dy:KS 7 jN bY:=mF.2
def yn:CP 1 s_ 2 2:=⟨_,fun T=>LK ["_law_script","_law_k"] (T.d 4 rfl) fun nd _ _ _ _ _ _ hr=>(pq (El (jr S_ (ai 1) (dw mz T.len (av (ai 0) aX))) (pV (pW (Hh (gE hr) (ai 0) (ai 1)))) xI) (pV (pW cg)))⟩
def fI:=FL 2 2 yn.1
theorem tm:KP 1 s_ fI:=yn.2
def Bh:CP 1 we 3 4:=⟨_,fun T=>LK ["_law_cell_here","_law_prime","_law_many","_law_blend"] (T.d 5 rfl) fun nd _ _ _ _ _ _ hr=>(pq (O5 (i:=3) (e8 DU (e8 uN (ai 0) cg) (ai 1)) nd) (pV (pW (e8 DU (e8 DU (e8 uN (ai 3) (e8 kT (ai 3) cg)) (ai 1)) (ai 2)))))⟩
def bK:=FL 3 4 Bh.1
theorem iI:KP 1 we bK:=Bh.2
def yo(r:List Tr->Rs Tr):CR 0 oH 2 2 r:=⟨_,fun T hk G=>LK ["_law_found","_law_due"] (T.d 6 rfl) fun _ _ _ _ _ _ _ hr=>(pq (El (u4 (dw uQ T.isinstance (av (ai 1) (av (xH T.tuple) aX)))) (pq (El (zj (KZ (IQ (u4 (dw uQ T.isinstance (av (ai 0) (av (xH T.tuple) aX))))) (Ej (jr (DW (o8 hr)) (dw mz T.len (av (ai 0) aX)) (dw mz T.len (av (ai 1) aX)))))) (pV (pW Hf)) xI) (pV (pW (dw (Oq rfl) T.all (av (Hg (N':=["_law_one","_law_other"]) (ix:=[none,none]) (fL.of (N:=["_law_found","_law_due"]) (sc:=aF oH.st) rfl rfl (by decide+kernel)) (O7 T.zip (av (ai 0) (av (ai 1) aX))) ⟨fun s H ex=>⟨(O6 (is:=[0,1]) (sH (i:=0) (sH (i:=1) IT (by show List.Nodup (["_law_one","_law_other"]:List Str);decide+kernel)) (by show List.Nodup (["_law_one","_law_other"]:List Str);decide+kernel))),AL,(gG G hr (av (ai 0) (av (ai 1) aX)))⟩⟩ (Km [0,1])) aX))))) xI) (pq (El (jr Oj (ai 1) IP) (pV (pW (Ei Oj (ai 0) IP))) xI) (pq (El (zj (KZ (u4 (dw uQ T.isinstance (av (ai 1) (av (xH T.bool) aX)))) (Ej (u4 (dw uQ T.isinstance (av (ai 0) (av (xH T.bool) aX))))))) (pV (pW (Ek (dw uQ T.isinstance (av (ai 1) (av (xH T.bool) aX))) (Ek (dw uQ T.isinstance (av (ai 0) (av (xH T.bool) aX))) (IS (Ei (yZ (o8 hr)) (ai 0) (ai 1))))))) xI) (pV (pW (Ek (dw KR T.isinstance (av (ai 0) (av (lb (av (xH T.int) (av (xH T.str) aX))) aX))) (IS (Ei (yZ (o8 hr)) (ai 0) (ai 1)))))))))⟩
def fJ:Nat->List Tr->Rs Tr
 |0=>fun _=>.bad
 |n+1=>FL 2 2 (yo (fJ n)).1
theorem vl{P:Program}{w:World}{K:PySem.W.Frag}{mg:Str->Option Value}{base:Heap}{tc tP:Addr}(T:Jk K w mg tc tP):∀n:Nat,ym P w K mg base oS (0+n) oH (spT K (fJ n))
 |0=>U1 (T.d 6 rfl)
 |n+1=>(yo _).2 T (kc ..) (vl T n)
def lD:CZ 2 iH 2 8:=⟨_,fun T=>LL ["_law_cell_here","_law_many","_law_marks","_law_found","_law_k","_law_seed","_law_mark","_law_behind"] (T.d 7 rfl) fun nd _ _ _ _ _ _ hr=>(bz (eK (i:=2) (pX (xK aX)) nd) (bz (eK (i:=3) (pX (xK aX)) nd) (bz (AN (sI T.range (av (gG (iI T) hr (av (ai 0) (av cg (av (e8 kT (ai 1) cg) aX)))) aX)) (eV 4 nd) (eU 4) (bz (eK (i:=5) (aH (e8 kT (ai 0) (e8 uN cg (ai 4)))) nd) (bz (eK (i:=6) (aH (lb (av (gG (iI T) hr (av (ai 5) (av cg (av cg aX)))) (av (ai 4) aX)))) nd) (bz (Hi (i:=7) (N':=["_law_one","_law_seed"]) (ix:=[none,some 5]) (fL.of (N:=["_law_cell_here","_law_many","_law_marks","_law_found","_law_k","_law_seed","_law_mark","_law_behind"]) (sc:=aF iH.st) rfl rfl (by first|decide+kernel|exact rfl|kernel_rfl)) (u5 (ai 2)) ⟨fun s H ex=>⟨(eV 0 (by show List.Nodup (["_law_one","_law_seed"]:List Str);decide+kernel)),(xJ (jr (yZ (o8 hr)) (gG (iI T) hr (av (e8 kT (ai 1) (e8 uN cg (Hh (gE hr) (ai 0) cg))) (av cg (av cg aX)))) cg)),(ai 0)⟩⟩ (eU 0) nd) (bz (Cr (AM (jr (yZ (o8 hr)) (gG (iI T) hr (av (ai 5) (av cg (av cg aX)))) cg)) (eB (mB (pY iy jw eX mw (FP (aH (ai 7))) (bA (aH (lb (av (gG (iI T) hr (av (ai 5) (av cg (av cg aX)))) (av (e8 kT cg (gG (iI T) hr (av (ai 5) (av cg (av cg aX))))) aX)))) cN)))) u6) (bz (mB (pY iy jw eX mw (FP (aH (ai 2))) (bA (aH (ai 6)) cN))) (eB (mB (pY iy jw eX mw (FP (aH (ai 3))) (bA (zk (lb (av (ai 6) (av (lg jE T.tuple (av (HE (Yr hr) T.sorted T.set (ai 7)) aX)) aX)))) cN)))))))))) (eB (l8 (aH (ai 3)))))))⟩
def gy:=uj 2 8 lD.1
theorem yp:KP 2 iH gy:=lD.2
def pK:CZ 2 pJ 2 4:=⟨_,fun T=>LL ["_law_some","_law_cell_here","_law_left","_law_found"] (T.d 8 rfl) fun nd _ _ _ _ _ _ hr=>(bz (eK (i:=2) (pX (lh Hb T.list (av (ai 0) aX))) nd) (bz (eK (i:=3) (pX (xK aX)) nd) (bz (AO 100 (qO (u4 (ai 2))) (eB (mB (pY iy jw eX mw (FP (aH (ai 3))) (bA (pY PySem.F.slot_list_pop PySem.F.type_list_pop DH KH (FP (aH (ai 2))) (bA (zk (gG (iI T) hr (av (e8 kT (ai 1) (e8 uN cg (dw mz T.len (av (ai 2) aX)))) (av cg (av (dw mz T.len (av (ai 2) aX)) aX))))) cN)) cN))))) (eB (l8 (zk (lg jE T.tuple (av (ai 3) aX))))))))⟩
def jt:=uj 2 4 pK.1
theorem C1:KP 2 pJ jt:=pK.2
def Bi:CS 14 p_ 1 12:=⟨_,fun T=>LJ ["_law_script","_law_k","_law_every","_law_parts","_law_j","_law_some","_law_one","_law_other","_law_third","_law_both","_law_due","_law_marks"] (T.d 9 rfl) fun nd _ _ _ _ _ _ hr=>(bz (AN (sI T.range (av cg aX)) (eV 1 nd) (eU 1) (bz (eK (i:=2) (aH (gG (yp T) hr (av (e8 kT (gG (tm T) hr (av (ai 0) (av (ai 1) aX))) (ai 1)) (av cg aX)))) nd) (bz (eK (i:=3) (pX (xK aX)) nd) (bz (AN (sI T.range (av cg aX)) (eV 4 nd) (eU 4) (bz (Hj (i:=5) (N':=["_law_one","_law_j","_law_script"]) (ix:=[none,some 4,some 0]) (fL.of (N:=["_law_script","_law_k","_law_every","_law_parts","_law_j","_law_some","_law_one","_law_other","_law_third","_law_both","_law_due","_law_marks"]) (sc:=aF p_.st) rfl rfl (by first|decide+kernel|exact rfl|kernel_rfl)) (u5 (ai 2)) ⟨fun s H ex=>⟨(eV 0 (by show List.Nodup (["_law_one","_law_j","_law_script"]:List Str);decide+kernel)),(xJ (jr Oi (gG (iI T) hr (av (e8 kT (gG (tm T) hr (av (ai 2) (av (e8 kT cg (ai 1)) aX))) (e8 uN cg (Hh (gE hr) (Hh (gE hr) (ai 0) cg) cg))) (av cg (av cg aX)))) cg)),(ai 0)⟩⟩ (eU 0) nd) (eB (mB (pY iy jw eX mw (FP (aH (ai 3))) (bA (aH (gG (C1 T) hr (av (ai 5) (av (e8 kT (gG (tm T) hr (av (ai 0) (av cg aX))) (ai 4)) aX)))) cN)))))) (bz (HM (is:=[6,7,8]) (sH (i:=6) (sH (i:=7) (sH (i:=8) IT nd) nd) nd) (aH (ai 3))) (bz (eK (i:=9) (jX (dy T) hr (bA (aH (ai 6)) (bA (aH (ai 7)) cN))) nd) (bz (LP (i:=10) (aH (Hg (N':=["_law_pair","_law_one","_law_other"]) (ix:=[none,some 6,some 7]) (fL.of (N:=["_law_script","_law_k","_law_every","_law_parts","_law_j","_law_some","_law_one","_law_other","_law_third","_law_both","_law_due","_law_marks"]) (sc:=aF p_.st) rfl rfl (by first|decide+kernel|exact rfl|kernel_rfl)) (u5 (ai 2)) ⟨fun s H ex=>⟨(eV 0 (by show List.Nodup (["_law_pair","_law_one","_law_other"]:List Str);decide+kernel)),(xJ (zj (KZ (jr (Jj (Qt hr)) (ai 0) (ai 1)) (Ej (jr (Jj (Qt hr)) (ai 0) (ai 2)))))),(ai 0)⟩⟩ (eU 0))) nd) (bz (eK (i:=11) (jX (Bg T) hr (bA (aH (lg jE T.tuple (av (ai 10) aX))) cN)) nd) (bz (Cr (qO (IQ (u4 (gG (vl T 5) hr (av (ai 9) (av (lg jE T.tuple (av (Hg (N':=["_law_mark","_law_due"]) (ix:=[none,some 10]) (fL.of (N:=["_law_script","_law_k","_law_every","_law_parts","_law_j","_law_some","_law_one","_law_other","_law_third","_law_both","_law_due","_law_marks"]) (sc:=aF p_.st) rfl rfl (by first|decide+kernel|exact rfl|kernel_rfl)) (u5 (ai 11)) ⟨fun s H ex=>⟨(eV 0 (by show List.Nodup (["_law_mark","_law_due"]:List Str);decide+kernel)),AL,(lb (av (ai 0) (av (pZ (gE hr) (Tq (lh (lz (Qr hr) rfl) T.dict (av (ai 1) aX))) (ai 0)) aX)))⟩⟩ (eU 0)) aX)) aX)))))) (eB (l8 (aH Hf))) u6) (bz (Cr (LQ (vV (DW (o8 hr)) (jX (dy T) hr (bA (aH (ai 7)) (bA (aH (ai 6)) cN))) (aH (ai 9))) (vV (DW (o8 hr)) (jX (dy T) hr (bA (aH (ai 9)) (bA (aH (ai 6)) cN))) (aH (ai 9))) (vV (DW (o8 hr)) (jX (dy T) hr (bA (aH (ai 9)) (bA (aH (lb aX)) cN))) (aH (ai 9)))) (eB (l8 (aH Hf))) u6) (eB (Cr (vV (DW (o8 hr)) (jX (dy T) hr (bA (jX (dy T) hr (bA (aH (ai 6)) (bA (aH (ai 7)) cN))) (bA (aH (ai 8)) cN))) (jX (dy T) hr (bA (aH (ai 6)) (bA (jX (dy T) hr (bA (aH (ai 7)) (bA (aH (ai 8)) cN))) cN)))) (eB (l8 (aH Hf))) u6)))))))))))) (eB (l8 (O_ (yZ (o8 hr)) (jX (dy T) hr (bA (aH (lb aX)) (bA (aH (lb aX)) cN))) (aH (lb aX))))))⟩
def vm:=oq 1 12 Bi.1
theorem Qz:KS 14 p_ vm:=Bi.2
end lY
namespace lY
open PySem L2
abbrev Mk:=Int×Int
def tM(m:Mk):Tr:=.tup [.int m.1,.int m.2]
def kM(m:Mk):List Key:=[.inl m.1,.inl m.2]
theorem zI{a b:Mk}:kM a=kM b↔a=b:=by
 constructor
 ·intro e;unfold kM at e;injection e with e1 e2
  injection e2 with e2 _
  injection e1 with e1
  injection e2 with e2
  exact kB e1 e2
 ·intro e;rw[e]
theorem HN(m:Mk):pz (tM m)=some (kM m):=rfl
def fD(ks:List Mk)(g:Mk->Tr):List (List Key×Tr):=ks.map fun m=>(kM m,g m)
theorem qR(g:Mk->Tr)(m:Mk):∀ks:List Mk,jH (fD ks g) (kM m)=if m∈ks then some (g m)else none
 |[]=>rfl
 |k::ks=>by
  unfold jH fD;rw[aA,dY];by_cases e:k=m
  ·subst e;simp
  ·have h:decide (kM k=kM m)=false:=bg fun h=>e (zI.mp h);simp only[h];have:=qR g m ks;unfold jH fD at this;rw[this];have e':¬m=k:=fun h=>e h.symm;simp[e']
theorem Ff(ks:List Mk)(g:Mk->Tr):Er (fD ks g)=.ok (ks.map tM):=by
 unfold Er;rw[ab]
 ·unfold fD;rw[bC];rfl
 ·rw[bG];intro p hp;obtain⟨m,_,rfl⟩:=aW.mp hp
  rfl
theorem qS(ks:List Mk)(g:Mk->Tr):qA (.ok (.bj (fD ks g)))=.ok (ks.map tM):=Ff ks g
theorem Bj(g:Mk->Tr):∀ks:List Mk,oy (ks.map fun m=>.tup [tM m,g m])=some (fD ks g)
 |[]=>rfl
 |k::ks=>by
  rw[aA,oy,HN,Bj g ks]
  rfl
theorem Fg(ks:List Mk)(g:Mk->Tr)(m:Mk):((fD ks g).any fun kv=>decide (kv.1=kM m))=decide (m∈ks):=by
 induction ks with
 |nil=>rfl
 |cons k ks ih=>
  unfold fD at ih⊢;rw[aA,g_,ih];by_cases e:k=m
  ·subst e;simp
  ·have h:decide (kM k=kM m)=false:=bg fun h=>e (zI.mp h);have e':¬m=k:=fun h=>e h.symm;simp only[h,ny];simp[e']
theorem yq{ks:List Mk}{g:Mk->Tr}{m:Mk}{t:Tr}(h:m∉ks)(e:g m=t):lq (fD ks g) (kM m) t=fD (ks++[m]) g:=by
 unfold lq;rw[Fg,bg h,af (by decide)];unfold fD;rw[cH,aA,nG,e]
theorem Fh{ks:List Mk}{g:Mk->Tr}{m:Mk}{t:Tr}(h:m∈ks):lq (fD ks g) (kM m) t=fD ks (fun x=>if x=m then t else g x):=by
 unfold lq;rw[Fg,bF h,ab rfl];unfold fD;rw[bC];refine fT fun x _=>?_
 show(if kM x=kM m then(kM x,t)else(kM x,g x))=(kM x,if x=m then t else g x);by_cases e:x=m
 ·subst e;rw[ab rfl,ab rfl]
 ·rw[af (fun h=>e (zI.mp h)),af e]
theorem yr(g:Mk->Tr):∀(ks pre:List Mk),(pre++ks).Nodup->lr (fD pre g) (fD ks g)=fD (pre++ks) g
 |[],pre,_=>by rw[dW];rfl
 |k::ks,pre,h=>by
  show lr (lq (fD pre g) (kM k) (g k)) (fD ks g)=_;have e:pre++k::ks=(pre++[k])++ks:=by simp
  have hk:k∉pre:=by
   intro m;rw[i0]at h;exact h.2.2 k m k (aS ..) rfl
  rw[yq hk rfl,yr g ks (pre++[k]) (by rw[<-e];exact h),e]
theorem oJ{ks:List Mk}(g:Mk->Tr)(h:ks.Nodup)(hl:ks.length<=100):cU [.lst (ks.map fun m=>.tup [tM m,g m])]=.ok (.bj (fD ks g)):=by
 show(match oy (ks.map fun m=>Tr.tup [tM m,g m])with
  |some aD=>if aD.length<=100000 then Rs.ok (Tr.bj (lr [] aD))else .bad
  |none=>.bad)=_
 rw[Bj];show(if(fD ks g).length<=100000 then Rs.ok (Tr.bj (lr [] (fD ks g)))else .bad)=_;rw[ab (by unfold fD;rw[ah];omega)];have:=yr g ks [] h;rw[kh]at this;exact bJ (fun x=>Rs.ok (Tr.bj x)) this
theorem yt{ks:List Mk}(g:Mk->Tr)(h:ks.Nodup)(hl:ks.length<=100):cU [.tup (ks.map fun m=>.tup [tM m,g m])]=.ok (.bj (fD ks g)):=oJ g h hl
theorem lE{ks:List Mk}{g:Mk->Tr}{m:Mk}(h:m∈ks):oU (.bj (fD ks g)) (tM m)=.ok (g m):=by
 show C' (jH (fD ks g) (kM m))=_;rw[qR,ab h];rfl
theorem zJ(ks:List Mk)(g:Mk->Tr)(m:Mk):FQ (tM m) (.bj (fD ks g))=.ok (.bl (decide (m∈ks))):=by
 show Rs.ok (Tr.bl (jH (fD ks g) (kM m)).isSome)=_;rw[qR];by_cases e:m∈ks
 ·rw[ab e,bF e];rfl
 ·rw[af e,bg e];rfl
theorem uq{T:j3}{G:az->Ab->Rz Out}{t:Tr}{ts:List Tr}{ρ ρ1 ρ2:az}{A A2:Ab}(e1:T t ρ=.ok ρ1)(e2:G ρ1 A=.ok (.nx ρ2) A2):jm T G (t::ts) ρ A=jm T G ts ρ2 A2:=by
 rw[jm,e1];show(G ρ1 A).bind _=_;rw[e2];rfl
theorem Wa{i j m:Nat}{G:az->Ab->Rz Out}{us:List Tr}{t:Tr}{ρ ρ2:az}{A A2:Ab}(h:A[j]?=some (.lst us))(ht:us[i]?=some t){x:Nat}(e2:G (ρ.set x (.sh t)) A=.ok (.nx ρ2) A2):gv (gN x) G j (m+1) i ρ A=gv (gN x) G j m (i+1) ρ2 A2:=by
 rw[gv,h];show(match us[i]? with
   |none=>Rz.ok (Out.nx ρ) A
   |some t=>_)=_
 rw[ht];show(G (ρ.set x (.sh t)) A).bind _=_;rw[e2];rfl
theorem Wb{i j m:Nat}{G:az->Ab->Rz Out}{us:List Tr}{ρ:az}{A:Ab}(h:A[j]?=some (.lst us))(ht:us[i]?=none){x:Nat}:gv (gN x) G j (m+1) i ρ A=.ok (.nx ρ) A:=by
 rw[gv,h];show(match us[i]? with
   |none=>Rz.ok (Out.nx ρ) A
   |some t=>_)=_
 rw[ht]
theorem HP{a b:Mk}{ks:List Mk}(ha:a∈ks)(hb:b∈ks)(e:ks.idxOf a=ks.idxOf b):a=b:=by
 have h1:=List.getElem_idxOf (j4 ha);have h2:=List.getElem_idxOf (j4 hb);rw[<-h1,<-h2];congr 1
theorem Bk:∀(ks:List Mk) (n:Nat),ks.Nodup->Ld n (ks.map tM)=ks.map fun m=>.tup [tM m,.at (n+ks.idxOf m)]
 |[],_,_=>rfl
 |k::ks,n,h=>by
  rw[dX]at h;rw[aA,Ld,Bk ks (n+1) h.2,aA,List.idxOf_cons_self];refine bJ _ (fT fun x hx=>?_);have e:¬k=x:=fun e=>h.1 (e▸hx);have e2:(k::ks).idxOf x=ks.idxOf x+1:=by
   rw[List.idxOf_cons,eP e];rfl
  rw[e2,show n+1+ks.idxOf x=n+(ks.idxOf x+1) by omega]
theorem iJ:∀ks:List Mk,fM (ks.map tM)=true
 |[]=>rfl
 |k::ks=>by rw[aA,fM,iJ ks];rfl
end lY
namespace lY
open PySem L2
def bI:az->Ab->Rz Out:=fun ρ A=>BW (aq (kP (cO FQ (au ρ 3) (au ρ 0))) A) (fun A=>eJ (uW fh (aq (cO oU (au ρ 1) (au ρ 3)) A) fun A=>bR (aq (au ρ 2) A) fun A=>Rz.ok [] A) ρ) fun A=>Rz.ok (Out.nx ρ) A
def bO:az->Ab->Rz Out:=fun ρ A=>jR (gN 3) bI (aq (mn (cO oU (au ρ 0) (au ρ 2))) A) ρ
def gF:az->Ab->Rz Out:=fun ρ A=>bS (cR 1 (pC cU (sR (qA (au ρ 0)) A)) ρ) fun ρ A=>bS (Pk (jR (gN 2) bO (aq (qA (au ρ 0)) A) ρ)) fun ρ A=>jF (aq (au ρ 1) A)
theorem QC:fG.1=gF:=rfl
def tB(bh:Mk->List Mk)(m:Mk):Tr:=.tup ((bh m).map tM)
def tI(ks:List Mk)(m:Mk):Tr:=.at (ks.idxOf m)
def AF(ks:List Mk)(F:Mk->List Mk)(A:Ab):Prop:=A.length=ks.length/\∀m∈ks,A[ks.idxOf m]?=some (.lst ((F m).map tM))
theorem AF.congr {ks:List Mk}{F G:Mk->List Mk}{A:Ab}(h:AF ks F A)(e:∀m∈ks,F m=G m):AF ks G A:=⟨h.1,fun m hm=>by rw[<-e m hm];exact h.2 m hm⟩
theorem QH{ks:List Mk}{bh:Mk->List Mk}{F:Mk->List Mk}{A:Ab}{m b:Mk}(h:AF ks F A)(hb:b∈ks)(hl:(F b).length<=1000):
  bI [.sh (.bj (fD ks (tB bh))),.sh (.bj (fD ks (tI ks))),.sh (tM m),.sh (tM b)] A=.ok (.nx [.sh (.bj (fD ks (tB bh))),.sh (.bj (fD ks (tI ks))),.sh (tM m),.sh (tM b)]) (A.set (ks.idxOf b) (.lst ((F b++[m]).map tM))):=by
 show BW (aq (kP (FQ (tM b) (.bj (fD ks (tB bh))))) A) (fun A=>eJ (uW fh (aq (oU (.bj (fD ks (tI ks))) (tM b)) A) fun A=>bR (aq (Rs.ok (tM m)) A) fun A=>Rz.ok [] A) _) _=_;rw[zJ,bF hb,lE hb];show eJ (if BZ A (ks.idxOf b)=true then fh (ks.idxOf b) [tM m] A else .bad) _=_;have e:=h.2 b hb;have e1:BZ A (ks.idxOf b)=true:=by unfold BZ;rw[e]
 have e2:fh (ks.idxOf b) [tM m] A=.ok .cD (A.set (ks.idxOf b) (.lst ((F b++[m]).map tM))):=by
  unfold fh;simp only[e];rw[ab (by rw[ah];unfold ji;omega),cH]
  rfl
 rw[ab e1,e2]
 rfl
theorem LS{ks:List Mk}{bh:Mk->List Mk}{A:Ab}{m b:Mk}{FO:Tr}(hb:b∉ks):
  bI [.sh (.bj (fD ks (tB bh))),.sh FO,.sh (tM m),.sh (tM b)] A=.ok (.nx [.sh (.bj (fD ks (tB bh))),.sh FO,.sh (tM m),.sh (tM b)]) A:=by
 show BW (aq (kP (FQ (tM b) (.bj (fD ks (tB bh))))) A) _ (fun A=>_)=_;rw[zJ,bg hb]
 rfl
theorem AF.put {ks:List Mk}{F:Mk->List Mk}{A:Ab}{b:Mk}(h:AF ks F A)(hb:b∈ks)(l:List Mk):AF ks (fun x=>if x=b then l else F x) (A.set (ks.idxOf b) (.lst (l.map tM))):=by
 refine⟨by rw[gY];exact h.1,fun m hm=>?_⟩;by_cases e:m=b
 ·subst e;have:ks.idxOf m<A.length:=by rw[h.1];exact j4 hm
  rw[dJ this];simp
 ·have:ks.idxOf b≠ks.idxOf m:=fun q=>e (HP hb hm q).symm;rw[cA this,h.2 m hm];simp[e]
theorem inner{ks:List Mk}{bh:Mk->List Mk}(m:Mk):∀(bs:List Mk) (F:Mk->List Mk) (A:Ab) (c:Cell),bs.Nodup->AF ks F A->(∀b∈bs,(F b).length<=1000)->
  ∃A' c',jm (gN 3) bI (bs.map tM) [.sh (.bj (fD ks (tB bh))),.sh (.bj (fD ks (tI ks))),.sh (tM m),c] A=.ok (.nx [.sh (.bj (fD ks (tB bh))),.sh (.bj (fD ks (tI ks))),.sh (tM m),c']) A'/\AF ks (fun b=>if b∈bs then F b++[m]else F b) A'
 |[],F,A,c,_,h,_=>⟨A,c,rfl,h.congr fun _ _=>by simp⟩
 |b::bs,F,A,c,nd,h,hl=>by
  rw[dX]at nd;by_cases hb:b∈ks
  ·have h1:=h.put hb (F b++[m]);obtain⟨A',c',e,h2⟩:=inner (bh:=bh) m bs _ _ (.sh (tM b)) nd.2 h1 fun x hx=>by
    have:¬x=b:=fun e=>nd.1 (e▸hx);simp only[this,aR];exact hl x (aO _ hx)
   refine⟨A',c',?_,h2.congr fun x hx=>?_⟩
   ·rw[aA,uq (ρ1:=[.sh (.bj (fD ks (tB bh))),.sh (.bj (fD ks (tI ks))),.sh (tM m),.sh (tM b)]) rfl (QH h hb (hl b (aS ..)))];exact e
   ·by_cases e:x=b
    ·subst e;simp[nd.1]
    ·simp[e]
  ·obtain⟨A',c',e,h2⟩:=inner (bh:=bh) m bs F A (.sh (tM b)) nd.2 h fun x hx=>hl x (aO _ hx);refine⟨A',c',?_,h2.congr fun x hx=>?_⟩
   ·rw[aA,uq (ρ1:=[.sh (.bj (fD ks (tB bh))),.sh (.bj (fD ks (tI ks))),.sh (tM m),.sh (tM b)]) rfl (LS hb)];exact e
   ·have:¬x=b:=fun e=>hb (e▸hx);simp[this]
def oK(bh:Mk->List Mk)(ks:List Mk)(b:Mk):List Mk:=ks.filter fun m=>decide (b∈bh m)
theorem outer{ks:List Mk}{bh:Mk->List Mk}:∀(rest pre:List Mk) (A:Ab) (c d:Cell),(∀m∈rest,m∈ks/\(bh m).Nodup)->pre.length+rest.length<=100->AF ks (oK bh pre) A->
  ∃A' c' d',jm (gN 2) bO (rest.map tM) [.sh (.bj (fD ks (tB bh))),.sh (.bj (fD ks (tI ks))),c,d] A=.ok (.nx [.sh (.bj (fD ks (tB bh))),.sh (.bj (fD ks (tI ks))),c',d']) A'/\AF ks (oK bh (pre++rest)) A'
 |[],pre,A,c,d,_,_,h=>⟨A,c,d,rfl,by rw[dW];exact h⟩
 |m::rest,pre,A,c,d,hm,hl,h=>by
  obtain⟨hk,nd⟩:=hm m (aS ..);rw[br]at hl;obtain⟨A1,c1,e1,h1⟩:=inner (bh:=bh) m (bh m) _ _ d nd h fun b _=>by
   have:(oK bh pre b).length<=pre.length:=j7 _ _;omega
  have Ct:AF ks (oK bh (pre++[m])) A1:=h1.congr fun x _=>by
   unfold oK;rw[List.filter_append,fm,List.filter_nil];by_cases e:x∈bh m<;>simp[e]
  obtain⟨A2,c2,d2,e2,h2⟩:=outer rest (pre++[m]) A1 (.sh (tM m)) c1 (fun x hx=>hm x (aO _ hx)) (by rw[aY,br,eO];omega) Ct;refine⟨A2,c2,d2,?_,by rw[fV]at h2;exact h2⟩;have eb:bO [.sh (.bj (fD ks (tB bh))),.sh (.bj (fD ks (tI ks))),.sh (tM m),d] A=.ok (.nx [.sh (.bj (fD ks (tB bh))),.sh (.bj (fD ks (tI ks))),.sh (tM m),c1]) A1:=by
   show jR (gN 3) bI (aq (mn (oU (.bj (fD ks (tB bh))) (tM m))) A) _=_;rw[lE hk];exact e1
  rw[aA,uq (ρ1:=[.sh (.bj (fD ks (tB bh))),.sh (.bj (fD ks (tI ks))),.sh (tM m),d]) rfl eb];exact e2
theorem yu{ks:List Mk}{bh:Mk->List Mk}(nd:ks.Nodup)(hl:ks.length<=100)(hb:∀m∈ks,(bh m).Nodup):
  ∃A,fH [.bj (fD ks (tB bh))] []=.ok (.bj (fD ks (tI ks))) A/\AF ks (oK bh ks) A:=by
 have h0:AF ks (oK bh []) (List.replicate ks.length (.lst [])):=⟨mT,fun m hm=>by
  rw[mO,ab (j4 hm)]
  rfl⟩
 obtain⟨A,c,d,e,h⟩:=outer (bh:=bh) ks [] _ .no .no (fun m hm=>⟨hm,hb m hm⟩) (by rw[eO];omega) h0;refine⟨A,?_,h⟩;show eY (fG.1 [.sh (.bj (fD ks (tB bh))),.no,.no,.no] [])=_;rw[QC];have e1:pC cU (sR (qA (.ok (.bj (fD ks (tB bh))))) [])=.ok (.bj (fD ks (tI ks))) (List.replicate ks.length (.lst [])):=by
  rw[qS];show pC cU (if fM (ks.map tM)=true/\(ks.map tM).length<=ji then Rz.ok (.lst (Ld 0 (ks.map tM))) ([]++List.replicate (ks.map tM).length (.lst []))else .bad)=_;rw[ab ⟨iJ ks,by rw[ah];unfold ji;omega⟩];show aq (cU [.lst (Ld 0 (ks.map tM))]) _=_;rw[Bk ks 0 nd,oJ (fun m=>.at (0+ks.idxOf m)) nd hl,ah];have:(fun m:Mk=>Tr.at (0+ks.idxOf m))=tI ks:=funext fun m=>by unfold tI;rw[hX]
  rw[this]
  rfl
 show eY (bS (cR 1 (pC cU (sR (qA (.ok (.bj (fD ks (tB bh))))) [])) [.sh (.bj (fD ks (tB bh))),.no,.no,.no]) _)=_;rw[e1];show eY (bS (Pk (jR (gN 2) bO (aq (qA (.ok (.bj (fD ks (tB bh))))) _) _)) _)=_;rw[qS];show eY (bS (Pk (jm (gN 2) bO (ks.map tM) [.sh (.bj (fD ks (tB bh))),.sh (.bj (fD ks (tI ks))),.no,.no] _)) _)=_;rw[e]
 rfl
end lY
namespace lY
open PySem L2
def C2(s:(Mk->Int)×List Mk)(f:Mk):(Mk->Int)×List Mk:=(fun x=>if x=f then s.1 f - 1 else s.1 x,if s.1 f - 1=0 then s.2++[f]else s.2)
def oF(E:List Mk)(s:(Mk->Int)×List Mk):(Mk->Int)×List Mk:=E.foldl C2 s
theorem oM{f:Mk}{E:List Mk}{s:(Mk->Int)×List Mk}:oF (f::E) s=oF E (C2 s f):=rfl
theorem HQ{E E':List Mk}{s:(Mk->Int)×List Mk}:oF (E++E') s=oF E' (oF E s):=ro
theorem Bl(s:(Mk->Int)×List Mk)(f:Mk):(C2 s f).2.length<=s.2.length+1:=by
 unfold C2;by_cases e:s.1 f - 1=0
 ·simp[e]
 ·simp[e]
theorem Bn:∀(E:List Mk) (s:(Mk->Int)×List Mk),(oF E s).2.length<=s.2.length+E.length
 |[],s=>by show s.2.length<=_;omega
 |f::E,s=>by
  rw[oM,br];have:=Bn E (C2 s f);have:=Bl s f;omega
theorem yv:∀(E:List Mk) (w:Mk->Int) (fs:List Mk),(∀m∈E,(E.count m:Int)<=w m)->
  (∀m,(oF E (w,fs)).1 m=w m - E.count m)/\∃X,(oF E (w,fs)).2=fs++X/\X.Nodup/\∀m,m∈X↔m∈E/\(E.count m:Int)=w m
 |[],w,fs,_=>⟨fun m=>by show w m=_;simp,[],by show fs=_;simp,f6,fun m=>by simp⟩
 |f::E,w,fs,h=>by
  have hc:∀m,(f::E).count m=E.count m+if m=f then 1 else 0:=fun m=>by
   rw[List.count_cons];by_cases e:m=f
   ·subst e;simp
   ·have:¬f=m:=fun h=>e h.symm;simp[e,this]
  obtain⟨h1,X,h2,h3,h4⟩:=yv E (fun x=>if x=f then w f - 1 else w x) (if w f - 1=0 then fs++[f]else fs) (fun m hm=>by
   have:=h m (aO _ hm);rw[hc]at this;by_cases e:m=f
   ·subst e;simp at this⊢;omega
   ·simp[e]at this⊢;exact this)
  refine⟨fun m=>?_,?_⟩
  ·rw[oM];unfold C2;rw[h1 m,hc];by_cases e:m=f
   ·subst e;simp;omega
   ·simp[e]
  ·rw[oM];unfold C2;show∃X,(oF E (fun x=>if x=f then w f - 1 else w x,if w f - 1=0 then fs++[f]else fs)).2=fs++X/\_;have hf:=h f (aS ..);rw[hc,ab rfl]at hf;have QK:f∈E↔0<E.count f:=(List.count_pos_iff).symm;by_cases e0:w f - 1=0
   ·rw[ab e0]at h2⊢;have hz:E.count f=0:=by omega
    have Yu:f∉E:=fun h=>by have:=QK.mp h;omega
    refine⟨f::X,by rw[h2];simp,?_,fun m=>?_⟩
    ·rw[dX];exact⟨fun hx=>Yu ((h4 f).mp hx).1,h3⟩
    ·rw[aN,aN,h4 m,hc];by_cases e:m=f
     ·subst e;simp[hz];omega
     ·simp[e]
   ·rw[af e0]at h2⊢;refine⟨X,h2,h3,fun m=>?_⟩;rw[h4 m,aN,hc];by_cases e:m=f
    ·subst e;simp only[dC,true_or,true_and];constructor
     ·intro⟨_,q⟩;omega
     ·intro q;refine⟨QK.mpr ?_,by omega⟩;omega
    ·simp[e]
structure ur(ks:List Mk)(bh:Mk->List Mk)(H:Mk->Nat):Prop where
 nd:ks.Nodup
 len:ks.length<=20
 U5:∀m∈ks,(bh m).Nodup
 LU:∀m∈ks,(bh m).length<=20
 pos:∀m∈ks,1<=H m
 lt:∀m∈ks,∀b∈bh m,b∈ks->H b<H m
 ex:∀m∈ks,H m=1\/∃b∈bh m,b∈ks/\H m=H b+1
 top:∀m∈ks,H m<=50
section
variable {ks:List Mk}{bh:Mk->List Mk}{H:Mk->Nat}
def cnt(ks:List Mk)(bh:Mk->List Mk)(H:Mk->Nat)(h:Nat)(m:Mk):Nat:=((bh m).filter fun b=>decide (b∈ks)&&decide (h<=H b)).length
structure Lv(ks:List Mk)(bh:Mk->List Mk)(H:Mk->Nat)(h:Nat)(hs ls:List Mk)(w:Mk->Int):Prop where
 h1:1<=h
 nd:hs.Nodup
 mem:∀m,m∈hs↔m∈ks/\H m<h
 MP:ls.Nodup
 wk:∀m,m∈ls↔m∈ks/\H m=h
 w:∀m∈ks,w m=cnt ks bh H h m
theorem dz{α:Type}{p:α->Bool}{l:List α}(h:l.Nodup):(l.filter p).Nodup:=List.Nodup.sublist List.filter_sublist h
theorem C3(K:ur ks bh H){m:Mk}(hm:m∈ks)(b:Mk):(oK bh ks b).count m=if b∈bh m then 1 else 0:=by
 unfold oK;rw[List.Nodup.count (dz K.nd)];simp[cx,hm]
theorem Bo:∀(ls:List Mk) (p:Mk->Prop) [DecidablePred p],(ls.map fun b=>if p b then 1 else 0).sum=(ls.filter fun b=>decide (p b)).length
 |[],_,_=>rfl
 |b::ls,p,_=>by
  rw[aA,List.sum_cons,Bo ls p,fm];by_cases e:p b
  ·simp[e];omega
  ·simp[e]
theorem Fj(K:ur ks bh H){ls:List Mk}{h:Nat}(MP:ls.Nodup)(lm:∀m,m∈ls↔m∈ks/\H m=h){m:Mk}(hm:m∈ks):
  (ls.flatMap (oK bh ks)).count m=((bh m).filter fun b=>decide (b∈ks)&&decide (H b=h)).length:=by
 rw[List.count_flatMap];have e:(List.count m∘oK bh ks)=fun b=>if b∈bh m then 1 else 0:=funext fun b=>C3 K hm b
 rw[e,Bo];refine List.Perm.length_eq ((j6 (dz MP) (dz (K.U5 m hm))).mpr fun b=>?_);rw[cx,cx,lm];simp only[ck,aJ];constructor
 ·rintro ⟨⟨a,b⟩,c⟩;exact⟨c,a,b⟩
 ·rintro ⟨c,a,b⟩;exact⟨⟨a,b⟩,c⟩
theorem oN{α:Type}:∀(l:List α) (p q r:α->Bool),(∀x∈l,p x=(q x||r x))->(∀x∈l,(q x&&r x)=false)->(l.filter p).length=(l.filter q).length+(l.filter r).length
 |[],_,_,_,_,_=>rfl
 |x::l,p,q,r,h1,h2=>by
  have e1:=h1 x (aS ..);have e2:=h2 x (aS ..);have ih:=oN l p q r (fun y hy=>h1 y (aO _ hy)) (fun y hy=>h2 y (aO _ hy));rw[fm,fm,fm,e1];cases hq:q x<;>cases hr:r x<;>simp[hq,hr]at e2⊢<;>omega
theorem C4(h:Nat)(m:Mk):cnt ks bh H h m=((bh m).filter fun b=>decide (b∈ks)&&decide (H b=h)).length+cnt ks bh H (h+1) m:=by
 unfold cnt;refine oN _ _ _ _ (fun b _=>?_) fun b _=>?_
 ·by_cases e:b∈ks
  ·simp only[e,decide_true,nC];by_cases e1:h<=H b
   ·by_cases e2:H b=h
    ·simp[e2]
    ·have:h+1<=H b:=by omega
     simp[e1,e2,this]
   ·have a:¬H b=h:=by omega
    have b:¬h+1<=H b:=by omega
    simp[e1,a,b]
  ·simp[e]
 ·by_cases e2:H b=h
  ·have:¬h+1<=H b:=by omega
   simp[this]
  ·simp[e2]
theorem Lv.next (K:ur ks bh H){h:Nat}{hs ls:List Mk}{w:Mk->Int}(L:Lv ks bh H h hs ls w):Lv ks bh H (h+1) (hs++ls) (oF (ls.flatMap (oK bh ks)) (w,[])).2 (oF (ls.flatMap (oK bh ks)) (w,[])).1:=by
 have sub:∀m∈ls.flatMap (oK bh ks),m∈ks:=fun m hm=>by
  obtain⟨b,_,hb⟩:=rE.mp hm;exact(cx.mp hb).1
 have hc:∀m∈ks,((ls.flatMap (oK bh ks)).count m:Int)=w m - cnt ks bh H (h+1) m:=fun m hm=>by
  rw[Fj K L.MP L.wk hm,L.w m hm,C4 h m];omega
 obtain⟨h1,X,h2,h3,h4⟩:=yv (ls.flatMap (oK bh ks)) w [] (fun m hm=>by rw[hc m (sub m hm)];omega);rw[kh]at h2;refine⟨by have:=L.h1;omega,?_,fun m=>?_,by rw[h2];exact h3,fun m=>?_,fun m hm=>?_⟩
 ·rw[i0];refine⟨L.nd,L.MP,fun a ha b hb e=>?_⟩;subst e;have:=((L.mem a).mp ha).2;have:=((L.wk a).mp hb).2;omega
 ·rw[bD,L.mem,L.wk];constructor
  ·rintro (⟨a,b⟩|⟨a,b⟩)
   ·exact⟨a,by omega⟩
   ·exact⟨a,by omega⟩
  ·rintro ⟨a,b⟩
   by_cases e:H m=h
   ·exact .inr ⟨a,e⟩
   ·exact .inl ⟨a,by omega⟩
 ·rw[h2,h4];constructor
  ·rintro ⟨hm,he⟩
   have hk:=sub m hm;refine⟨hk,?_⟩;rw[hc m hk]at he;have hz:cnt ks bh H (h+1) m=0:=by omega
   obtain⟨b,hb,hf⟩:=rE.mp hm;have lK:=(L.wk b).mp hb;have Nz:b∈bh m:=cb (cx.mp hf).2;have g1:=K.lt m hk b Nz lK.1;rcases K.ex m hk with e|⟨b2,k1,k2,k3⟩
   ·have:=K.pos b lK.1;omega
   ·by_cases q:h+1<=H b2
    ·exfalso;unfold cnt at hz;have:b2∈(bh m).filter fun b=>decide (b∈ks)&&decide (h+1<=H b):=cx.mpr ⟨k1,by simp[k2,q]⟩;rw[mQ.mp hz]at this;cases this
    ·omega
  ·rintro ⟨hk,he⟩
   rcases K.ex m hk with e|⟨b,k1,k2,k3⟩
   ·have:=L.h1;omega
   ·refine⟨rE.mpr ⟨b,(L.wk b).mpr ⟨k2,by omega⟩,cx.mpr ⟨hk,bF k1⟩⟩,?_⟩;rw[hc m hk];have hz:cnt ks bh H (h+1) m=0:=by
     unfold cnt;rw[mQ,List.filter_eq_nil_iff];intro a ha;by_cases q:a∈ks
     ·have:=K.lt m hk a ha q;have:¬h+1<=H a:=by omega
      simp[this]
     ·simp[q]
    omega
 ·rw[h1 m,hc m hm];omega
theorem Lv.last (K:ur ks bh H){h:Nat}{hs:List Mk}{w:Mk->Int}(L:Lv ks bh H h hs [] w):∀m∈ks,H m<h:=by
 have key:∀(n:Nat) (m:Mk),m∈ks->H m=h+n->False:=fun n=>by
  induction n with
  |zero=>exact fun m hm e=>by have:=(L.wk m).mpr ⟨hm,e⟩;cases this
  |succ n ih=>
   intro m hm e;rcases K.ex m hm with q|⟨b,k1,k2,k3⟩
   ·have:=L.h1;omega
   ·exact ih b k2 (by omega)
 intro m hm;by_cases q:H m<h
 ·exact q
 ·exact(key (H m - h) m hm (by omega)).elim
theorem Lv.start (K:ur ks bh H)(w:Mk->Int)(hw:∀m∈ks,w m=((bh m).filter fun b=>decide (b∈ks)).length):Lv ks bh H 1 [] (ks.filter fun m=>w m==0) w:=by
 have hc:∀m∈ks,cnt ks bh H 1 m=((bh m).filter fun b=>decide (b∈ks)).length:=fun m hm=>by
  unfold cnt;congr 1;refine List.filter_congr fun b _=>?_
  by_cases e:b∈ks
  ·have:=K.pos b e;simp[e];omega
  ·simp[e]
 refine⟨ak _,f6,fun m=>?_,dz K.nd,fun m=>?_,fun m hm=>by rw[hw m hm,hc m hm]⟩
 ·constructor
  ·intro h;cases h
  ·rintro ⟨a,b⟩;have:=K.pos m a;omega
 ·rw[cx];refine and_congr_right fun hm=>?_
  rw[hw m hm,h9];constructor
  ·intro e;rcases K.ex m hm with q|⟨b,k1,k2,k3⟩
   ·exact q
   ·have:b∈(bh m).filter fun b=>decide (b∈ks):=cx.mpr ⟨k1,bF k2⟩;have z:((bh m).filter fun b=>decide (b∈ks)).length=0:=by omega
    rw[mQ.mp z]at this;cases this
  ·intro e;have:(bh m).filter (fun b=>decide (b∈ks))=[]:=by
    rw[List.filter_eq_nil_iff];intro b hb q;have q:=cb q;have:=K.lt m hm b hb q;have:=K.pos b q;omega
   rw[this];rfl
end
end lY
namespace lY
open PySem L2
def bE:az->Ab->Rz Out:=fun ρ A=>bS (Eo (fun A=>aq (au ρ 3) A) (fun A=>aq (au ρ 9) A) (fun A=>aq (Rs.ok (Tr.int 1)) A) ρ A) fun ρ A=>BW (aq (kP (cO vL (cO oU (au (a_ A ρ) 3) (au (a_ A ρ) 9)) (Rs.ok (Tr.int 0)))) A) (fun A=>eJ (uW fh (aq (au ρ 7) A) fun A=>bR (aq (au ρ 9) A) fun A=>Rz.ok [] A) ρ) fun A=>Rz.ok (Out.nx ρ) A
def bL:az->Ab->Rz Out:=fun ρ A=>bS (IW (aq (au ρ 6) A) (fun A=>aq (au ρ 4) A) (fun A=>aq (au ρ 8) A) ρ) fun ρ A=>loopAt (gN 9) bE 100 (aq (cO oU (au ρ 2) (au ρ 8)) A) ρ
def bW:az->Ab->Rz Out:=fun ρ A=>bS (cR 7 (fg (vH (Rs.ok [])) A) ρ) fun ρ A=>bS (loopAt (gN 8) bL 100 (aq (au ρ 5) A) ρ) fun ρ A=>bS (cR 5 (aq (au ρ 7) A) ρ) fun ρ A=>K5 6 (fun A=>aq (Rs.ok (Tr.int 1)) A) ρ A
def cW:az->Ab->Rz Bool:=fun ρ A=>aq (kP (cO Kt (aL jo (ag (au (a_ A ρ) 5) (Rs.ok []))) (Rs.ok (Tr.int 0)))) A
def RP(A:Ab)(ρ:az):Rs Tr:=iD [none,some 1] (gN 0) (fun _=>Rs.ok true) (fun ρ=>fc (ag (au ρ 0) (ag (aL jo (ag (iD [none,some 1] (gN 0) (fun ρ=>kP (cO FQ (au ρ 0) (au ρ 1))) (fun ρ=>au ρ 0) (mn (cO oU (au ρ 1) (au ρ 0))) ρ) (Rs.ok []))) (Rs.ok [])))) (qA (au (a_ A ρ) 1)) (a_ A ρ)
def RQ(A:Ab)(ρ:az):Rs Tr:=iD [none,some 3] (gN 0) (fun ρ=>kP (cO vL (cO oU (au ρ 1) (au ρ 0)) (Rs.ok (Tr.int 0)))) (fun ρ=>au ρ 0) (qA (au (a_ A ρ) 1)) (a_ A ρ)
def gH:az->Ab->Rz Out:=fun ρ A=>bS (cR 1 (aq (aL cU (ag (au ρ 0) (Rs.ok []))) A) ρ) fun ρ A=>bS (cR 2 ((bR (aq (au ρ 1) A) fun A=>Rz.ok [] A).bind fH) ρ) fun ρ A=>bS (cR 3 (fg (aL cU (ag (RP A ρ) (Rs.ok []))) A) ρ) fun ρ A=>bS (cR 4 (fg (Rs.ok (Tr.bj [])) A) ρ) fun ρ A=>bS (cR 5 (fg (RQ A ρ) A) ρ) fun ρ A=>bS (cR 6 (aq (Rs.ok (Tr.int 1)) A) ρ) fun ρ A=>bS (fA cW bW 100 ρ A) fun ρ A=>jF (aq (au ρ 4) A)
theorem QL:gO.1=gH:=rfl
def tH(H:Mk->Nat)(m:Mk):Tr:=.int (H m)
structure Sy(ks:List Mk)(bh:Mk->List Mk)(H:Mk->Nat)(A:Ab)(w:Mk->Int)(hs:List Mk)(lv:Nat)(ls:List Mk):Prop where
 f:∀m∈ks,A[ks.idxOf m]?=some (.lst ((oK bh ks m).map tM))
 w:A[ks.length]?=some (.bj (fD ks fun m=>.int (w m)))
 h:A[ks.length+1]?=some (.bj (fD hs (tH H)))
 l:A[lv]?=some (.lst (ls.map tM))
 hl:ks.length+1<lv
structure Sx(ks:List Mk)(bh:Mk->List Mk)(H:Mk->Nat)(A:Ab)(w:Mk->Int)(hs:List Mk)(lv:Nat)(ls:List Mk)(fr:Nat)(fs:List Mk):Prop where
 y:Sy ks bh H A w hs lv ls
 r:A[fr]?=some (.lst (fs.map tM))
 hr:lv<fr
section
variable {ks:List Mk}{bh:Mk->List Mk}{H:Mk->Nat}{A:Ab}{w:Mk->Int}{hs ls fs:List Mk}{lv fr:Nat}
theorem cL{α:Type}{l:List α}{i:Nat}{x:α}(h:l[i]?=some x):i<l.length:=by
 by_cases q:i<l.length
 ·exact q
 ·rw[List.getElem?_eq_none (by omega)]at h;cases h
theorem tw{m:Mk}(h:m∈ks):ks.idxOf m<ks.length:=j4 h
theorem Sx.U6 (S:Sx ks bh H A w hs lv ls fr fs)(w':Mk->Int):Sx ks bh H (A.set ks.length (.bj (fD ks fun m=>.int (w' m)))) w' hs lv ls fr fs:=by
 have:=S.hr;have:=S.y.hl;refine⟨⟨fun m hm=>?_,?_,?_,?_,S.y.hl⟩,?_,S.hr⟩
 ·rw[cA (by have:=tw hm;omega)];exact S.y.f m hm
 ·rw[dJ (cL S.y.w)]
 ·rw[cA (by omega)];exact S.y.h
 ·rw[cA (by omega)];exact S.y.l
 ·rw[cA (by omega)];exact S.r
theorem Sx.U7 (S:Sx ks bh H A w hs lv ls fr fs)(HR:List Mk):Sx ks bh H (A.set (ks.length+1) (.bj (fD HR (tH H)))) w HR lv ls fr fs:=by
 have:=S.hr;have:=S.y.hl;refine⟨⟨fun m hm=>?_,?_,?_,?_,S.y.hl⟩,?_,S.hr⟩
 ·rw[cA (by have:=tw hm;omega)];exact S.y.f m hm
 ·rw[cA (by omega)];exact S.y.w
 ·rw[dJ (cL S.y.h)]
 ·rw[cA (by omega)];exact S.y.l
 ·rw[cA (by omega)];exact S.r
theorem Sx.U8 (S:Sx ks bh H A w hs lv ls fr fs)(BC:List Mk):Sx ks bh H (A.set fr (.lst (BC.map tM))) w hs lv ls fr BC:=by
 have:=S.hr;have:=S.y.hl;refine⟨⟨fun m hm=>?_,?_,?_,?_,S.y.hl⟩,?_,S.hr⟩
 ·rw[cA (by have:=tw hm;omega)];exact S.y.f m hm
 ·rw[cA (by omega)];exact S.y.w
 ·rw[cA (by omega)];exact S.y.h
 ·rw[cA (by omega)];exact S.y.l
 ·rw[dJ (cL S.r)]
def rW(T K:Tr)(ks:List Mk)(lv:Nat)(h:Int)(fr c d:Cell):az:=[.sh T,.sh K,.sh (.bj (fD ks (tI ks))),.sh (.at ks.length),.sh (.at (ks.length+1)),.sh (.at lv),.sh (.int h),fr,c,d]
theorem tD{n:Nat}{us:List Mk}{g:Mk->Int}(e:A[n]?=some (.bj (fD us fun m=>.int (g m))))(k:Nat):bT (k+1) A (.at n)=.bj (fD us fun m=>.int (g m)):=by
 rw[bT];simp only[e];unfold fD;rw[bC];congr 1;refine fT fun m _=>?_
 cases k<;>rfl
theorem tK{n:Nat}{us:List Mk}(e:A[n]?=some (.lst (us.map tM)))(k:Nat):bT (k+1) A (.at n)=.lst (us.map tM):=by
 rw[bT];simp only[e];rw[bC];congr 1;refine fT fun m _=>?_
 cases k<;>rfl
theorem QM(a b:Int):vL (.int a) (.int b)=.ok (.bl (a==b)):=ab ⟨rfl,rfl,by show 0<=40;decide⟩
theorem QN(S:Sx ks bh H A w hs lv ls fr fs)(kl:ks.length<=1000){T K:Tr}{h:Int}{c:Cell}{f:Mk}(hf:f∈ks)(hl:fs.length<=1000):
  ∃A',bE (rW T K ks lv h (.sh (.at fr)) c (.sh (tM f))) A=.ok (.nx (rW T K ks lv h (.sh (.at fr)) c (.sh (tM f)))) A'/\Sx ks bh H A' (C2 (w,fs) f).1 hs lv ls fr (C2 (w,fs) f).2:=by
 have S1:=S.U6 fun x=>if x=f then w f - 1 else w x
 have e1:Eo (fun A=>aq (au (rW T K ks lv h (.sh (.at fr)) c (.sh (tM f))) 3) A) (fun A=>aq (au (rW T K ks lv h (.sh (.at fr)) c (.sh (tM f))) 9) A) (fun A=>aq (Rs.ok (Tr.int 1)) A) (rW T K ks lv h (.sh (.at fr)) c (.sh (tM f))) A=.ok (.nx (rW T K ks lv h (.sh (.at fr)) c (.sh (tM f)))) (A.set ks.length (.bj (fD ks fun m=>.int (if m=f then w f - 1 else w m)))):=by
  have g1:En A (.at ks.length) (tM f)=some (w f):=by
   show(match A[ks.length]? with
    |some (.bj aD)=>(match jH aD (kM f)with
     |some (.int n)=>some n
     |_=>none)
    |_=>none)=_
   rw[S.y.w];show(match jH (fD ks fun m=>.int (w m)) (kM f)with
     |some (.int n)=>some n
     |_=>none)=_
   rw[qR,ab hf]
  have g2:p7 A (.at ks.length) (tM f) (.int (w f - 1))=some (A.set ks.length (.bj (fD ks fun m=>.int (if m=f then w f - 1 else w m)))):=by
   show(match A[ks.length]? with
    |some (.bj aD)=>if aD.length<ji then some (A.set ks.length (.bj (lq aD (kM f) (.int (w f - 1)))))else none
    |_=>none)=_
   rw[S.y.w];show(if(fD ks fun m=>.int (w m)).length<ji then some (A.set ks.length (.bj (lq (fD ks fun m=>.int (w m)) (kM f) (.int (w f - 1)))))else none)=_;rw[ab (by unfold fD ji;rw[ah];omega),Fh hf];have:(fun x=>if x=f then Tr.int (w f - 1)else Tr.int (w x))=fun m=>Tr.int (if m=f then w f - 1 else w m):=funext fun x=>by by_cases e:x=f<;>simp[e]
   rw[this]
  show(match En A (.at ks.length) (tM f)with
   |some n=>_
   |none=>Rz.bad)=_
  rw[g1];show(match p7 A (.at ks.length) (tM f) (.int (w f - 1))with
   |some A'=>Rz.ok (Out.nx _) A'
   |none=>Rz.bad)=_
  rw[g2]
 have key:bE (rW T K ks lv h (.sh (.at fr)) c (.sh (tM f))) A=BW (aq (kP (cO vL (cO oU (.ok (bT 5 (A.set ks.length (.bj (fD ks fun m=>.int (if m=f then w f - 1 else w m)))) (.at ks.length))) (.ok (tM f))) (Rs.ok (Tr.int 0)))) (A.set ks.length (.bj (fD ks fun m=>.int (if m=f then w f - 1 else w m))))) (fun A=>eJ (uW fh (aq (Rs.ok (.at fr)) A) fun A=>bR (aq (.ok (tM f)) A) fun A=>Rz.ok [] A) (rW T K ks lv h (.sh (.at fr)) c (.sh (tM f)))) fun A=>Rz.ok (Out.nx (rW T K ks lv h (.sh (.at fr)) c (.sh (tM f)))) A:=by
  unfold bE;rw[e1]
  rfl
 rw[key,tD S1.y.w];show∃A',BW (aq (kP (cO vL (oU (.bj (fD ks fun m=>.int (if m=f then w f - 1 else w m))) (tM f)) (Rs.ok (Tr.int 0)))) _) _ _=_/\_;rw[lE hf,ab rfl];show∃A',BW (aq (kP (vL (.int (w f - 1)) (Tr.int 0))) _) _ _=_/\_;rw[QM];by_cases z:w f - 1=0
 ·have e0:(C2 (w,fs) f)=(fun x=>if x=f then w f - 1 else w x,fs++[f]):=by unfold C2;simp only[z,dC]
  rw[e0];refine⟨_,?_,S1.U8 (fs++[f])⟩;have b0:((w f - 1:Int)==0)=true:=by rw[z];rfl
  rw[b0];show eJ (if BZ _ fr=true then fh fr [tM f] _ else .bad) _=_;have r1:=S1.r;have i1:BZ (A.set ks.length (.bj (fD ks fun m=>.int (if m=f then w f - 1 else w m)))) fr=true:=by unfold BZ;rw[r1]
  have a1:fh fr [tM f] (A.set ks.length (.bj (fD ks fun m=>.int (if m=f then w f - 1 else w m))))=.ok .cD ((A.set ks.length (.bj (fD ks fun m=>.int (if m=f then w f - 1 else w m)))).set fr (.lst ((fs++[f]).map tM))):=by
   unfold fh;simp only[r1];rw[ab (by rw[ah];unfold ji;omega),cH]
   rfl
  rw[ab i1,a1]
  rfl
 ·have e0:(C2 (w,fs) f)=(fun x=>if x=f then w f - 1 else w x,fs):=by unfold C2;simp only[z,aR]
  rw[e0];refine⟨_,?_,S1⟩;have b0:((w f - 1:Int)==0)=false:=by simp[z]
  rw[b0]
  rfl
theorem Bp(kl:ks.length<=1000){T K:Tr}{h:Int}{c:Cell}{b:Mk}(hb:b∈ks):∀(rem pre:List Mk) (n:Nat) (d:Cell) (A:Ab) (w:Mk->Int) (fs:List Mk),oK bh ks b=pre++rem->rem.length<n->fs.length+rem.length<=1000->Sx ks bh H A w hs lv ls fr fs->
  ∃A' d',gv (gN 9) bE (ks.idxOf b) n pre.length (rW T K ks lv h (.sh (.at fr)) c d) A=.ok (.nx (rW T K ks lv h (.sh (.at fr)) c d')) A'/\Sx ks bh H A' (oF rem (w,fs)).1 hs lv ls fr (oF rem (w,fs)).2
 |[],pre,n+1,d,A,w,fs,e,hn,hl,S=>⟨A,d,Wb (S.y.f b hb) (by rw[e];simp),S⟩
 |f::rem,pre,n+1,d,A,w,fs,e,hn,hl,S=>by
  have hf:f∈ks:=(cx.mp (show f∈oK bh ks b by rw[e];simp)).1;rw[br]at hl hn;obtain⟨A1,e1,S1⟩:=QN S kl (T:=T) (K:=K) (h:=h) (c:=c) hf (by omega);obtain⟨A2,d2,e2,S2⟩:=Bp kl (T:=T) (K:=K) (h:=h) (c:=c) hb rem (pre++[f]) n (.sh (tM f)) A1 _ _ (by rw[e];simp) (by omega) (by have:=Bl (w,fs) f;simp only at this;omega) S1;refine⟨A2,d2,?_,by rw[oM];exact S2⟩;rw[Wa (S.y.f b hb) (t:=tM f) (by rw[e];simp) (ρ2:=rW T K ks lv h (.sh (.at fr)) c (.sh (tM f))) e1];rw[aY,br,eO]at e2;exact e2
 |[],_,0,_,_,_,_,_,hn,_,_=>by omega
 |_::_,_,0,_,_,_,_,_,hn,_,_=>by omega
end
end lY
namespace lY
open PySem L2
section
variable {ks:List Mk}{bh:Mk->List Mk}{H:Mk->Nat}{A:Ab}{w:Mk->Int}{hs ls fs:List Mk}{lv fr:Nat}
theorem Bq(b:Mk):(oK bh ks b).length<=ks.length:=j7 _ _
theorem QO(kl:ks.length<=20)(S:Sx ks bh H A w hs lv ls fr fs){T K:Tr}{h:Int}{d:Cell}{m:Mk}(hm:m∈ks)(hh:(H m:Int)=h)(hn:m∉hs)(Y6:hs.length<=1000)(hl:fs.length+(oK bh ks m).length<=1000):
  ∃A' d',bL (rW T K ks lv h (.sh (.at fr)) (.sh (tM m)) d) A=.ok (.nx (rW T K ks lv h (.sh (.at fr)) (.sh (tM m)) d')) A'/\Sx ks bh H A' (oF (oK bh ks m) (w,fs)).1 (hs++[m]) lv ls fr (oF (oK bh ks m) (w,fs)).2:=by
 have S1:=S.U7 (hs++[m]);have g2:p7 A (.at (ks.length+1)) (tM m) (.int h)=some (A.set (ks.length+1) (.bj (fD (hs++[m]) (tH H)))):=by
  show(match A[ks.length+1]? with
   |some (.bj aD)=>if aD.length<ji then some (A.set (ks.length+1) (.bj (lq aD (kM m) (.int h))))else none
   |_=>none)=_
  rw[S.y.h];show(if(fD hs (tH H)).length<ji then some (A.set (ks.length+1) (.bj (lq (fD hs (tH H)) (kM m) (.int h))))else none)=_;rw[ab (by unfold fD ji;rw[ah];omega),yq hn (by unfold tH;rw[hh])]
 obtain⟨A2,d2,e2,S2⟩:=Bp (by omega) (T:=T) (K:=K) (h:=h) (c:=.sh (tM m)) hm (oK bh ks m) [] 100 d _ _ _ rfl (by have:=Bq (ks:=ks) (bh:=bh) m;omega) hl S1;refine⟨A2,d2,?_,S2⟩;show bS (match p7 A (.at (ks.length+1)) (tM m) (.int h)with
  |some A'=>Rz.ok (Out.nx (rW T K ks lv h (.sh (.at fr)) (.sh (tM m)) d)) A'
  |none=>Rz.bad) (fun ρ A=>loopAt (gN 9) bE 100 (aq (cO oU (au ρ 2) (au ρ 8)) A) ρ)=_
 rw[g2];show loopAt (gN 9) bE 100 (aq (oU (.bj (fD ks (tI ks))) (tM m)) _) _=_;rw[lE hm];show(match(A.set (ks.length+1) (.bj (fD (hs++[m]) (tH H))))[ks.idxOf m]? with
   |some (.lst ts)=>gv (gN 9) bE (ks.idxOf m) 100 0 (rW T K ks lv h (.sh (.at fr)) (.sh (tM m)) d) (A.set (ks.length+1) (.bj (fD (hs++[m]) (tH H))))
   |_=>Rz.bad)=_
 rw[S1.y.f m hm];exact e2
theorem Br(kl:ks.length<=20){T K:Tr}{h:Int}:∀(rem pre:List Mk) (n:Nat) (c d:Cell) (A:Ab) (w:Mk->Int) (hs fs:List Mk),ls=pre++rem->rem.length<n->(∀m∈rem,m∈ks/\(H m:Int)=h/\m∉hs)->rem.Nodup->hs.length+rem.length<=500->fs.length+rem.length*20<=1000->Sx ks bh H A w hs lv ls fr fs->
  ∃A' c' d',gv (gN 8) bL lv n pre.length (rW T K ks lv h (.sh (.at fr)) c d) A=.ok (.nx (rW T K ks lv h (.sh (.at fr)) c' d')) A'/\Sx ks bh H A' (oF (rem.flatMap (oK bh ks)) (w,fs)).1 (hs++rem) lv ls fr (oF (rem.flatMap (oK bh ks)) (w,fs)).2
 |[],pre,n+1,c,d,A,w,hs,fs,e,hn,hm,nd,h1,h2,S=>⟨A,c,d,Wb S.y.l (by rw[e];simp),by rw[dW];exact S⟩
 |m::rem,pre,n+1,c,d,A,w,hs,fs,e,hn,hm,nd,h1,h2,S=>by
  rw[br]at h1 h2 hn;rw[dX]at nd;obtain⟨m1,m2,m3⟩:=hm m (aS ..);have fl:=Bq (ks:=ks) (bh:=bh) m;obtain⟨A1,d1,e1,S1⟩:=QO kl S (T:=T) (K:=K) (h:=h) (d:=d) m1 m2 m3 (by omega) (by omega);obtain⟨A2,c2,d2,e2,S2⟩:=Br kl (T:=T) (K:=K) (h:=h) rem (pre++[m]) n (.sh (tM m)) d1 A1 _ _ _ (by rw[e];simp) (by omega) (fun x hx=>by
   obtain⟨a,b,c⟩:=hm x (aO _ hx);refine⟨a,b,fun q=>?_⟩;rcases bD.mp q with q|q
   ·exact c q
   ·rw[cB]at q;exact nd.1 (q▸hx)) nd.2 (by rw[aY,br,eO];omega) (by have:=Bn (oK bh ks m) (w,fs);simp only at this;omega) S1
  refine⟨A2,c2,d2,?_,?_⟩
  ·rw[Wa S.y.l (t:=tM m) (by rw[e];simp) (ρ2:=rW T K ks lv h (.sh (.at fr)) (.sh (tM m)) d1) e1];rw[aY,br,eO]at e2;exact e2
  ·rw[List.flatMap_cons,HQ];rw[fV]at S2;exact S2
 |[],_,0,_,_,_,_,_,_,_,hn,_,_,_,_,_=>by omega
 |_::_,_,0,_,_,_,_,_,_,_,hn,_,_,_,_,_=>by omega
theorem Sy.new (S:Sy ks bh H A w hs lv ls):Sx ks bh H (A++[Ao.lst []]) w hs lv ls A.length []:=by
 have l1:=cL S.w;have l2:=cL S.h;have l3:=cL S.l;refine⟨⟨fun m hm=>?_,?_,?_,?_,S.hl⟩,?_,l3⟩
 ·rw[cq (by have:=tw hm;omega)];exact S.f m hm
 ·rw[cq l1];exact S.w
 ·rw[cq l2];exact S.h
 ·rw[cq l3];exact S.l
 ·rw[dI (ak _),eD];rfl
theorem QP(S:Sy ks bh H A w hs lv ls){T K:Tr}{h:Int}{b c d:Cell}:cW (rW T K ks lv h b c d) A=.ok (decide (0<ls.length)) A:=by
 show aq (kP (cO Kt (aL jo (ag (.ok (bT 5 A (.at lv))) (Rs.ok []))) (Rs.ok (Tr.int 0)))) A=_;rw[tK S.l];show Rz.ok (decide ((0:Int)<((ls.map tM).length:Int))) A=_;rw[ah];congr 1;exact decide_eq_decide.mpr (by omega)
theorem QQ(K0:ur ks bh H){h:Nat}(L:Lv ks bh H h hs ls w)(S:Sy ks bh H A w hs lv ls){T K:Tr}{b c d:Cell}:
  ∃A' MQ b' c' d',bW (rW T K ks lv h b c d) A=.ok (.nx (rW T K ks MQ ((h+1:Nat):Int) b' c' d')) A'/\Sy ks bh H A' (oF (ls.flatMap (oK bh ks)) (w,[])).1 (hs++ls) MQ (oF (ls.flatMap (oK bh ks)) (w,[])).2:=by
 have Sn:=S.new;have hl:ls.length<=20:=bx (mJ L.MP fun m hm=>((L.wk m).mp hm).1) K0.len;have Y7:hs.length<=20:=bx (mJ L.nd fun m hm=>((L.mem m).mp hm).1) K0.len;obtain⟨A1,c1,d1,e1,S1⟩:=Br K0.len (T:=T) (K:=K) (h:=(h:Int)) ls [] 100 c d _ w hs [] rfl (by omega) (fun m hm=>by
  have:=(L.wk m).mp hm;exact⟨this.1,by omega,fun q=>by have:=((L.mem m).mp q).2;omega⟩) L.MP (by omega) (by rw[eO];omega) Sn
 refine⟨A1,A.length,.sh (.at A.length),c1,d1,?_,?_⟩
 ·show bS (loopAt (gN 8) bL 100 (.ok (.at lv) (A++[Ao.lst []])) (rW T K ks lv h (.sh (.at A.length)) c d)) _=_;have:loopAt (gN 8) bL 100 (.ok (.at lv) (A++[Ao.lst []])) (rW T K ks lv h (.sh (.at A.length)) c d)=gv (gN 8) bL lv 100 0 (rW T K ks lv h (.sh (.at A.length)) c d) (A++[Ao.lst []]):=by
   show(match(A++[Ao.lst []])[lv]? with
    |some (.lst ts)=>gv (gN 8) bL lv 100 0 (rW T K ks lv h (.sh (.at A.length)) c d) (A++[Ao.lst []])
    |_=>Rz.bad)=_
   rw[Sn.y.l]
  rw[this,show(0:Nat)=([]:List Mk).length from rfl,e1]
  rfl
 ·exact⟨S1.y.f,S1.y.w,S1.y.h,S1.r,by have:=Sn.hr;have:=S.hl;omega⟩
theorem Jl(K0:ur ks bh H){T K:Tr}:∀(k n h lv:Nat) (A:Ab) (w:Mk->Int) (hs ls:List Mk) (b c d:Cell),k<n->(∀m∈ks,H m<h+k)->Lv ks bh H h hs ls w->Sy ks bh H A w hs lv ls->
  ∃A' MQ h' HR b' c' d',fA cW bW n (rW T K ks lv (h:Int) b c d) A=.ok (.nx (rW T K ks MQ h' b' c' d')) A'/\A'[ks.length+1]?=some (.bj (fD HR (tH H)))/\HR.Perm ks
 |k,0,h,lv,A,w,hs,ls,b,c,d,hk,_,_,_=>by omega
 |k,n+1,h,lv,A,w,hs,ls,b,c,d,hk,ht,L,S=>by
  rw[fA,QP S]
  match ls,L,S with
  |[],L,S=>
   refine⟨A,lv,h,hs,b,c,d,rfl,S.h,(j6 L.nd K0.nd).mpr fun m=>?_⟩;rw[L.mem m];exact⟨fun q=>q.1,fun q=>⟨q,L.last K0 m q⟩⟩
  |m::ls,L,S=>
   have hm:=(L.wk m).mp (aS ..);have:=ht m hm.1;obtain⟨A1,Yv,b1,c1,d1,e1,S1⟩:=QQ K0 L S (T:=T) (K:=K) (b:=b) (c:=c) (d:=d)
   match k,hk,ht with
   |0,_,ht=>exact absurd (ht m hm.1) (by omega)
   |k+1,hk,ht=>
    obtain⟨A2,r⟩:=Jl K0 (T:=T) (K:=K) k n (h+1) Yv A1 _ _ _ b1 c1 d1 (by omega) (fun x hx=>by have:=ht x hx;omega) (L.next K0) S1;refine⟨A2,?_⟩;show∃MQ h' HR b' c' d',(bW (rW T K ks lv h b c d) A).bind _=_/\_;rw[e1];exact r
theorem QR{P:Mk->Bool}{f:Mk->Tr}{Q:az->Rs Bool}{F:az->Rs Tr}{xs:List Cell}:∀(ms:List Mk) (c:Cell),(∀m∈ms,Q (.sh (tM m)::xs)=.ok (P m))->(∀m∈ms,P m=true->F (.sh (tM m)::xs)=.ok (f m))->mq (gN 0) Q F (ms.map tM) (c::xs)=.ok ((ms.filter P).map f)
 |[],c,_,_=>rfl
 |m::ms,c,hQ,hF=>by
  have ih:=QR (P:=P) (f:=f) (Q:=Q) (F:=F) (xs:=xs) ms (.sh (tM m)) (fun x hx=>hQ x (aO _ hx)) (fun x hx=>hF x (aO _ hx));rw[aA,mq];show(FJ (Q (.sh (tM m)::xs))).bind _=_;rw[hQ m (aS ..)];cases p:P m with
  |true=>
   show(FJ (F (.sh (tM m)::xs))).bind _=_;rw[hF m (aS ..) p];show(mq (gN 0) Q F (ms.map tM) (.sh (tM m)::xs)).bind _=_;rw[ih,fm,p]
   rfl
  |false=>
   show mq (gN 0) Q F (ms.map tM) (.sh (tM m)::xs)=_;rw[ih,fm,p]
   rfl
def w0(ks:List Mk)(bh:Mk->List Mk)(m:Mk):Int:=((bh m).filter fun b=>decide (b∈ks)).length
theorem pL{ix:List (Option Nat)}{Q:az->Rs Bool}{F:az->Rs Tr}{ms:List Mk}{ρ:az}(h:ms.length<=1000):iD ix (gN 0) Q F (.ok (ms.map tM)) ρ=(mq (gN 0) Q F (ms.map tM) (l5 ix ρ)).bind fun ys=>.ok (.lst ys):=by
 show(if(ms.map tM).length<=ji then(mq (gN 0) Q F (ms.map tM) (l5 ix ρ)).bind fun ys=>Rs.ok (Tr.lst ys)else .bad)=_;rw[ab (by rw[ah];unfold ji;omega)]
theorem LV(K0:ur ks bh H){T:Tr}{FO c3 c4 c5 c6 c7 c8 c9:Cell}:RP A [.sh T,.sh (.bj (fD ks (tB bh))),FO,c3,c4,c5,c6,c7,c8,c9]=.ok (.lst (ks.map fun m=>.tup [tM m,.int (w0 ks bh m)])):=by
 have kl:=K0.len;unfold RP;show iD [none,some 1] (gN 0) _ _ (qA (.ok (.bj (fD ks (tB bh))))) _=_;rw[qS,pL (by omega)];show(mq (gN 0) _ _ (ks.map tM) [.no,.sh (.bj (fD ks (tB bh)))]).bind _=_;rw[QR (P:=fun _=>true) (f:=fun m=>.tup [tM m,.int (w0 ks bh m)]) ks .no (fun _ _=>rfl) fun m hm _=>?_]
 ·rw[List.filter_eq_self.mpr (fun _ _=>rfl)];rfl
 ·show fc (ag (.ok (tM m)) (ag (aL jo (ag (iD [none,some 1] (gN 0) _ _ (mn (oU (.bj (fD ks (tB bh))) (tM m))) _) (Rs.ok []))) (Rs.ok [])))=_;rw[lE hm];have bl:=K0.LU m hm;have e:iD [none,some 1] (gN 0) (fun ρ=>kP (cO FQ (au ρ 0) (au ρ 1))) (fun ρ=>au ρ 0) (mn (.ok (tB bh m))) [.sh (tM m),.sh (.bj (fD ks (tB bh)))]=.ok (.lst (((bh m).filter fun b=>decide (b∈ks)).map tM)):=by
   show iD [none,some 1] (gN 0) (fun ρ=>kP (cO FQ (au ρ 0) (au ρ 1))) (fun ρ=>au ρ 0) (.ok ((bh m).map tM)) _=_;rw[pL (by omega)];show(mq (gN 0) _ _ ((bh m).map tM) [.no,.sh (.bj (fD ks (tB bh)))]).bind _=_;rw[QR (P:=fun b=>decide (b∈ks)) (f:=tM) (bh m) .no (fun b _=>by
    show kP (FQ (tM b) (.bj (fD ks (tB bh))))=_;rw[zJ];rfl) (fun _ _ _=>rfl)]
   rfl
  rw[e];show Rs.ok (Tr.tup [tM m,.int ((((bh m).filter fun b=>decide (b∈ks)).map tM).length:Int)])=_;rw[ah]
  rfl
theorem yw:∀(us:List Mk) (g:Mk->Int),fM ((fD us fun m=>.int (g m)).map (·.2))=true
 |[],_=>rfl
 |u::us,g=>by
  show(true&&fM ((fD us fun m=>.int (g m)).map (·.2)))=true;rw[yw us g];rfl
theorem LW(K0:ur ks bh H){T:Tr}{FO c4 c5 c6 c7 c8 c9:Cell}{i:Nat}(e:A[i]?=some (.bj (fD ks fun m=>.int (w m)))):RQ A [.sh T,.sh (.bj (fD ks (tB bh))),FO,.sh (.at i),c4,c5,c6,c7,c8,c9]=.ok (.lst ((ks.filter fun m=>w m==0).map tM)):=by
 have kl:=K0.len;unfold RQ;show iD [none,some 3] (gN 0) _ _ (qA (.ok (.bj (fD ks (tB bh))))) _=_;rw[qS,pL (by omega)];show(mq (gN 0) _ _ (ks.map tM) [.no,.sh (bT 5 A (.at i))]).bind _=_;rw[tD e];rw[QR (P:=fun m=>w m==0) (f:=tM) ks .no (fun m hm=>by
  show kP (cO vL (oU (.bj (fD ks fun m=>.int (w m))) (tM m)) (Rs.ok (Tr.int 0)))=_;rw[lE hm];show kP (vL (.int (w m)) (Tr.int 0))=_;rw[QM];rfl) (fun _ _ _=>rfl)]
 rfl
theorem ef{i:Nat}{t:Tr}{A:Ab}{ρ:az}{G:az->Ab->Rz Out}:bS (cR i (.ok t A) ρ) G=G (ρ.set i (.sh t)) A:=rfl
def bp(ks:List Mk)(bh:Mk->List Mk):Tr:=.tup (ks.map fun m=>.tup [tM m,tB bh m])
theorem yx:∀ms:List Mk,de (ms.map tM)=true
 |[]=>rfl
 |m::ms=>by rw[aA,de,yx ms];rfl
theorem wm(bh:Mk->List Mk):∀ms:List Mk,de (ms.map fun m=>.tup [tM m,tB bh m])=true
 |[]=>rfl
 |m::ms=>by
  rw[aA,de,wm bh ms];show((true&&(de ((bh m).map tM)&&true))&&true)=true;rw[yx];rfl
theorem vn:∀(us:List Mk) (g:Mk->Int),uR (fD us fun m=>.int (g m))=true
 |[],_=>rfl
 |u::us,g=>by
  show(true&&uR (fD us fun m=>.int (g m)))=true;rw[vn us g];rfl
theorem C5(K0:ur ks bh H):∃hs:List Mk,gP [bp ks bh]=.ok (.bj (fD hs (tH H)))/\hs.Perm ks:=by
 have kl:=K0.len;obtain⟨A0,e0,h0⟩:=yu K0.nd (by omega) K0.U5
 let A1:Ab:=A0++[.bj (fD ks fun m=>.int (w0 ks bh m))]
 let A2:Ab:=A1++[.bj []]
 let A3:Ab:=A2++[.lst ((ks.filter fun m=>w0 ks bh m==0).map tM)]
 have n0:A0.length=ks.length:=h0.1;have n1:A1.length=ks.length+1:=by show(A0++[_]).length=_;rw[aY,n0];rfl
 have n2:A2.length=ks.length+2:=by show(A1++[_]).length=_;rw[aY,n1];rfl
 have q1:A1[ks.length]?=some (.bj (fD ks fun m=>.int (w0 ks bh m))):=by
  show(A0++[_])[ks.length]?=_
  rw[dI (by omega),n0,eD];rfl
 have q2:A2[ks.length]?=some (.bj (fD ks fun m=>.int (w0 ks bh m))):=by
  show(A1++[_])[ks.length]?=_
  rw[cq (by omega)];exact q1
 have Yw:Sy ks bh H A3 (w0 ks bh) [] (ks.length+2) (ks.filter fun m=>w0 ks bh m==0):=by
  refine⟨fun m hm=>?_,?_,?_,?_,by omega⟩
  ·have:=tw hm;show((A1++[_])++[_])[ks.idxOf m]?=_
   rw[cq (by rw[aY,n1];omega),cq (by omega)];show(A0++[_])[ks.idxOf m]?=_
   rw[cq (by omega)];exact h0.2 m hm
  ·show(A2++[_])[ks.length]?=_
   rw[cq (by omega)];exact q2
  ·show(A2++[_])[ks.length+1]?=_
   rw[cq (by omega)];show(A1++[_])[ks.length+1]?=_
   rw[dI (by omega),n1,eD];rfl
  ·show(A2++[_])[ks.length+2]?=_
   rw[dI (by omega),n2,eD];rfl
 obtain⟨A',MQ,h',HR,b',c',d',ew,q,hp⟩:=Jl K0 (T:=bp ks bh) (K:=.bj (fD ks (tB bh))) 50 100 1 _ A3 _ _ _ .no .no .no (by omega) (fun m hm=>by have:=K0.top m hm;omega) (Lv.start K0 (w0 ks bh) fun _ _=>rfl) Yw;refine⟨HR,?_,hp⟩;have key:gP [bp ks bh]=fN (gH [.sh (bp ks bh),.no,.no,.no,.no,.no,.no,.no,.no,.no] []):=by
  show(if _/\_ then fN (gO.1 _ _)else Rs.bad)=_;rw[ab ⟨rfl,by show(de _&&true)=true;rw[wm];rfl⟩,QL]
  rfl
 rw[key];unfold gH;have d1:aL cU (ag (au [.sh (bp ks bh),.no,.no,.no,.no,.no,.no,.no,.no,.no] 0) (Rs.ok []))=.ok (.bj (fD ks (tB bh))):=yt (tB bh) K0.nd (by omega);rw[d1];show fN (bS (cR 2 (fH [.bj (fD ks (tB bh))] []) [.sh (bp ks bh),.sh (.bj (fD ks (tB bh))),.no,.no,.no,.no,.no,.no,.no,.no]) _)=_;rw[e0];show fN (bS (cR 3 (fg (aL cU (ag (RP A0 [.sh (bp ks bh),.sh (.bj (fD ks (tB bh))),.sh (.bj (fD ks (tI ks))),.no,.no,.no,.no,.no,.no,.no]) (Rs.ok []))) A0) [.sh (bp ks bh),.sh (.bj (fD ks (tB bh))),.sh (.bj (fD ks (tI ks))),.no,.no,.no,.no,.no,.no,.no]) _)=_;rw[LV K0];have d2:aL cU (ag (.ok (.lst (ks.map fun m=>.tup [tM m,.int (w0 ks bh m)]))) (Rs.ok []))=.ok (.bj (fD ks fun m=>.int (w0 ks bh m))):=oJ (fun m=>.int (w0 ks bh m)) K0.nd (by omega);rw[d2];have d3:fg (.ok (.bj (fD ks fun m=>.int (w0 ks bh m)))) A0=.ok (.at ks.length) A1:=by
  show(if fM ((fD ks fun m=>.int (w0 ks bh m)).map (·.2))=true then Rz.ok (Tr.at A0.length) A1 else .bad)=_;rw[ab (yw _ _),n0]
 rw[d3];rw[ef];have d5:fg (Rs.ok (Tr.bj [])) A1=.ok (.at (ks.length+1)) A2:=by
  show Rz.ok (Tr.at A1.length) A2=_;rw[n1]
 rw[d5,ef];show fN (bS (cR 5 (fg (RQ A2 [.sh (bp ks bh),.sh (.bj (fD ks (tB bh))),.sh (.bj (fD ks (tI ks))),.sh (.at ks.length),.sh (.at (ks.length+1)),.no,.no,.no,.no,.no]) A2) [.sh (bp ks bh),.sh (.bj (fD ks (tB bh))),.sh (.bj (fD ks (tI ks))),.sh (.at ks.length),.sh (.at (ks.length+1)),.no,.no,.no,.no,.no]) _)=_;rw[LW K0 q2];have d4:fg (.ok (.lst ((ks.filter fun m=>w0 ks bh m==0).map tM))) A2=.ok (.at (ks.length+2)) A3:=by
  show(if fM ((ks.filter fun m=>w0 ks bh m==0).map tM)=true then Rz.ok (Tr.at A2.length) A3 else .bad)=_;rw[ab (iJ _),n2]
 rw[d4];show fN (bS (fA cW bW 100 (rW (bp ks bh) (.bj (fD ks (tB bh))) ks (ks.length+2) 1 .no .no .no) A3) _)=_;rw[show(1:Int)=((1:Nat):Int)from rfl,ew];show(if iu (bT 3 A' (.at (ks.length+1)))=true then Rs.ok (bT 3 A' (.at (ks.length+1)))else Rs.bad)=_;rw[tD (g:=fun m=>(H m:Int)) q];have nz:iu (Tr.bj (fD HR fun m=>Tr.int (H m:Int)))=true:=by rw[iu];exact vn _ _
 rw[ab nz]
 rfl
end
end lY
namespace lY
open PySem L2
section
variable {ks:List Mk}{bh:Mk->List Mk}{H:Mk->Nat}
def oO(k:Nat)(t:Tr):Prop:=fJ k [t,t]=.ok (.bl true)
theorem same_int(k:Nat)(i:Int):oO (k+1) (.int i):=by
 show kR (sx (Kf (.ok (.bl true)) (vL (.int i) (.int i))))=_;rw[QM,bB];rfl
def gZ(k:Nat):az->Rs Tr:=fun ρ=>aL (fJ k) (ag (au ρ 0) (ag (au ρ 1) (.ok [])))
theorem Bs{k:Nat}:∀(ts:List Tr) (a b:Cell),(∀t∈ts,oO k t)->mq (gT [0,1]) (fun _=>.ok true) (gZ k) (Cn ts ts) [a,b]=.ok (ts.map fun _=>.bl true)
 |[],a,b,_=>rfl
 |t::ts,a,b,h=>by
  have e:=h t (aS ..);unfold oO at e;show(FJ (fJ k [t,t])).bind (fun y=>(mq (gT [0,1]) (fun _=>.ok true) (gZ k) (Cn ts ts) [.sh t,.sh t]).bind fun ys=>.ok (y::ys))=_;rw[e,Bs ts (.sh t) (.sh t) fun u m=>h u (aO _ m)]
  rfl
theorem yy:∀ts:List Tr,BS (ts.map fun _=>Tr.bl true)=.ok (ts.map fun _=>true)
 |[]=>rfl
 |t::ts=>by rw[aA,BS,yy ts];rfl
theorem all_true:∀ts:List Tr,(ts.map fun _=>true).all id=true
 |[]=>rfl
 |t::ts=>by rw[aA,hJ,all_true ts];rfl
theorem zK{b:Bool}:kP (.ok (.bl b))=.ok b:=rfl
theorem Jm{a b:Bool}:Mv (.ok a) (.ok b)=.ok (a||b):=by cases a<;>rfl
theorem oP{k:Nat}{ts:List Tr}(hl:ts.length<=1000)(h:∀t∈ts,oO k t):oO (k+1) (.tup ts):=by
 unfold oO;have e1:tY (.int (ts.length:Int)) (.int (ts.length:Int))=.ok (.bl (!((ts.length:Int)==(ts.length:Int)))):=rfl;show kR (xn (N_ (.ok true) (xn (N_ (Mv (.ok false) (kP (tY (.int (ts.length:Int)) (.int (ts.length:Int))))) (sx (Rs.ok (.bl false))) (.ok (.nx [.sh (.tup ts),.sh (.tup ts)]))) fun ρ=>sx (aL BU (ag (iD [none,none] (gT [0,1]) (fun _=>.ok true) (gZ k) (Tn (ag (au ρ 0) (ag (au ρ 1) (.ok [])))) ρ) (.ok [])))) (.ok (.nx [.sh (.tup ts),.sh (.tup ts)]))) _)=_;rw[e1,bB,zK,Jm];show kR (xn (sx (aL BU (ag (iD [none,none] (gT [0,1]) (fun _=>.ok true) (gZ k) (if ts.length<=ts.length then .ok (Cn ts ts)else .bad) [.sh (.tup ts),.sh (.tup ts)]) (.ok [])))) _)=_;rw[ab (ak _)];have e2:iD [none,none] (gT [0,1]) (fun _=>.ok true) (gZ k) (.ok (Cn ts ts)) [.sh (.tup ts),.sh (.tup ts)]=.ok (.lst (ts.map fun _=>.bl true)):=by
  show(if(Cn ts ts).length<=ji then(mq (gT [0,1]) (fun _=>.ok true) (gZ k) (Cn ts ts) [.no,.no]).bind fun ys=>Rs.ok (Tr.lst ys)else Rs.bad)=_;rw[ab (by
   have:(Cn ts ts).length<=ts.length:=by unfold Cn;rw[rf];omega
   exact bx this (bx hl (by decide))),Bs ts .no .no h]
  rfl
 rw[e2];have e3:BU [.lst (ts.map fun _=>.bl true)]=.ok (.bl true):=by
  show(BS (ts.map fun _=>Tr.bl true)).bind (fun bs=>Rs.ok (Tr.bl (bs.all id)))=_;rw[yy];show Rs.ok (Tr.bl ((ts.map fun _=>true).all id))=_;rw[all_true]
 show kR (xn (sx (BU [.lst (ts.map fun _=>.bl true)])) _)=_;rw[e3]
 rfl
theorem vo(k:Nat)(m:Mk):oO (k+2) (tM m):=oP (by show 2<=1000;decide) fun t ht=>by
 rcases aN.mp ht with rfl|ht
 ·exact same_int k _
 ·rw[cB]at ht;subst ht;exact same_int k _
theorem zL(k:Nat){ms:List Mk}(h:ms.length<=1000):oO (k+3) (.tup (ms.map tM)):=oP (by rw[ah];exact h) fun t ht=>by
 obtain⟨m,_,rfl⟩:=aW.mp ht;exact vo k m
def tP(H:Mk->Nat)(m:Mk):Tr:=.tup [.int (H m),tM m]
theorem Fl(m:Mk):fK (tP H m)=[(H m:Int),m.1,m.2]:=rfl
theorem Fm{a b:Mk}(e:fK (tP H a)=fK (tP H b)):a=b:=by
 rw[Fl,Fl]at e;injection e with _ e
 injection e with e1 e
 injection e with e2 _
 exact kB e1 e2
def Fo(H:Mk->Nat)(a b:Mk):Bool:=lX (fK (tP H a)) (fK (tP H b))
def cz(H:Mk->Nat)(ks:List Mk):List Mk:=ks.mergeSort (Fo H)
theorem vp{l l':List Mk}(h:l.Perm l'):cz H l=cz H l':=by
 unfold cz;refine jv (le:=fun a b=>Fo H a b=true) (fun a b _ _ h1 h2=>Fm (gw h1 h2)) ?_ ?_ (((cM l _).trans h).trans (cM l' _).symm)
 ·exact jx (le:=Fo H) (fun a b c h1 h2=>fQ h1 h2) (fun a b=>fR _ _) _
 ·exact jx (le:=Fo H) (fun a b c h1 h2=>fQ h1 h2) (fun a b=>fR _ _) _
theorem HS(ms:List Mk):fB (ms.map (tP H))=(cz H ms).map (tP H):=by
 unfold fB cz;exact(rl (r:=Fo H) (s:=fun a b=>lX (fK a) (fK b)) (f:=tP H) fun a _ b _=>rfl).symm
theorem LX{ms:List Mk}(nd:ms.Nodup)(hl:ms.length<=20):yD (ms.map (tP H))=true/\((ms.map (tP H)).all fun t=>(fK t).length==3)=true:=by
 have a3:((ms.map (tP H)).all fun t=>(fK t).length==3)=true:=by
  rw[bG];intro t ht;obtain⟨m,_,rfl⟩:=aW.mp ht
  rfl
 refine⟨?_,a3⟩;unfold yD;have a1:((ms.map (tP H)).all fun t=>(Hx t).isSome)=true:=by
  rw[bG];intro t ht;obtain⟨m,_,rfl⟩:=aW.mp ht
  rfl
 have a2:((ms.map (tP H)).map fK).Nodup:=by
  rw[bC];unfold List.Nodup at nd⊢;rw[gX];exact nd.imp fun{a b} h e=>h (Fm e)
 rw[a1,a3,bF a2,bF (by rw[ah];omega),Bool.or_true]
 rfl
def TB:Ab:=[Ao.tb "order" "order.<locals>.<lambda>"]
theorem yz(ms:List Mk):(cz H ms).length=ms.length:=(cM ms _).length_eq
theorem Bt(K0:ur ks bh H){A:Ab}(hA:A[0]?=some (Ao.tb "order" "order.<locals>.<lambda>")):jO [bp ks bh] A=.ok (.tup ((cz H ks).map tM)) A:=by
 obtain⟨hs,e,p⟩:=C5 K0;have e1:lC "order" "order.<locals>.<lambda>" (.ok (.bj (fD hs (tH H)))) A=.ok (.lst ((cz H ks).map tM)) A:=by
  have hi:iq (fD hs (tH H))=hs.map (tP H):=by
   unfold iq fD;rw[bC]
   rfl
  obtain⟨o1,o2⟩:=LX (H:=H) (p.nodup_iff.mpr K0.nd) (by rw[p.length_eq];exact K0.len);unfold lC;rw[hA];show aq (if yD (iq (fD hs (tH H)))=true/\((iq (fD hs (tH H))).all fun t=>(fK t).length==3)=true then Rs.ok (Tr.lst ((fB (iq (fD hs (tH H)))).map E6))else .bad) A=_;rw[hi,ab ⟨o1,o2⟩,HS,vp p,bC]
  rfl
 show eY (wj.1 [.sh (bp ks bh),.no] A)=_;show eY (bS (cR 1 (aq (gP [bp ks bh]) A) [.sh (bp ks bh),.no]) fun ρ A=>jF (pU cT (bR (lC "order" "order.<locals>.<lambda>" (au ρ 1) A) fun A=>Rz.ok [] A)))=_;rw[e];show eY (jF (pU cT (bR (lC "order" "order.<locals>.<lambda>" (.ok (.bj (fD hs (tH H)))) A) fun A=>Rz.ok [] A)))=_;rw[e1];show eY (jF (if uV (.tup ((cz H ks).map tM))=true then Rz.ok (.tup ((cz H ks).map tM)) A else .bad))=_;have:uV (.tup ((cz H ks).map tM))=true:=by rw[uV];exact iJ _
 rw[ab this]
 rfl
end
end lY
namespace lY
open PySem L2
def mix(c p m:Int):Int:=(c*48271 % p)*(c*48271 % p+7) % p % m
theorem wo{c p m:Int}(hm:0<m):0<=mix c p m/\mix c p m<m:=⟨rJ _ (by omega),rj _ hm⟩
theorem wq{i j:Int}(h:pP i j):jD (.int i) (.int j)=.ok (.int (i*j)):=ab h
theorem qa(c p m:Int)(hp:0<p)(BK:p<=1048576)(hm:0<m):bK [.int c,.int p,.int m]=.ok (.int (mix c p m)):=by
 have b0:0<=c*48271 % p:=rJ _ (by omega);have b1:c*48271 % p<p:=rj _ hp;show kR (xn (Ki 3 (cO ug (jD (.int c) (.int 48271)) (.ok (.int p))) [.sh (.int c),.sh (.int p),.sh (.int m),.no]) fun ρ=>sx (cO ug (cO ug (cO jD (au ρ 3) (cO gn (au ρ 3) (Rs.ok (.int 7)))) (au ρ 1)) (au ρ 2)))=_;have q1:jD (.int c) (.int 48271)=.ok (.int (c*48271)):=ab (.inr ⟨by decide,by decide⟩);rw[q1];have q2:cO ug (.ok (.int (c*48271))) (.ok (.int p))=.ok (.int (c*48271 % p)):=ab hp;rw[q2];show kR (sx (cO ug (cO ug (jD (.int (c*48271 % p)) (.int (c*48271 % p+7))) (.ok (.int p))) (.ok (.int m))))=_;have q3:jD (.int (c*48271 % p)) (.int (c*48271 % p+7))=.ok (.int ((c*48271 % p)*(c*48271 % p+7))):=ab (.inl ⟨by omega,by omega⟩);rw[q3];have q4:cO ug (.ok (.int ((c*48271 % p)*(c*48271 % p+7)))) (.ok (.int p))=.ok (.int ((c*48271 % p)*(c*48271 % p+7) % p)):=ab hp;rw[q4];have q5:cO ug (.ok (.int ((c*48271 % p)*(c*48271 % p+7) % p))) (.ok (.int m))=.ok (.int (mix c p m)):=ab hm;rw[q5]
 rfl
theorem zM(ns:List Int)(k:Int)(h:0<=k):∃c,fI [.gB ns,.int k]=.ok (.int c):=by
 show∃c,kR (xn (N_ (.ok (decide (k<(ns.length:Int)))) (sx ((C' (L2.t6 ns k)).bind fun n=>.ok (.int n))) (.ok (.nx [.sh (.gB ns),.sh (.int k)]))) fun ρ=>sx (Rs.ok (.int 0)))=_;by_cases hk:k<(ns.length:Int)
 ·have hl:k.toNat<ns.length:=by omega
  have e:L2.t6 ns k=some (ns[k.toNat]):=by
   have q:=Ge (xs:=ns) (j:=k.toNat) (aB hl);rw[Int.toNat_of_nonneg h]at q;exact q
  rw[bF hk,e];exact⟨_,rfl⟩
 ·rw[bg hk];exact⟨0,rfl⟩
def sd(c:Int)(k:Nat):Int:=c+37*(k:Int)
def uu(c:Int)(k:Nat):Mk:=(mix (sd c k) 9601 3,(k:Int))
def marks(c:Int)(k:Nat):List Mk:=(List.range k).map (uu c)
def yA(c:Int)(k:Nat):List Mk:=if mix (sd c k) 9551 5==0 then[(mix (sd c k) 9547 4,90+mix (sd c k) 9539 4)]else[]
def Fp(c:Int)(k:Nat):List Mk:=(marks c k).filter fun o=>mix (sd c k+11*o.2) 9587 3==0
def wJ(c:Int)(k:Nat):List Mk:=Fp c k++yA c k
def wK(a b:Mk):Bool:=lX (fK (tM a)) (fK (tM b))
def bX(c:Int)(m:Mk):List Mk:=(wJ c m.2.toNat).mergeSort wK
def bM(c:Int)(m:Mk):Tr:=.tup [tM m,tB (bX c) m]
theorem tN(c:Int)(k:Nat):marks c (k+1)=marks c k++[uu c k]:=by unfold marks;rw[rN,cH];rfl
theorem dH(c:Int)(k:Nat):(marks c k).length=k:=by unfold marks;rw[ah,fW]
theorem lR{c:Int}{k:Nat}{m:Mk}:m∈marks c k↔∃j,j<k/\m=uu c j:=by
 unfold marks;rw[aW];constructor
 ·rintro ⟨j,hj,rfl⟩;exact⟨j,cC.mp hj,rfl⟩
 ·rintro ⟨j,hj,rfl⟩;exact⟨j,cC.mpr hj,rfl⟩
theorem tO(c:Int)(k:Nat):(marks c k).Nodup:=by
 unfold marks List.Nodup;rw[gX];refine(rB (n:=k)).imp fun{a b} h e=>h ?_
 have:(a:Int)=(b:Int):=bJ Prod.snd e;omega
theorem Fq(c:Int)(k:Nat)(hk:k<20):(wJ c k).Nodup:=by
 unfold wJ;rw[i0];refine⟨dz (tO c k),?_,fun a ha b hb e=>?_⟩
 ·unfold yA;split
  ·simp
  ·exact f6
 ·subst e;obtain⟨j,hj,rfl⟩:=lR.mp (cx.mp ha).1;unfold yA at hb;split at hb
  ·rw[cB]at hb;have:(j:Int)=90+mix (sd c k) 9539 4:=bJ Prod.snd hb;have:=(wo (c:=sd c k) (p:=9539) (m:=4) (by decide)).1;omega
  ·cases hb
theorem Bu(c:Int)(k:Nat):(wJ c k).length<=k+1:=by
 unfold wJ;rw[aY];have a:(Fp c k).length<=(marks c k).length:=j7 _ _;rw[dH]at a;have b:(yA c k).length<=1:=by
  unfold yA;split
  ·exact ak 1
  ·exact bP 1
 omega
theorem zN{a b:Mk}(e:fK (tM a)=fK (tM b)):a=b:=by
 have e:[a.1,a.2]=[b.1,b.2]:=e;injection e with e1 e
 injection e with e2 _
 exact kB e1 e2
theorem HU(ms:List Mk):fB (ms.map tM)=(ms.mergeSort wK).map tM:=by
 unfold fB;exact(rl (r:=wK) (s:=fun a b=>lX (fK a) (fK b)) (f:=tM) fun a _ b _=>rfl).symm
theorem HV{ms:List Mk}(nd:ms.Nodup)(hl:ms.length<=18):d_ (.lst (ms.map tM))=.ok (.lst ((ms.mergeSort wK).map tM)):=by
 have a3:((ms.map tM).all fun t=>(fK t).length==2)=true:=by
  rw[bG];intro t ht;obtain⟨m,_,rfl⟩:=aW.mp ht
  rfl
 have a1:((ms.map tM).all fun t=>(Hx t).isSome)=true:=by
  rw[bG];intro t ht;obtain⟨m,_,rfl⟩:=aW.mp ht
  rfl
 have a2:((ms.map tM).map fK).Nodup:=by
  rw[bC];unfold List.Nodup at nd⊢;rw[gX];exact nd.imp fun{a b} h e=>h (zN e)
 have ok:yD (ms.map tM)=true:=by
  unfold yD;rw[a1,a3,bF a2,bF (by rw[ah];omega),nF]
  rfl
 show(if yD (ms.map tM)=true/\(ms.map tM).length<=18/\((ms.map tM).all fun t=>(fK t).length==2)=true then Rs.ok (Tr.lst (fB (ms.map tM)))else .bad)=_;rw[ab ⟨ok,by rw[ah];exact hl,a3⟩,HU]
def MR(A:Ab)(ρ:az):Rs Tr:=iD [none,some 5] (gN 0) (fun ρ=>kP (cO vL (aL bK (ag (cO gn (au ρ 1) (cO jD (Rs.ok (Tr.int 11)) (cO Ku (au ρ 0) (Rs.ok (Tr.int 1))))) (ag (Rs.ok (Tr.int 9587)) (ag (Rs.ok (Tr.int 3)) (Rs.ok []))))) (Rs.ok (Tr.int 0)))) (fun ρ=>au ρ 0) (mn (au (a_ A ρ) 2)) (a_ A ρ)
def U9:az->Ab->Rz Out:=fun ρ A=>BW (aq (kP (cO vL (aL bK (ag (au ρ 5) (ag (Rs.ok (Tr.int 9551)) (ag (Rs.ok (Tr.int 5)) (Rs.ok []))))) (Rs.ok (Tr.int 0)))) A) (fun A=>eJ (uW fh (aq (au ρ 7) A) fun A=>bR (aq (fc (ag (aL bK (ag (au ρ 5) (ag (Rs.ok (Tr.int 9547)) (ag (Rs.ok (Tr.int 4)) (Rs.ok []))))) (ag (cO gn (Rs.ok (Tr.int 90)) (aL bK (ag (au ρ 5) (ag (Rs.ok (Tr.int 9539)) (ag (Rs.ok (Tr.int 4)) (Rs.ok [])))))) (Rs.ok [])))) A) fun A=>Rz.ok [] A) ρ) fun A=>Rz.ok (Out.nx ρ) A
def U_:az->Ab->Rz Out:=fun ρ A=>eJ (uW fh (aq (au ρ 2) A) fun A=>bR (aq (au ρ 6) A) fun A=>Rz.ok [] A) ρ
def U':az->Ab->Rz Out:=fun ρ A=>eJ (uW fh (aq (au ρ 3) A) fun A=>bR (vN (fc (ag (au (a_ A ρ) 6) (ag (aL cT (ag ((au (a_ A ρ) 7).bind d_) (Rs.ok []))) (Rs.ok [])))) A) fun A=>Rz.ok [] A) ρ
def MS:az->Ab->Rz Out:=fun ρ A=>bS (cR 5 (aq (cO gn (au ρ 0) (cO jD (Rs.ok (Tr.int 37)) (au ρ 4))) A) ρ) fun ρ A=>bS (cR 6 (aq (fc (ag (aL bK (ag (au ρ 5) (ag (Rs.ok (Tr.int 9601)) (ag (Rs.ok (Tr.int 3)) (Rs.ok []))))) (ag (au ρ 4) (Rs.ok [])))) A) ρ) fun ρ A=>bS (cR 7 (fg (MR A ρ) A) ρ) fun ρ A=>bS (U9 ρ A) fun ρ A=>bS (U_ ρ A) fun ρ A=>U' ρ A
def Wc:az->Ab->Rz Out:=fun ρ A=>bS (cR 2 (fg (vH (Rs.ok [])) A) ρ) fun ρ A=>bS (cR 3 (fg (vH (Rs.ok [])) A) ρ) fun ρ A=>bS (jR (gN 4) MS (aq (nX (ag (aL bK (ag (au ρ 0) (ag (Rs.ok (Tr.int 9613)) (ag (cO gn (au ρ 1) (Rs.ok (Tr.int 1))) (Rs.ok []))))) (Rs.ok []))) A) ρ) fun ρ A=>jF (aq (au ρ 3) A)
theorem LY:lD.1=Wc:=rfl
theorem wt{A:Ab}{i:Nat}{ts:List Tr}{t:Tr}(e:A[i]?=some (.lst ts))(hl:ts.length<=1000):uW fh (.ok (.at i) A) (fun A=>.ok [t] A)=.ok .cD (A.set i (.lst (ts++[t]))):=by
 show(if BZ A i=true then fh i [t] A else .bad)=_;have e1:BZ A i=true:=by unfold BZ;rw[e]
 have e2:fh i [t] A=.ok .cD (A.set i (.lst (ts++[t]))):=by
  unfold fh;simp only[e];rw[ab (by unfold ji;omega)]
 rw[ab e1,e2]
theorem L0(c:Int)(k:Nat)(hk:k<20){A:Ab}(h0:A[0]?=some (.lst ((marks c k).map tM))){a b d e f g:Cell}:MR A [a,b,.sh (.at 0),d,e,.sh (.int (sd c k)),f,g]=.ok (.lst ((Fp c k).map tM)):=by
 unfold MR;show iD [none,some 5] (gN 0) _ _ (mn (.ok (bT 5 A (.at 0)))) _=_;rw[tK h0];show iD [none,some 5] (gN 0) _ _ (.ok ((marks c k).map tM)) _=_;rw[pL (by rw[dH];omega)];show(mq (gN 0) _ _ ((marks c k).map tM) [.no,.sh (.int (sd c k))]).bind _=_;rw[QR (P:=fun o=>mix (sd c k+11*o.2) 9587 3==0) (f:=tM) (marks c k) .no (fun o ho=>?_) (fun _ _ _=>rfl)]
 ·rfl
 ·show kP (cO vL (aL bK (ag (cO gn (.ok (.int (sd c k))) (jD (Tr.int 11) (.int o.2))) (ag (Rs.ok (Tr.int 9587)) (ag (Rs.ok (Tr.int 3)) (Rs.ok []))))) (Rs.ok (Tr.int 0)))=_;rw[wq (.inl ⟨by decide,by decide⟩)];show kP (cO vL (bK [.int (sd c k+11*o.2),.int 9587,.int 3]) (Rs.ok (Tr.int 0)))=_;rw[qa _ _ _ (by decide) (by decide) (by decide)];show kP (vL (.int (mix (sd c k+11*o.2) 9587 3)) (Tr.int 0))=_;rw[QM]
  rfl
def rL(c k:Int)(c5 c6 c7:Cell):az:=[.sh (.int c),.sh (.int 9),.sh (.at 0),.sh (.at 1),.sh (.int k),c5,c6,c7]
theorem oQ{A:Ab}{i j:Nat}{o:Ao}(h:i≠j):(A.set i o)[j]?=A[j]? :=cA h
set_option maxHeartbeats 1000000 in
theorem L1(c:Int)(k:Nat)(hk:k<15){A:Ab}(h0:A[0]?=some (.lst ((marks c k).map tM)))(h1:A[1]?=some (.lst ((marks c k).map (bM c)))){c5 c6 c7:Cell}:
  ∃A' d5 d6 d7,MS (rL c k c5 c6 c7) A=.ok (.nx (rL c k d5 d6 d7)) A'/\A'[0]?=some (.lst ((marks c (k+1)).map tM))/\A'[1]?=some (.lst ((marks c (k+1)).map (bM c))):=by
 have l1:=cL h1;have s5:cO gn (au (rL c k c5 c6 c7) 0) (cO jD (Rs.ok (Tr.int 37)) (au (rL c k c5 c6 c7) 4))=.ok (.int (sd c k)):=by
  show cO gn (.ok (.int c)) (jD (Tr.int 37) (.int k))=_;rw[wq (.inl ⟨by decide,by decide⟩)]
  rfl
 let R5:az:=rL c k (.sh (.int (sd c k))) c6 c7
 let R6:az:=rL c k (.sh (.int (sd c k))) (.sh (tM (uu c k))) c7
 let R7:az:=rL c k (.sh (.int (sd c k))) (.sh (tM (uu c k))) (.sh (.at A.length))
 have s6:fc (ag (aL bK (ag (au R5 5) (ag (Rs.ok (Tr.int 9601)) (ag (Rs.ok (Tr.int 3)) (Rs.ok []))))) (ag (au R5 4) (Rs.ok [])))=.ok (tM (uu c k)):=by
  show fc (ag (bK [.int (sd c k),.int 9601,.int 3]) (ag (.ok (.int k)) (Rs.ok [])))=_;rw[qa _ _ _ (by decide) (by decide) (by decide)]
  rfl
 let A1:Ab:=A++[.lst ((Fp c k).map tM)]
 have s7:fg (MR A R6) A=.ok (.at A.length) A1:=by
  have:MR A R6=.ok (.lst ((Fp c k).map tM)):=L0 c k (by omega) h0;rw[this];show(if fM ((Fp c k).map tM)=true then Rz.ok (Tr.at A.length) A1 else .bad)=_;rw[ab (iJ _)]
 have a10:A1[0]?=some (.lst ((marks c k).map tM)):=by
  show(A++[_])[0]?=_
  rw[cq (by omega)];exact h0
 have a11:A1[1]?=some (.lst ((marks c k).map (bM c))):=by
  show(A++[_])[1]?=_
  rw[cq (by omega)];exact h1
 have Wd:A1[A.length]?=some (.lst ((Fp c k).map tM)):=by
  show(A++[_])[A.length]?=_
  rw[dI (ak _),eD];rfl
 have al:A1.length=A.length+1:=by show(A++[_]).length=_;rw[aY];rfl
 let A2:Ab:=A1.set A.length (.lst ((wJ c k).map tM))
 have bl:=Bu c k;have Y8:(Fp c k).length<=k:=by
  have:(Fp c k).length<=(marks c k).length:=j7 _ _;rw[dH]at this;exact this
 have s8:U9 R7 A1=.ok (.nx R7) A2:=by
  show BW (aq (kP (cO vL (bK [.int (sd c k),.int 9551,.int 5]) (Rs.ok (Tr.int 0)))) A1) (fun A=>eJ (uW fh (aq (Rs.ok (.at _)) A) fun A=>bR (aq (fc (ag (bK [.int (sd c k),.int 9547,.int 4]) (ag (cO gn (Rs.ok (Tr.int 90)) (bK [.int (sd c k),.int 9539,.int 4])) (Rs.ok [])))) A) fun A=>Rz.ok [] A) R7) (fun A=>Rz.ok (Out.nx R7) A)=_;rw[qa _ _ _ (by decide) (by decide) (by decide),qa _ _ _ (by decide) (by decide) (by decide),qa _ _ _ (by decide) (by decide) (by decide)];show BW (aq (kP (vL (.int (mix (sd c k) 9551 5)) (Tr.int 0))) A1) _ _=_;rw[QM];cases z:mix (sd c k) 9551 5==0 with
  |true=>
   show eJ (uW fh (.ok (.at A.length) A1) fun A=>.ok [tM (mix (sd c k) 9547 4,90+mix (sd c k) 9539 4)] A) R7=_;rw[wt Wd (by rw[ah];omega)];show Rz.ok (Out.nx R7) (A1.set A.length (.lst ((Fp c k).map tM++[tM (mix (sd c k) 9547 4,90+mix (sd c k) 9539 4)])))=.ok (.nx R7) (A1.set A.length (.lst ((wJ c k).map tM)));unfold wJ yA;rw[z,cH]
   rfl
  |false=>
   show Rz.ok (Out.nx R7) A1=.ok (.nx R7) (A1.set A.length (.lst ((wJ c k).map tM)));have:wJ c k=Fp c k:=by
    unfold wJ yA;rw[z];exact dW _
   rw[this];congr 1;refine(rn fun i=>?_);by_cases e:A.length=i
   ·subst e;rw[dJ (by omega),Wd]
   ·rw[cA e]
 have Yx:A2[0]?=some (.lst ((marks c k).map tM)):=by
  show(A1.set A.length _)[0]?=_
  rw[oQ (by omega)];exact a10
 have Yy:A2[1]?=some (.lst ((marks c k).map (bM c))):=by
  show(A1.set A.length _)[1]?=_
  rw[oQ (by omega)];exact a11
 have Yz:A2[A.length]?=some (.lst ((wJ c k).map tM)):=dJ (by omega)
 let A3:Ab:=A2.set 0 (.lst ((marks c (k+1)).map tM))
 have s9:U_ R7 A2=.ok (.nx R7) A3:=by
  show eJ (uW fh (.ok (.at 0) A2) fun A=>.ok [tM (uu c k)] A) R7=_;rw[wt Yx (by rw[ah,dH];omega)];show Rz.ok (Out.nx R7) (A2.set 0 (.lst ((marks c k).map tM++[tM (uu c k)])))=.ok (.nx R7) (A2.set 0 (.lst ((marks c (k+1)).map tM)));rw[tN,cH]
  rfl
 have Y9:A2.length=A.length+1:=by show(A1.set _ _).length=_;rw[gY];exact al
 have YA:A3[1]?=some (.lst ((marks c k).map (bM c))):=by
  show(A2.set 0 _)[1]?=_
  rw[oQ (by omega)];exact Yy
 have YB:A3[A.length]?=some (.lst ((wJ c k).map tM)):=by
  show(A2.set 0 _)[A.length]?=_
  rw[oQ (by omega)];exact Yz
 have SY:U' R7 A3=.ok (.nx R7) (A3.set 1 (.lst ((marks c (k+1)).map (bM c)))):=by
  have e:(bR (vN (fc (ag (au (a_ A3 R7) 6) (ag (aL cT (ag ((au (a_ A3 R7) 7).bind d_) (Rs.ok []))) (Rs.ok [])))) A3) fun A=>Rz.ok [] A)=.ok [bM c (uu c k)] A3:=by
   show(bR (vN (fc (ag (.ok (tM (uu c k))) (ag (aL cT (ag (d_ (bT 5 A3 (.at A.length))) (Rs.ok []))) (Rs.ok [])))) A3) fun A=>Rz.ok [] A)=_;rw[tK YB,HV (Fq c k (by omega)) (by omega)];show(bR (if uV (.tup [tM (uu c k),.tup (((wJ c k).mergeSort wK).map tM)])=true then Rz.ok (.tup [tM (uu c k),.tup (((wJ c k).mergeSort wK).map tM)]) A3 else .bad) fun A=>Rz.ok [] A)=_;have tf:uV (.tup [tM (uu c k),.tup (((wJ c k).mergeSort wK).map tM)])=true:=by
    show(true&&(fM (((wJ c k).mergeSort wK).map tM)&&true))=true;rw[iJ];rfl
   rw[ab tf]
   rfl
  have e2:(uW fh (aq (au R7 3) A3) fun A=>bR (vN (fc (ag (au (a_ A R7) 6) (ag (aL cT (ag ((au (a_ A R7) 7).bind d_) (Rs.ok []))) (Rs.ok [])))) A) fun A=>Rz.ok [] A)=uW fh (.ok (.at 1) A3) fun A=>.ok [bM c (uu c k)] A:=by
   show(if BZ A3 1=true then(bR (vN (fc (ag (au (a_ A3 R7) 6) (ag (aL cT (ag ((au (a_ A3 R7) 7).bind d_) (Rs.ok []))) (Rs.ok [])))) A3) fun A=>Rz.ok [] A).bind _ else .bad)=_;rw[e]
   rfl
  unfold U';rw[e2,wt YA (by rw[ah,dH];omega)];show Rz.ok (Out.nx R7) (A3.set 1 (.lst ((marks c k).map (bM c)++[bM c (uu c k)])))=_;rw[tN,cH]
  rfl
 refine⟨A3.set 1 (.lst ((marks c (k+1)).map (bM c))),.sh (.int (sd c k)),.sh (tM (uu c k)),.sh (.at A.length),?_,?_,?_⟩
 ·unfold MS;rw[s5];show bS (cR 6 (aq (fc (ag (aL bK (ag (au R5 5) (ag (Rs.ok (Tr.int 9601)) (ag (Rs.ok (Tr.int 3)) (Rs.ok []))))) (ag (au R5 4) (Rs.ok [])))) A) R5) _=_;rw[s6];show bS (cR 7 (fg (MR A R6) A) R6) _=_;rw[s7];rw[ef];show bS (U9 R7 A1) _=_;rw[s8];show bS (U_ R7 A2) _=_;rw[s9];exact SY
 ·rw[oQ (by omega)];exact dJ (by omega)
 ·exact dJ (by show _<(A2.set 0 _).length;rw[gY];omega)
end lY
namespace lY
open PySem L2
def FT(l:List Nat):Nat:=l.foldr max 0
theorem Jn:∀{l:List Nat} {n:Nat},n∈l->n<=FT l
 |a::l,n,h=>by
  show n<=max a (FT l);rcases aN.mp h with rfl|h
  ·omega
  ·have:=Jn h;omega
theorem Fs:∀(l:List Nat),l=[]\/FT l∈l
 |[]=>.inl rfl
 |a::l=>by
  refine .inr ?_
  show max a (FT l)∈a::l;rcases Fs l with rfl|h
  ·have:max a (FT [])=a:=rK (bP _);rw[this];exact aS ..
  ·by_cases q:FT l<=a
   ·rw[rK q];exact aS ..
   ·rw[Nat.max_eq_right (by omega)];exact aO _ h
def hh(ks:List Mk)(bh:Mk->List Mk)(rk:Mk->Nat):Nat->Mk->Nat
 |0,_=>0
 |j+1,m=>if rk m<j then hh ks bh rk j m else 1+FT (((bh m).filter fun b=>decide (b∈ks)).map (hh ks bh rk j))
theorem Ft{ks:List Mk}{bh:Mk->List Mk}{rk:Mk->Nat}{m:Mk}:∀(j i:Nat),rk m<j->hh ks bh rk (j+i) m=hh ks bh rk j m
 |j,0,_=>rfl
 |j,i+1,h=>by
  show(if rk m<j+i then hh ks bh rk (j+i) m else _)=_;rw[ab (by omega)];exact Ft j i h
theorem hx{ks:List Mk}{bh:Mk->List Mk}{rk:Mk->Nat}(hr:∀m∈ks,∀b∈bh m,b∈ks->rk b<rk m){N:Nat}(hN:∀m∈ks,rk m<N):
  ∃H:Mk->Nat,(∀m∈ks,1<=H m)/\(∀m∈ks,∀b∈bh m,b∈ks->H b<H m)/\(∀m∈ks,H m=1\/∃b∈bh m,b∈ks/\H m=H b+1)/\∀m∈ks,H m<=rk m+1:=by
 have eq:∀m∈ks,hh ks bh rk N m=1+FT (((bh m).filter fun b=>decide (b∈ks)).map (hh ks bh rk N)):=fun m hm=>by
  have h1:=hN m hm;have:hh ks bh rk N m=hh ks bh rk (rk m+1) m:=by
   have e:=Ft (ks:=ks) (bh:=bh) (rk:=rk) (m:=m) (rk m+1) (N - (rk m+1)) (by omega);rw[<-e];congr 1;omega
  rw[this];show(if rk m<rk m then _ else 1+FT (((bh m).filter fun b=>decide (b∈ks)).map (hh ks bh rk (rk m))))=_;rw[af (by omega)];congr 2;refine fT fun b hb=>?_
  have hb:=cx.mp hb;have:=hr m hm b hb.1 (cb hb.2);have e:=Ft (ks:=ks) (bh:=bh) (rk:=rk) (m:=b) (rk m) (N - rk m) this;rw[<-e];congr 1;omega
 refine⟨hh ks bh rk N,fun m hm=>by rw[eq m hm];omega,fun m hm b hb hk=>?_,fun m hm=>?_,?_⟩
 ·rw[eq m hm];have:hh ks bh rk N b<=FT (((bh m).filter fun b=>decide (b∈ks)).map (hh ks bh rk N)):=Jn (aW.mpr ⟨b,cx.mpr ⟨hb,bF hk⟩,rfl⟩);omega
 ·rcases Fs (((bh m).filter fun b=>decide (b∈ks)).map (hh ks bh rk N))with e|e
  ·left;rw[eq m hm,e];rfl
  ·right;obtain⟨b,hb,q⟩:=aW.mp e;have hb:=cx.mp hb;exact⟨b,hb.1,cb hb.2,by rw[eq m hm];omega⟩
 ·have key:∀(n:Nat) (m:Mk),m∈ks->rk m=n->hh ks bh rk N m<=n+1:=fun n=>by
   induction n using Nat.strongRecOn with
   |ind n ih=>
    intro m hm e;rw[eq m hm];rcases Fs (((bh m).filter fun b=>decide (b∈ks)).map (hh ks bh rk N))with q|q
    ·rw[q];show 1+0<=_;omega
    ·obtain⟨b,hb,q⟩:=aW.mp q;have hb:=cx.mp hb;have h1:=hr m hm b hb.1 (cb hb.2);have:=ih (rk b) (by omega) b (cb hb.2) rfl;omega
  exact fun m hm=>key (rk m) m hm rfl
theorem Bv(c:Int):∀(j k:Nat) (A:Ab) (c4 c5 c6 c7:Cell),k+j<=10->A[0]?=some (.lst ((marks c k).map tM))->A[1]?=some (.lst ((marks c k).map (bM c)))->
  ∃A' d4 d5 d6 d7,jm (gN 4) MS ((List.range' k j).map fun(i:Nat)=>Tr.int (i:Int)) [.sh (.int c),.sh (.int 9),.sh (.at 0),.sh (.at 1),c4,c5,c6,c7] A=.ok (.nx [.sh (.int c),.sh (.int 9),.sh (.at 0),.sh (.at 1),d4,d5,d6,d7]) A'/\A'[1]?=some (.lst ((marks c (k+j)).map (bM c)))
 |0,k,A,c4,c5,c6,c7,_,_,h1=>⟨A,c4,c5,c6,c7,rfl,h1⟩
 |j+1,k,A,c4,c5,c6,c7,hk,h0,h1=>by
  obtain⟨A1,d5,d6,d7,e,q0,q1⟩:=L1 c k (by omega) h0 h1 (c5:=c5) (c6:=c6) (c7:=c7);obtain⟨A2,r4,r5,r6,r7,e2,q2⟩:=Bv c j (k+1) A1 (.sh (.int k)) d5 d6 d7 (by omega) q0 q1;refine⟨A2,r4,r5,r6,r7,?_,by rw[show k+(j+1)=k+1+j by omega];exact q2⟩;rw[List.range'_succ,aA,uq (ρ1:=rL c k c5 c6 c7) rfl e];exact e2
theorem L3(n:Nat):xo 0 n=(List.range' 0 n).map fun(i:Nat)=>Tr.int (i:Int):=by
 unfold xo;rw[List.range_eq_range'];refine fT fun k _=>?_
 rw[Int.zero_add]
theorem tR(c:Int):∀ms:List Mk,de (ms.map (bM c))=true:=fun ms=>wm (bX c) ms
theorem tT(c:Int):∀ms:List Mk,fM (ms.map (bM c))=true
 |[]=>rfl
 |m::ms=>by
  rw[aA,fM,tT c ms];show((true&&(fM ((bX c m).map tM)&&true))&&true)=true;rw[iJ];rfl
theorem oR(c:Int){A:Ab}{i:Nat}{ms:List Mk}(e:A[i]?=some (.lst (ms.map (bM c))))(k:Nat):bT (k+1) A (.at i)=.lst (ms.map (bM c)):=by
 rw[bT];simp only[e];rw[bC];congr 1;refine fT fun m _=>?_
 cases k<;>rfl
theorem yB(ts:List Tr):iu (.lst ts)=de ts:=by rw[iu]
theorem Fu(ts:List Tr):iu (.tup ts)=de ts:=by rw[iu]
theorem Bw{n m:Nat}{G:az->Ab->Rz Out}{ts:List Tr}(h1:ts.length=n)(h2:de ts=true):uj n m G ts=fN (G (startT m ts) []):=ab ⟨h1,h2⟩
theorem C6(c:Int):∃n,n<=9/\gy [.int c,.int 9]=.ok (.lst ((marks c n).map (bM c))):=by
 obtain⟨m0,m1⟩:=wo (c:=c) (p:=9613) (m:=10) (by decide);refine⟨(mix c 9613 10).toNat,by omega,?_⟩;have key:gy [.int c,.int 9]=fN (Wc [.sh (.int c),.sh (.int 9),.no,.no,.no,.no,.no,.no] []):=by
  rw[<-LY];exact Bw rfl rfl
 have er:nX (ag (aL bK (ag (.ok (.int c)) (ag (Rs.ok (Tr.int 9613)) (ag (cO gn (.ok (.int 9)) (Rs.ok (Tr.int 1))) (Rs.ok []))))) (Rs.ok []))=.ok ((List.range' 0 (mix c 9613 10).toNat).map fun(i:Nat)=>Tr.int (i:Int)):=by
  show nX (ag (bK [.int c,.int 9613,.int 10]) (Rs.ok []))=_;rw[qa _ _ _ (by decide) (by decide) (by decide)];show(if-4611686018427387904<=mix c 9613 10/\mix c 9613 10<4611686018427387904 then Rs.ok (xo 0 (mix c 9613 10).toNat)else .bad)=_;rw[ab ⟨by omega,by omega⟩,L3]
 obtain⟨A',d4,d5,d6,d7,el,q⟩:=Bv c (mix c 9613 10).toNat 0 [.lst [],.lst []] .no .no .no .no (by omega) rfl rfl;rw[hX]at q;rw[key];show fN (bS (jR (gN 4) MS (aq (nX (ag (aL bK (ag (.ok (.int c)) (ag (Rs.ok (Tr.int 9613)) (ag (cO gn (.ok (.int 9)) (Rs.ok (Tr.int 1))) (Rs.ok []))))) (Rs.ok []))) [.lst [],.lst []]) [.sh (.int c),.sh (.int 9),.sh (.at 0),.sh (.at 1),.no,.no,.no,.no]) fun ρ A=>jF (aq (au ρ 3) A))=_;rw[er];show fN (bS (jm (gN 4) MS _ _ _) _)=_;rw[el];show(if iu (bT 3 A' (.at 1))=true then Rs.ok (bT 3 A' (.at 1))else Rs.bad)=_;rw[oR c q,ab (by rw[yB];exact tR c _)]
theorem vq{α β:Type}(f:α->β):∀(l:List α) (i:Nat),(l.map f).eraseIdx i=(l.eraseIdx i).map f
 |[],_=>rfl
 |a::l,0=>rfl
 |a::l,i+1=>by
  show f a::(l.map f).eraseIdx i=f a::(l.eraseIdx i).map f;rw[vq f l i]
theorem tU{α:Type}:∀(l:List α) (i:Nat) (h:i<l.length),(l[i]::l.eraseIdx i).Perm l
 |a::l,0,_=>List.Perm.refl _
 |a::l,i+1,h=>by
  have hi:i<l.length:=by rw[br]at h;omega
  have ih:=tU l i hi;show(l[i]::a::l.eraseIdx i).Perm (a::l);exact(List.Perm.swap a _ _).trans (List.Perm.cons a ih)
def RR:az->Ab->Rz Bool:=fun ρ A=>aq ((au (a_ A ρ) 2).bind qj) A
def QU:az->Ab->Rz Out:=fun ρ A=>eJ (uW fh (aq (au ρ 3) A) fun A=>bR (uW B5 (aq (au ρ 2) A) fun A=>bR (vN (aL bK (ag (cO gn (au (a_ A ρ) 1) (cO jD (Rs.ok (Tr.int 7)) (aL jo (ag (au (a_ A ρ) 2) (Rs.ok []))))) (ag (Rs.ok (Tr.int 9533)) (ag (aL jo (ag (au (a_ A ρ) 2) (Rs.ok []))) (Rs.ok []))))) A) fun A=>Rz.ok [] A) fun A=>Rz.ok [] A) ρ
def Va:az->Ab->Rz Out:=fun ρ A=>bS (cR 2 (fg (aL As (ag (au (a_ A ρ) 0) (Rs.ok []))) A) ρ) fun ρ A=>bS (cR 3 (fg (vH (Rs.ok [])) A) ρ) fun ρ A=>bS (fA RR QU 100 ρ A) fun ρ A=>jF (vN (aL cT (ag (au (a_ A ρ) 3) (Rs.ok []))) A)
theorem L4:pK.1=Va:=rfl
theorem L5(c d:Int){T:Tr}{ls fs:List Mk}(h0:0<ls.length)(h1:ls.length<=20)(h2:fs.length<=100):
  ∃QV BC:List Mk,QU [.sh T,.sh (.int d),.sh (.at 0),.sh (.at 1)] [.lst (ls.map (bM c)),.lst (fs.map (bM c))]=.ok (.nx [.sh T,.sh (.int d),.sh (.at 0),.sh (.at 1)]) [.lst (QV.map (bM c)),.lst (BC.map (bM c))]/\QV.length+1=ls.length/\BC.length=fs.length+1/\(BC++QV).Perm (fs++ls):=by
 have th:bT 5 [.lst (ls.map (bM c)),.lst (fs.map (bM c))] (.at 0)=.lst (ls.map (bM c)):=oR c rfl 4;obtain⟨m0,m1⟩:=wo (c:=d+7*(ls.length:Int)) (p:=9533) (m:=(ls.length:Int)) (by omega);have hj:(mix (d+7*(ls.length:Int)) 9533 (ls.length:Int)).toNat<ls.length:=by omega
 refine⟨ls.eraseIdx (mix (d+7*(ls.length:Int)) 9533 (ls.length:Int)).toNat,fs++[ls[(mix (d+7*(ls.length:Int)) 9533 (ls.length:Int)).toNat]],?_,?_,by rw[aY];rfl,?_⟩
 ·have em:vN (aL bK (ag (cO gn (.ok (.int d)) (cO jD (Rs.ok (Tr.int 7)) (aL jo (ag (.ok (bT 5 [.lst (ls.map (bM c)),.lst (fs.map (bM c))] (.at 0))) (Rs.ok []))))) (ag (Rs.ok (Tr.int 9533)) (ag (aL jo (ag (.ok (bT 5 [.lst (ls.map (bM c)),.lst (fs.map (bM c))] (.at 0))) (Rs.ok []))) (Rs.ok []))))) [.lst (ls.map (bM c)),.lst (fs.map (bM c))]=.ok (.int (mix (d+7*(ls.length:Int)) 9533 (ls.length:Int))) [.lst (ls.map (bM c)),.lst (fs.map (bM c))]:=by
   rw[th];show vN (aL bK (ag (cO gn (.ok (.int d)) (jD (Tr.int 7) (.int ((ls.map (bM c)).length:Int)))) (ag (Rs.ok (Tr.int 9533)) (ag (.ok (.int ((ls.map (bM c)).length:Int))) (Rs.ok []))))) _=_;rw[ah,wq (.inl ⟨by decide,by decide⟩)];show vN (bK [.int (d+7*(ls.length:Int)),.int 9533,.int (ls.length:Int)]) _=_;rw[qa _ _ _ (by decide) (by decide) (by omega)]
   rfl
  have ep:B5 0 [.int (mix (d+7*(ls.length:Int)) 9533 (ls.length:Int))] [.lst (ls.map (bM c)),.lst (fs.map (bM c))]=.ok (bM c ls[(mix (d+7*(ls.length:Int)) 9533 (ls.length:Int)).toNat]) [.lst ((ls.eraseIdx (mix (d+7*(ls.length:Int)) 9533 (ls.length:Int)).toNat).map (bM c)),.lst (fs.map (bM c))]:=by
   show(if-9223372036854775808<=mix (d+7*(ls.length:Int)) 9533 (ls.length:Int)/\mix (d+7*(ls.length:Int)) 9533 (ls.length:Int)<9223372036854775808 then
    (match seqIndex? (mix (d+7*(ls.length:Int)) 9533 (ls.length:Int)) (ls.map (bM c)).length with
    |some j=>(match(ls.map (bM c))[j]? with
     |some t=>Rz.ok t [Ao.lst ((ls.map (bM c)).eraseIdx j),.lst (fs.map (bM c))]
     |none=>Rz.bad)
    |none=>Rz.bad)else Rz.bad)=_
   rw[ab ⟨by omega,by omega⟩,ah,PySem.StrLaws.seqIndex_nonneg m0 m1];show(match(ls.map (bM c))[(mix (d+7*(ls.length:Int)) 9533 (ls.length:Int)).toNat]? with
     |some t=>Rz.ok t [Ao.lst ((ls.map (bM c)).eraseIdx (mix (d+7*(ls.length:Int)) 9533 (ls.length:Int)).toNat),.lst (fs.map (bM c))]
     |none=>Rz.bad)=_
   rw[aP,aB hj,vq]
   rfl
  show eJ ((bR ((bR (vN (aL bK (ag (cO gn (.ok (.int d)) (cO jD (Rs.ok (Tr.int 7)) (aL jo (ag (.ok (bT 5 [.lst (ls.map (bM c)),.lst (fs.map (bM c))] (.at 0))) (Rs.ok []))))) (ag (Rs.ok (Tr.int 9533)) (ag (aL jo (ag (.ok (bT 5 [.lst (ls.map (bM c)),.lst (fs.map (bM c))] (.at 0))) (Rs.ok []))) (Rs.ok []))))) [.lst (ls.map (bM c)),.lst (fs.map (bM c))]) fun A=>Rz.ok [] A).bind fun ts A=>B5 0 ts A) fun A=>Rz.ok [] A).bind fun ts A=>fh 1 ts A) _=_;rw[em];show eJ ((bR (B5 0 [.int (mix (d+7*(ls.length:Int)) 9533 (ls.length:Int))] [.lst (ls.map (bM c)),.lst (fs.map (bM c))]) fun A=>Rz.ok [] A).bind fun ts A=>fh 1 ts A) _=_;rw[ep];show eJ (if(fs.map (bM c)).length<ji then Rz.ok Tr.cD [_,Ao.lst (fs.map (bM c)++[bM c ls[(mix (d+7*(ls.length:Int)) 9533 (ls.length:Int)).toNat]])]else .bad) _=_;rw[ab (by rw[ah];unfold ji;omega),cH]
  rfl
 ·rw[qU hj];omega
 ·rw[fV];refine List.Perm.append_left fs ?_
  exact tU _ _ hj
theorem Bx(c d:Int){T:Tr}:∀(n k:Nat) (ls fs:List Mk),ls.length=k->k<n->k<=20->fs.length+k<=100->
  ∃BC:List Mk,fA RR QU n [.sh T,.sh (.int d),.sh (.at 0),.sh (.at 1)] [.lst (ls.map (bM c)),.lst (fs.map (bM c))]=.ok (.nx [.sh T,.sh (.int d),.sh (.at 0),.sh (.at 1)]) [.lst [],.lst (BC.map (bM c))]/\BC.Perm (fs++ls)
 |0,k,ls,fs,_,hk,_,_=>by omega
 |n+1,k,ls,fs,hl,hk,h1,h2=>by
  have ec:RR [.sh T,.sh (.int d),.sh (.at 0),.sh (.at 1)] [.lst (ls.map (bM c)),.lst (fs.map (bM c))]=.ok (!(ls.map (bM c)).isEmpty) [.lst (ls.map (bM c)),.lst (fs.map (bM c))]:=by
   show aq ((Rs.ok (bT 5 [.lst (ls.map (bM c)),.lst (fs.map (bM c))] (.at 0))).bind qj) _=_;rw[oR c rfl]
   rfl
  rw[fA,ec]
  match ls,hl with
  |[],_=>exact⟨fs,rfl,by rw[dW]⟩
  |m::ls,hl=>
   obtain⟨QV,BC,e,l1,l2,p⟩:=L5 c d (T:=T) (ls:=m::ls) (fs:=fs) (by rw[br];omega) (by omega) (by omega);obtain⟨YC,e2,p2⟩:=Bx c d (T:=T) n (k - 1) QV BC (by omega) (by omega) (by omega) (by omega);refine⟨YC,?_,p2.trans p⟩;show(QU [.sh T,.sh (.int d),.sh (.at 0),.sh (.at 1)] [.lst ((m::ls).map (bM c)),.lst (fs.map (bM c))]).bind _=_;rw[e];exact e2
theorem HW(c d:Int){ms:List Mk}(hl:ms.length<=20):∃ks:List Mk,jt [.lst (ms.map (bM c)),.int d]=.ok (bp ks (bX c))/\ks.Perm ms:=by
 obtain⟨ks,e,p⟩:=Bx c d (T:=.lst (ms.map (bM c))) 100 ms.length ms [] rfl (by omega) hl (by rw[eO];omega);rw[kh]at p;refine⟨ks,?_,p⟩;have key:jt [.lst (ms.map (bM c)),.int d]=fN (Va [.sh (.lst (ms.map (bM c))),.sh (.int d),.no,.no] []):=by
  rw[<-L4];exact Bw rfl (by
   show(iu (.lst (ms.map (bM c)))&&(true&&true))=true;rw[yB,tR];rfl)
 rw[key];unfold Va;have e1:fg (aL As (ag (au (a_ [] [.sh (.lst (ms.map (bM c))),.sh (.int d),.no,.no]) 0) (Rs.ok []))) []=.ok (.at 0) [.lst (ms.map (bM c))]:=by
  show(if fM (ms.map (bM c))=true then Rz.ok (Tr.at 0) [Ao.lst (ms.map (bM c))]else .bad)=_;rw[ab (tT c ms)]
 rw[e1,ef];have e2:fg (vH (Rs.ok [])) [.lst (ms.map (bM c))]=.ok (.at 1) [.lst (ms.map (bM c)),.lst []]:=rfl;rw[e2,ef];show fN (bS (fA RR QU 100 [.sh (.lst (ms.map (bM c))),.sh (.int d),.sh (.at 0),.sh (.at 1)] [.lst (ms.map (bM c)),.lst (([]:List Mk).map (bM c))]) _)=_;rw[e];have th:bT 5 [Ao.lst [],.lst (ks.map (bM c))] (.at 1)=.lst (ks.map (bM c)):=oR c rfl 4;show fN (jF (vN (aL cT (ag (.ok (bT 5 [Ao.lst [],.lst (ks.map (bM c))] (.at 1))) (Rs.ok []))) [Ao.lst [],.lst (ks.map (bM c))]))=_;rw[th];have tf:uV (.tup (ks.map (bM c)))=true:=by rw[uV];exact tT c ks
 show fN (jF (if uV (.tup (ks.map (bM c)))=true then Rz.ok (.tup (ks.map (bM c))) _ else .bad))=_;rw[ab tf];show(if iu (.tup (ks.map (bM c)))=true then Rs.ok (Tr.tup (ks.map (bM c)))else Rs.bad)=_;rw[ab (by rw[Fu];exact tR c _)]
 rfl
end lY
namespace lY
open PySem L2
theorem By:∀l:List Mk,jk (l.map tM)=true
 |[]=>rfl
 |m::l=>by rw[aA,jk,By l];rfl
theorem Fv:∀l:List Mk,uO (l.map tM)<=1
 |[]=>by show 0<=1;decide
 |m::l=>by
  rw[aA,uO];have:=Fv l;have e:dT (tM m)=1:=rfl;omega
theorem Fw{l l':List Mk}(h:l.Perm l'):l.mergeSort wK=l'.mergeSort wK:=by
 refine jv (le:=fun a b=>wK a b=true) (fun a b _ _ h1 h2=>zN (gw h1 h2)) ?_ ?_ (((cM l _).trans h).trans (cM l' _).symm)
 ·exact jx (le:=wK) (fun a b c h1 h2=>fQ h1 h2) (fun a b=>fR _ _) _
 ·exact jx (le:=wK) (fun a b c h1 h2=>fQ h1 h2) (fun a b=>fR _ _) _
theorem ur.perm {ks We:List Mk}{bh:Mk->List Mk}{H:Mk->Nat}(K:ur ks bh H)(p:We.Perm ks):ur We bh H:=
 ⟨p.nodup_iff.mpr K.nd,by rw[p.length_eq];exact K.len,fun m h=>K.U5 m (p.mem_iff.mp h),fun m h=>K.LU m (p.mem_iff.mp h),fun m h=>K.pos m (p.mem_iff.mp h),fun m h b hb hk=>K.lt m (p.mem_iff.mp h) b hb (p.mem_iff.mp hk),fun m h=>(K.ex m (p.mem_iff.mp h)).imp id fun⟨b,h1,h2,h3⟩=>⟨b,h1,p.mem_iff.mpr h2,h3⟩,fun m h=>K.top m (p.mem_iff.mp h)⟩
end lY
namespace lY
open PySem L2
theorem L6{c:Int}{n:Nat}(hn:n<=9){ks:List Mk}(nd:ks.Nodup)(sub:∀m∈ks,m∈marks c n):∃H,ur ks (bX c) H/\∀m∈ks,H m<=10:=by
 have sp:∀m:Mk,(bX c m).Perm (wJ c m.2.toNat):=fun m=>cM _ _;have mk:∀m∈ks,∃j,j<n/\m=uu c j:=fun m hm=>lR.mp (sub m hm);have tn:∀j:Nat,(uu c j).2.toNat=j:=fun j=>fk j;have kl:ks.length<=20:=by
  have:=mJ nd sub;rw[dH]at this;omega
 obtain⟨H,h1,h2,h3,h4⟩:=hx (ks:=ks) (bh:=bX c) (rk:=fun m=>m.2.toNat) (fun m hm b hb hk=>by
  obtain⟨j,hj,rfl⟩:=mk m hm;obtain⟨i,hi,rfl⟩:=mk b hk;show(uu c i).2.toNat<(uu c j).2.toNat;rw[tn,tn];have hb:=(sp _).mem_iff.mp hb;rw[tn]at hb;rcases bD.mp hb with hb|hb
  ·obtain⟨i',qL,e⟩:=lR.mp (cx.mp hb).1;have:(i:Int)=(i':Int):=bJ Prod.snd e;omega
  ·unfold yA at hb;split at hb
   ·rw[cB]at hb;have:(i:Int)=90+mix (sd c j) 9539 4:=bJ Prod.snd hb;have:=(wo (c:=sd c j) (p:=9539) (m:=4) (by decide)).1;omega
   ·cases hb) (N:=9) (fun m hm=>by
  obtain⟨j,hj,rfl⟩:=mk m hm;show(uu c j).2.toNat<9;rw[tn];omega)
 have h5:∀m∈ks,H m<=10:=fun m hm=>by
  have:=h4 m hm;obtain⟨j,hj,rfl⟩:=mk m hm;rw[tn]at this;omega
 refine⟨H,⟨nd,kl,fun m hm=>?_,fun m hm=>?_,h1,h2,h3,fun m hm=>by have:=h5 m hm;omega⟩,h5⟩
 ·obtain⟨j,hj,rfl⟩:=mk m hm;rw[(sp _).nodup_iff,tn];exact Fq c j (by omega)
 ·obtain⟨j,hj,rfl⟩:=mk m hm;rw[(sp _).length_eq,tn];have:=Bu c j;omega
def wu(l:List Mk)(b:Mk):List Mk:=if b∈l then l else l++[b]
theorem HX{l:List Mk}(h:l.Nodup)(b:Mk):(wu l b).Nodup:=by
 unfold wu;split
 ·exact h
 ·rename_i q;rw[i0];refine⟨h,by simp,fun a ha c hc e=>?_⟩;rw[cB]at hc;exact q (by rw[<-hc,<-e];exact ha)
theorem Fx{l:List Mk}{b x:Mk}:x∈wu l b↔x∈l\/x=b:=by
 unfold wu;split
 ·rename_i q;constructor
  ·exact .inl
  ·rintro (h|rfl)
   ·exact h
   ·exact q
 ·rw[bD,cB]
end lY
namespace lY
open PySem L2
theorem Fy{α:Type}{f g:α->Tr}{F:az->Rs Tr}{xs:List Cell}:∀(l:List α) (c:Cell),(∀a∈l,F (.sh (f a)::xs)=.ok (g a))->mq (gN 0) (fun _=>.ok true) F (l.map f) (c::xs)=.ok (l.map g)
 |[],c,_=>rfl
 |a::l,c,h=>by
  rw[aA,mq];show(FJ (F (.sh (f a)::xs))).bind (fun y=>(mq (gN 0) (fun _=>.ok true) F (l.map f) (.sh (f a)::xs)).bind fun ys=>.ok (y::ys))=_;rw[h a (aS ..),Fy l _ fun b hb=>h b (aO _ hb)]
  rfl
theorem gz{α:Type}{x:α}{A:Ab}:aq (.ok x) A=.ok x A:=rfl
theorem wx{α β:Type}{x:α}{A:Ab}{f:α->Ab->Rz β}:(Rz.ok x A).bind f=f x A:=rfl
theorem HY{ts:List Tr}{A:Ab}:CW (.ok (.tup ts) A)=.ok ts A:=rfl
theorem Fz{T:j3}{G:az->Ab->Rz Out}{ts:List Tr}{A:Ab}{ρ:az}:jR T G (.ok ts A) ρ=jm T G ts ρ A:=rfl
abbrev HZ:Ao:=Ao.tb "order" "order.<locals>.<lambda>"
def tL(bh:Mk->List Mk)(m:Mk):Tr:=.tup [tM m,tB bh m]
theorem YD(a b:Mk):eqT (tM a) (tM b)=decide (a=b):=by
 show((a.1==b.1)&&((a.2==b.2)&&true))=_;by_cases q:a=b
 ·subst q;simp
 ·rw[bg q];by_cases q1:a.1=b.1
  ·have:¬a.2=b.2:=fun q2=>q (kB q1 q2);simp[this]
  ·simp[q1]
section
variable {bh:Mk->List Mk}
theorem FA(m:Mk):n5 (tL bh m)=true:=by
 show(true&&(jk ((bh m).map tM)&&true))=true;rw[By];rfl
theorem Vb(m:Mk):dT (tL bh m)<=3:=by
 have e:dT (tL bh m)=uO [tM m,tB bh m]+1:=by unfold tL;rw[dT]
 have h:=Fv (bh m);have e2:dT (tB bh m)=uO ((bh m).map tM)+1:=by unfold tB;rw[dT]
 have e3:dT (tM m)=1:=rfl;rw[e,uO,uO,uO,e2,e3];omega
theorem zO:∀l:List Mk,jk (l.map (tL bh))=true
 |[]=>rfl
 |m::l=>by rw[aA,jk,FA,zO l];rfl
theorem FC:∀l:List Mk,uO (l.map (tL bh))<=3
 |[]=>by rw[nG,uO];omega
 |m::l=>by
  have h1:=Vb (bh:=bh) m;have h2:=FC l;rw[aA,uO];omega
theorem RS(a b:Mk):eqT (tL bh a) (tL bh b)=decide (a=b):=by
 by_cases q:a=b
 ·subst q;rw[kX (FA a),bF rfl]
 ·have e:eqT (tL bh a) (tL bh b)=(eqT (tM a) (tM b)&&(eqT (tB bh a) (tB bh b)&&true)):=by unfold tL;rw[eqT,uh,uh,uh]
  rw[e,YD,bg q];rfl
theorem ne_self{l:List Mk}:tY (bp l bh) (bp l bh)=.ok (.bl false):=by
 have p:n5 (bp l bh)=true:=by unfold bp;rw[n5];exact zO l
 have d:dT (bp l bh)<=40:=by unfold bp;rw[dT];have:=FC (bh:=bh) l;show uO (l.map (tL bh))+1<=40;omega
 unfold tY;rw[ab ⟨p,p,d⟩,kX p]
 rfl
def FU(l:List Mk):List Mk:=l.foldl wu []
theorem wy{l:List Mk}{m:Mk}:m∈FU l↔m∈l:=by
 have gen:∀(l acc:List Mk),m∈l.foldl wu acc↔m∈acc\/m∈l:=by
  intro l
  induction l with
  |nil=>intro acc;simp
  |cons x l ih=>intro acc;rw[gb,ih,Fx,aN,or_assoc]
 unfold FU;rw[gen l []];simp
theorem wz(l:List Mk):(FU l).Nodup:=by
 have gen:∀(l acc:List Mk),acc.Nodup->(l.foldl wu acc).Nodup:=by
  intro l
  induction l with
  |nil=>intro acc h;exact h
  |cons x l ih=>intro acc h;exact ih _ (HX h x)
 exact gen l [] f6
theorem zQ(l:List Mk):FR (l.map (tL bh))=(FU l).map (tL bh):=by
 have gen:∀(l acc:List Mk),(l.map (tL bh)).foldl ET (acc.map (tL bh))=(l.foldl wu acc).map (tL bh):=by
  intro l
  induction l with
  |nil=>intro acc;rfl
  |cons x l ih=>
   intro acc;rw[aA,gb,gb,<-ih];congr 1;unfold ET wu;have e:((acc.map (tL bh)).any fun y=>eqT y (tL bh x))=decide (x∈acc):=by
    rw[kx];show(acc.any fun y=>eqT (tL bh y) (tL bh x))=_;rw[nh,ke,ck];constructor
    ·rintro ⟨y,hy,e⟩
     rw[RS,ck]at e;exact e▸hy
    ·intro h;exact⟨x,h,by rw[RS];exact bF rfl⟩
   rw[e];by_cases q:x∈acc
   ·rw[ab (bF q),ab q]
   ·rw[af (by rw[bg q];exact cP),af q,cH];rfl
 exact gen l []
theorem QX(m:Mk):(kt 3 (tL bh m)&&(ju (tL bh m)).length==2)=true:=by
 have h:((bh m).map tM).all (kt 1)=true:=by
  rw[bG];intro t ht;obtain⟨x,_,rfl⟩:=aW.mp ht
  rfl
 show((true&&(((bh m).map tM).all (kt 1)&&true))&&true)=true;rw[h];rfl
theorem FD(ms:List Mk):jW (ms.map (tL bh))=(ms.mergeSort wK).map (tL bh):=by
 unfold jW;exact(rl (r:=wK) (s:=fun a b=>lX (ju a) (ju b)) (f:=tL bh) fun a _ b _=>rfl).symm
theorem QY{l:List Mk}(hl:(FU l).length<=18):gx (.tup (l.map (tL bh)))=.ok (.lst (((FU l).mergeSort wK).map (tL bh))):=by
 have a1:((l.map (tL bh)).all fun t=>kt 3 t&&(ju t).length==2)=true:=by
  rw[bG];intro t ht;obtain⟨m,_,rfl⟩:=aW.mp ht;exact QX m
 have a2:((FR (l.map (tL bh))).map ju).Nodup:=by
  rw[zQ,bC];have nd:=wz l;unfold List.Nodup at nd⊢;rw[gX];exact nd.imp fun{a b} h e=>h (zN e)
 have ok:MI (l.map (tL bh))=true:=by
  unfold MI;rw[a1,bF a2,bF (by rw[zQ,ah];exact hl)]
  rfl
 show(if MI (l.map (tL bh))=true then Rs.ok (Tr.lst (jW (FR (l.map (tL bh)))))else .bad)=_;rw[ab ok,zQ,FD]
theorem Bz:∀ms:List Mk,fM (ms.map (tL bh))=true
 |[]=>rfl
 |m::ms=>by
  rw[aA,fM,Bz ms];show((true&&(fM ((bh m).map tM)&&true))&&true)=true;rw[iJ];rfl
theorem tV{a b us:List Mk}{H:Mk->Nat}(Wf:us=(FU (a++b)).mergeSort wK)(K:ur us bh H)(hu:us.length<=18)(hl:a.length+b.length<=100){A:Ab}(hA:A[0]?=some HZ):bY [bp a bh,bp b bh] A=.ok (bp (cz H us) bh) A:=by
 have pu:us.Perm (FU (a++b)):=by rw[Wf];exact cM _ _
 have t1:aL cT (ag ((cO gn (au [.sh (bp a bh),.sh (bp b bh),.no,.no] 0) (au [.sh (bp a bh),.sh (bp b bh),.no,.no] 1)).bind gx) (Rs.ok []))=.ok (bp us bh):=by
  show aL cT (ag ((if(a.map (tL bh)).length+(b.map (tL bh)).length<=ji then Rs.ok (Tr.tup (a.map (tL bh)++b.map (tL bh)))else .bad).bind gx) (Rs.ok []))=_;rw[ah,ah,ab (bx hl (by decide)),<-cH];show aL cT (ag (gx (.tup ((a++b).map (tL bh)))) (Rs.ok []))=_;rw[QY (by rw[<-pu.length_eq];exact hu),<-Wf]
  rfl
 have d1:aL cU (ag (Rs.ok (bp us bh)) (Rs.ok []))=.ok (.bj (fD us (tB bh))):=yt (tB bh) K.nd (by omega);show eY (mF.1 [.sh (bp a bh),.sh (bp b bh),.no,.no] A)=_;show eY (bS (cR 2 (aq (aL cT (ag ((cO gn (au [.sh (bp a bh),.sh (bp b bh),.no,.no] 0) (au [.sh (bp a bh),.sh (bp b bh),.no,.no] 1)).bind gx) (Rs.ok []))) A) [.sh (bp a bh),.sh (bp b bh),.no,.no]) fun ρ A=>
  bS (cR 3 (aq (aL cU (ag (au ρ 2) (Rs.ok []))) A) ρ) fun ρ A=>
   jF (pU cT (bR (CY [none,some 3] (gN 0) (fun x=>Rs.ok true) (fun ρ=>fc (ag (au ρ 0) (ag (cO oU (au ρ 1) (au ρ 0)) (Rs.ok [])))) (CW ((bR (aq (au ρ 2) A) fun A=>Rz.ok [] A).bind jO)) ρ) fun A=>Rz.ok [] A)))=_
 rw[t1,gz,ef];show eY (bS (cR 3 (aq (aL cU (ag (Rs.ok (bp us bh)) (Rs.ok []))) A) [.sh (bp a bh),.sh (bp b bh),.sh (bp us bh),.no]) fun ρ A=>
   jF (pU cT (bR (CY [none,some 3] (gN 0) (fun x=>Rs.ok true) (fun ρ=>fc (ag (au ρ 0) (ag (cO oU (au ρ 1) (au ρ 0)) (Rs.ok [])))) (CW ((bR (aq (au ρ 2) A) fun A=>Rz.ok [] A).bind jO)) ρ) fun A=>Rz.ok [] A)))=_
 rw[d1,gz,ef];show eY (jF (pU cT (bR (CY [none,some 3] (gN 0) (fun x=>Rs.ok true) (fun ρ=>fc (ag (au ρ 0) (ag (cO oU (au ρ 1) (au ρ 0)) (Rs.ok [])))) (CW (jO [bp us bh] A)) [.sh (bp a bh),.sh (bp b bh),.sh (bp us bh),.sh (.bj (fD us (tB bh)))]) fun A=>Rz.ok [] A)))=_;rw[Bt K hA,HY];have ol:(cz H us).length<=1000:=by rw[yz];omega
 have po:(cz H us).Perm us:=cM _ _;have e:iD [none,some 3] (gN 0) (fun x=>Rs.ok true) (fun ρ=>fc (ag (au ρ 0) (ag (cO oU (au ρ 1) (au ρ 0)) (Rs.ok [])))) (.ok ((cz H us).map tM)) [.sh (bp a bh),.sh (bp b bh),.sh (bp us bh),.sh (.bj (fD us (tB bh)))]=.ok (.lst ((cz H us).map (tL bh))):=by
  rw[pL ol];show(mq (gN 0) _ _ ((cz H us).map tM) [.no,.sh (.bj (fD us (tB bh)))]).bind _=_;rw[Fy (f:=tM) (g:=tL bh) _ .no fun m hm=>?_]
  ·rfl
  ·show fc (ag (.ok (tM m)) (ag (oU (.bj (fD us (tB bh))) (tM m)) (Rs.ok [])))=_;rw[lE (po.mem_iff.mp hm)]
   rfl
 unfold CY;rw[wx,e,gz];show eY (jF (if uV (.tup ((cz H us).map (tL bh)))=true then Rz.ok (.tup ((cz H us).map (tL bh))) A else .bad))=_;have tf:uV (.tup ((cz H us).map (tL bh)))=true:=by rw[uV];exact Bz _
 rw[ab tf]
 rfl
end
end lY
namespace lY
open PySem L2
def fin(ρ:az)(r:Rz Bool):Rz Out:=BW r (fun A=>jF (aq (Rs.ok (Tr.bl false)) A)) fun A=>Rz.ok (Out.nx ρ) A
theorem zR{ρ:az}{A:Ab}:fin ρ (.ok false A)=.ok (.nx ρ) A:=rfl
theorem tW{ρ:az}{A:Ab}{G:az->Ab->Rz Out}:bS (.ok (.nx ρ) A) G=G ρ A:=rfl
theorem L7{P:Mk->Bool}{f g:Mk->Tr}{Q:az->Rs Bool}{F:az->Rs Tr}{xs:List Cell}:∀(ms:List Mk) (c:Cell),(∀m∈ms,Q (.sh (f m)::xs)=.ok (P m))->(∀m∈ms,P m=true->F (.sh (f m)::xs)=.ok (g m))->mq (gN 0) Q F (ms.map f) (c::xs)=.ok ((ms.filter P).map g)
 |[],c,_,_=>rfl
 |m::ms,c,hQ,hF=>by
  have ih:=L7 (P:=P) (f:=f) (g:=g) (Q:=Q) (F:=F) (xs:=xs) ms (.sh (f m)) (fun x hx=>hQ x (aO _ hx)) (fun x hx=>hF x (aO _ hx));rw[aA,mq];show(FJ (Q (.sh (f m)::xs))).bind _=_;rw[hQ m (aS ..)];cases p:P m with
  |true=>
   show(FJ (F (.sh (f m)::xs))).bind _=_;rw[hF m (aS ..) p];show(mq (gN 0) Q F (ms.map f) (.sh (f m)::xs)).bind _=_;rw[ih,fm,p]
   rfl
  |false=>
   show mq (gN 0) Q F (ms.map f) (.sh (f m)::xs)=_;rw[ih,fm,p]
   rfl
def Wg(ρ:az):Rs Tr:=aL gy (ag (cO gn (aL fI (ag (au ρ 0) (ag (au ρ 1) (Rs.ok [])))) (au ρ 1)) (ag (Rs.ok (Tr.int 9)) (Rs.ok [])))
def Vc(ρ:az):Rs Tr:=iD [none,some 4,some 0] (gN 0) (fun ρ=>kP (cO Kt (aL bK (ag (cO gn (aL fI (ag (au ρ 2) (ag (cO gn (Rs.ok (Tr.int 3)) (au ρ 1)) (Rs.ok [])))) (cO jD (Rs.ok (Tr.int 3)) (cO Ku (cO Ku (au ρ 0) (Rs.ok (Tr.int 0))) (Rs.ok (Tr.int 1))))) (ag (Rs.ok (Tr.int 9497)) (ag (Rs.ok (Tr.int 3)) (Rs.ok []))))) (Rs.ok (Tr.int 0)))) (fun ρ=>au ρ 0) (mn (au ρ 2)) ρ
def Vd(ρ:az):Rs Tr:=aL jt (ag (au ρ 5) (ag (cO gn (aL fI (ag (au ρ 0) (ag (Rs.ok (Tr.int 6)) (Rs.ok [])))) (au ρ 4)) (Rs.ok [])))
def RT:az->Ab->Rz Out:=fun ρ A=>bS (cR 5 (aq (Vc ρ) A) ρ) fun ρ A=>eJ (uW fh (aq (au ρ 3) A) fun A=>bR (aq (Vd ρ) A) fun A=>Rz.ok [] A) ρ
def Dg(i j:Nat)(ρ:az)(A:Ab):Rz Tr:=(bR (aq (au ρ i) A) fun A=>bR (aq (au ρ j) A) fun A=>Rz.ok [] A).bind bY
def RU(ρ:az):Rs Tr:=iD [none,some 6,some 7] (gN 0) (fun ρ=>Mv (kP (cO LR (au ρ 0) (au ρ 1))) (kP (cO LR (au ρ 0) (au ρ 2)))) (fun ρ=>au ρ 0) (mn (au ρ 2)) ρ
def YE(ρ:az)(A:Ab):Rz Tr:=(bR (aq (aL cT (ag (au ρ 10) (Rs.ok []))) A) fun A=>Rz.ok [] A).bind jO
def RV(ρ:az):Rs Bool:=DP ((aL (fJ 5) (ag (au ρ 9) (ag (aL cT (ag (iD [none,some 10] (gN 0) (fun x=>Rs.ok true) (fun ρ=>fc (ag (au ρ 0) (ag (cO oU (aL cU (ag (au ρ 1) (Rs.ok []))) (au ρ 0)) (Rs.ok [])))) (mn (au ρ 11)) ρ) (Rs.ok []))) (Rs.ok [])))).bind qj)
def RW(ρ:az)(A:Ab):Rz Bool:=MN (ou (jG tY (Dg 7 6 ρ A) fun A=>aq (au ρ 9) A)) fun A=>MN (ou (jG tY (Dg 9 6 ρ A) fun A=>aq (au ρ 9) A)) fun A=>ou (jG tY ((bR (aq (au ρ 9) A) fun A=>bR (aq (fc (Rs.ok [])) A) fun A=>Rz.ok [] A).bind bY) fun A=>aq (au ρ 9) A)
def RX(ρ:az)(A:Ab):Rz Bool:=ou (jG tY ((bR (Dg 6 7 ρ A) fun A=>bR (aq (au ρ 8) A) fun A=>Rz.ok [] A).bind bY) fun A=>(bR (aq (au ρ 6) A) fun A=>bR (Dg 7 8 ρ A) fun A=>Rz.ok [] A).bind bY)
def RY:az->Ab->Rz Out:=fun ρ A=>bS (cR 2 (aq (Wg ρ) A) ρ) fun ρ A=>bS (cR 3 (fg (vH (Rs.ok [])) A) ρ) fun ρ A=>bS (jR (gN 4) RT (aq (nX (ag (Rs.ok (Tr.int 3)) (Rs.ok []))) A) ρ) fun ρ A=>bS (Bf [6,7,8] (aq (au ρ 3) A) ρ) fun ρ A=>bS (cR 9 (Dg 6 7 ρ A) ρ) fun ρ A=>bS (cR 10 (aq (RU ρ) A) ρ) fun ρ A=>bS (cR 11 (YE ρ A) ρ) fun ρ A=>bS (fin ρ (aq (RV (a_ A ρ)) A)) fun ρ A=>bS (fin ρ (RW ρ A)) fun ρ A=>fin ρ (RX ρ A)
def L8:az->Ab->Rz Out:=fun ρ A=>jF (jG vL ((bR (aq (fc (Rs.ok [])) A) fun A=>bR (aq (fc (Rs.ok [])) A) fun A=>Rz.ok [] A).bind bY) fun A=>aq (fc (Rs.ok [])) A)
def YF:az->Ab->Rz Out:=fun ρ A=>bS (jR (gN 1) RY (aq (nX (ag (Rs.ok (Tr.int 3)) (Rs.ok []))) A) ρ) L8
theorem L9:Bi.1=YF:=rfl
theorem Ve:nX (ag (Rs.ok (Tr.int 3)) (Rs.ok []))=.ok [.int 0,.int 1,.int 2]:=rfl
def j2(l:List Mk):List Mk:=(FU l).mergeSort wK
theorem iK{l:List Mk}{m:Mk}:m∈j2 l↔m∈l:=((cM _ _).mem_iff).trans wy
theorem lF(l:List Mk):(j2 l).Nodup:=(cM _ _).nodup_iff.mpr (wz l)
theorem L_{l l':List Mk}(h:∀m,m∈l↔m∈l'):j2 l=j2 l':=Fw ((j6 (wz l) (wz l')).mpr fun m=>by rw[wy,wy];exact h m)
theorem H_{c:Int}{n:Nat}{l:List Mk}(sub:∀m∈l,m∈marks c n):(j2 l).length<=n:=by
 have h:=mJ (lF l) fun m hm=>sub m (iK.mp hm);rw[dH]at h;exact h
theorem FE{c:Int}{n:Nat}{l:List Mk}(nd:l.Nodup)(sub:∀m∈l,m∈marks c n):l.length<=n:=by
 have h:=mJ nd sub;rw[dH]at h;exact h
section
variable {c:Int}{n:Nat}{H:Mk->Nat}{A:Ab}
theorem qd(hn:n<=9){a b l:List Mk}(sub:∀m∈l,m∈marks c n)(K:ur (j2 l) (bX c) H)(na:a.Nodup)(nb:b.Nodup)(hm:∀m,(m∈a\/m∈b)↔m∈l)(hA:A[0]?=some HZ):bY [bp a (bX c),bp b (bX c)] A=.ok (bp (cz H (j2 l)) (bX c)) A:=by
 have h1:=H_ sub;have h2:=FE na fun m hx=>sub m ((hm m).mp (.inl hx));have h3:=FE nb fun m hx=>sub m ((hm m).mp (.inr hx));exact tV (L_ fun m=>by rw[bD];exact(hm m).symm) K (by omega) (by omega) hA
theorem tX{i j:Nat}{ρ:az}{a b:Tr}(h1:au ρ i=.ok a)(h2:au ρ j=.ok b):Dg i j ρ A=bY [a,b] A:=by
 unfold Dg;rw[h1,h2]
 rfl
theorem Ia{l:List Mk}{bh:Mk->List Mk}{f:Ab->Rz Tr}(h:f A=.ok (bp l bh) A):ou (jG tY (.ok (bp l bh) A) f)=.ok false A:=by
 unfold jG;rw[wx,h,wx];show ou (vN (tY (bp l bh) (bp l bh)) A)=_;rw[ne_self]
 rfl
theorem zS{l:List Mk}(h:l.Nodup):(cz H l).Nodup:=(cM _ _).nodup_iff.mpr h
theorem wA{l:List Mk}{m:Mk}:m∈cz H l↔m∈l:=(cM _ _).mem_iff
theorem Jo{bh:Mk->List Mk}(m:Mk)(l:List Mk):LR (tL bh m) (bp l bh)=.ok (.bl (decide (m∈l))):=by
 show(if n5 (tL bh m)=true/\jk (l.map (tL bh))=true/\uO (l.map (tL bh))<=40 then Rs.ok (Tr.bl ((l.map (tL bh)).any fun y=>eqT y (tL bh m)))else .bad)=_;rw[ab ⟨FA m,zO l,by have:=FC (bh:=bh) l;omega⟩,kx];congr 2;show(l.any fun y=>eqT (tL bh y) (tL bh m))=_;rw[nh,ke,ck];constructor
 ·rintro ⟨y,hy,e⟩
  rw[RS,ck]at e;exact e▸hy
 ·intro h;exact⟨m,h,by rw[RS];exact bF rfl⟩
theorem FF{bh:Mk->List Mk}{l:List Mk}(hl:l.length<=1000)(hb:∀m∈l,(bh m).length<=1000):oO 5 (bp l bh):=oP (by rw[ah];exact hl) fun t ht=>by
 obtain⟨m,hm,rfl⟩:=aW.mp ht;refine oP (by show 2<=1000;decide) fun t ht=>?_
 rcases aN.mp ht with rfl|ht
 ·exact vo 1 m
 ·rw[cB.mp ht];exact zL 0 (hb m hm)
end
end lY
namespace lY
open PySem L2
theorem Ma{ns:List Int}{j y:Int}(ey:fI [.gB ns,.int (3+j)]=.ok (.int y)){c:Int}{ms:List Mk}(hm:∀m∈ms,0<=m.2/\m.2<1000)(hl:ms.length<=20){a1 a3 a5 a6 a7 a8 a9 a10 a11:Cell}:Vc [.sh (.gB ns),a1,.sh (.lst (ms.map (bM c))),a3,.sh (.int j),a5,a6,a7,a8,a9,a10,a11]=.ok (.lst ((ms.filter fun m=>decide (0<mix (y+3*m.2) 9497 3)).map (bM c))):=by
 unfold Vc;show(if(ms.map (bM c)).length<=ji then(mq (gN 0) _ _ (ms.map (bM c)) [.no,.sh (.int j),.sh (.gB ns)]).bind fun ys=>Rs.ok (Tr.lst ys)else .bad)=_;rw[ab (by rw[ah];unfold ji;omega),L7 (P:=fun m=>decide (0<mix (y+3*m.2) 9497 3)) (f:=bM c) (g:=bM c) ms .no (fun m hx=>?_) (fun _ _ _=>rfl)]
 ·rfl
 ·show kP (cO Kt (aL bK (ag (cO gn (fI [.gB ns,.int (3+j)]) (jD (.int 3) (.int m.2))) (ag (Rs.ok (Tr.int 9497)) (ag (Rs.ok (Tr.int 3)) (Rs.ok []))))) (Rs.ok (Tr.int 0)))=_;rw[ey,wq (by obtain⟨h1,h2⟩:=hm m hx;unfold pP;simp)];show kP (cO Kt (bK [.int (y+3*m.2),.int 9497,.int 3]) (Rs.ok (Tr.int 0)))=_;rw[qa _ _ _ (by decide) (by decide) (by decide)]
  rfl
theorem zT(ns:List Int)(j:Int)(hj:0<=j){c:Int}{n:Nat}(hn:n<=9){p:Nat}{us:List Tr}{A:Ab}(hp:A[p]?=some (.lst us))(h0:0<p)(hu:us.length<=100){a1 a5 a6 a7 a8 a9 a10 a11:Cell}:
  ∃ks d5,ks.Nodup/\(∀m∈ks,m∈marks c n)/\RT [.sh (.gB ns),a1,.sh (.lst ((marks c n).map (bM c))),.sh (.at p),.sh (.int j),a5,a6,a7,a8,a9,a10,a11] A=.ok (.nx [.sh (.gB ns),a1,.sh (.lst ((marks c n).map (bM c))),.sh (.at p),.sh (.int j),d5,a6,a7,a8,a9,a10,a11]) (A.set p (.lst (us++[bp ks (bX c)]))):=by
 obtain⟨y,ey⟩:=zM ns (3+j) (by omega);obtain⟨z,ez⟩:=zM ns 6 (by decide);have ml:(marks c n).length<=20:=by rw[dH];omega
 have mb:∀m∈marks c n,0<=m.2/\m.2<1000:=fun m hm=>by
  obtain⟨i,hi,rfl⟩:=lR.mp hm;show 0<=(i:Int)/\(i:Int)<1000;omega
 obtain⟨ks,em,pm⟩:=HW c (z+j) (ms:=(marks c n).filter fun m=>decide (0<mix (y+3*m.2) 9497 3)) (bx (j7 _ _) ml);refine⟨ks,.sh (.lst (((marks c n).filter fun m=>decide (0<mix (y+3*m.2) 9497 3)).map (bM c))),pm.nodup_iff.mpr (dz (tO _ _)),fun m hm=>(cx.mp (pm.mem_iff.mp hm)).1,?_⟩;unfold RT;rw[Ma ey mb ml,gz,ef];have e3:Vd [.sh (.gB ns),a1,.sh (.lst ((marks c n).map (bM c))),.sh (.at p),.sh (.int j),.sh (.lst (((marks c n).filter fun m=>decide (0<mix (y+3*m.2) 9497 3)).map (bM c))),a6,a7,a8,a9,a10,a11]=.ok (bp ks (bX c)):=by
  show aL jt (ag (.ok (.lst (((marks c n).filter fun m=>decide (0<mix (y+3*m.2) 9497 3)).map (bM c)))) (ag (cO gn (fI [.gB ns,.int 6]) (.ok (.int j))) (Rs.ok [])))=_;rw[ez];exact em
 show eJ (uW fh (.ok (.at p) A) fun A=>bR (aq (Vd [.sh (.gB ns),a1,.sh (.lst ((marks c n).map (bM c))),.sh (.at p),.sh (.int j),.sh (.lst (((marks c n).filter fun m=>decide (0<mix (y+3*m.2) 9497 3)).map (bM c))),a6,a7,a8,a9,a10,a11]) A) fun A=>Rz.ok [] A) _=_;rw[e3];show eJ (uW fh (.ok (.at p) A) fun A=>.ok [bp ks (bX c)] A) _=_;rw[wt hp (by omega)]
 rfl
section
variable {c:Int}{n:Nat}{k1 k2 k3:List Mk}{H H2 H3:Mk->Nat}{A:Ab}{a0 a1 a3 a4 a5 a9 a10 a11:Cell}
theorem Mb(hn:n<=9):RU [a0,a1,.sh (.lst ((marks c n).map (bM c))),a3,a4,a5,.sh (bp k1 (bX c)),.sh (bp k2 (bX c)),.sh (bp k3 (bX c)),a9,a10,a11]=.ok (.lst (((marks c n).filter fun m=>decide (m∈k1)||decide (m∈k2)).map (bM c))):=by
 have ml:(marks c n).length<=20:=by rw[dH];omega
 unfold RU;show(if((marks c n).map (bM c)).length<=ji then(mq (gN 0) _ _ ((marks c n).map (bM c)) [.no,.sh (bp k1 (bX c)),.sh (bp k2 (bX c))]).bind fun ys=>Rs.ok (Tr.lst ys)else .bad)=_;rw[ab (by rw[ah];unfold ji;omega),L7 (P:=fun m=>decide (m∈k1)||decide (m∈k2)) (f:=bM c) (g:=bM c) _ .no (fun m hx=>?_) (fun _ _ _=>rfl)]
 ·rfl
 ·show Mv (kP (LR (tL (bX c) m) (bp k1 (bX c)))) (kP (LR (tL (bX c) m) (bp k2 (bX c))))=_;rw[Jo,Jo,zK,zK,Jm]
theorem Mc{W:List Mk}(hW:W.Nodup)(hl:W.length<=20)(hb:∀m∈W,(bX c m).length<=20){os:List Mk}(hp:os.Perm W){a2 a6 a7 a8:Cell}:RV (a_ A [a0,a1,a2,a3,a4,a5,a6,a7,a8,.sh (bp os (bX c)),.sh (.lst (W.map (bM c))),.sh (.tup (os.map tM))])=.ok false:=by
 have ol:os.length<=1000:=by rw[hp.length_eq];omega
 have e:iD [none,some 10] (gN 0) (fun x=>Rs.ok true) (fun ρ=>fc (ag (au ρ 0) (ag (cO oU (aL cU (ag (au ρ 1) (Rs.ok []))) (au ρ 0)) (Rs.ok [])))) (mn (.ok (.tup (os.map tM)))) (a_ A [a0,a1,a2,a3,a4,a5,a6,a7,a8,.sh (bp os (bX c)),.sh (.lst (W.map (bM c))),.sh (.tup (os.map tM))])=.ok (.lst (os.map (tL (bX c)))):=by
  show iD [none,some 10] (gN 0) _ _ (.ok (os.map tM)) _=_;rw[pL ol];show(mq (gN 0) _ _ (os.map tM) [.no,.sh (.lst (W.map (bM c)))]).bind _=_;rw[Fy (f:=tM) (g:=tL (bX c)) _ .no fun m hm=>?_]
  ·rfl
  ·show fc (ag (.ok (tM m)) (ag (cO oU (cU [.lst (W.map fun m=>.tup [tM m,tB (bX c) m])]) (.ok (tM m))) (Rs.ok [])))=_;rw[oJ (tB (bX c)) hW (by omega)];show fc (ag (.ok (tM m)) (ag (oU (.bj (fD W (tB (bX c)))) (tM m)) (Rs.ok [])))=_;rw[lE (hp.mem_iff.mp hm)]
   rfl
 unfold RV;show DP ((aL (fJ 5) (ag (.ok (bp os (bX c))) (ag (aL cT (ag (iD [none,some 10] (gN 0) (fun x=>Rs.ok true) (fun ρ=>fc (ag (au ρ 0) (ag (cO oU (aL cU (ag (au ρ 1) (Rs.ok []))) (au ρ 0)) (Rs.ok [])))) (mn (.ok (.tup (os.map tM)))) (a_ A [a0,a1,a2,a3,a4,a5,a6,a7,a8,.sh (bp os (bX c)),.sh (.lst (W.map (bM c))),.sh (.tup (os.map tM))])) (Rs.ok []))) (Rs.ok [])))).bind qj)=_;rw[e];show DP ((fJ 5 [bp os (bX c),bp os (bX c)]).bind qj)=_;have s:fJ 5 [bp os (bX c),bp os (bX c)]=.ok (.bl true):=FF ol fun m hm=>bx (hb m (hp.mem_iff.mp hm)) (by omega);rw[s]
 rfl
variable (hn:n<=9)(n1:k1.Nodup)(n2:k2.Nodup)(n3:k3.Nodup)(s1:∀m∈k1,m∈marks c n)(s2:∀m∈k2,m∈marks c n)(s3:∀m∈k3,m∈marks c n)(hA:A[0]?=some HZ)
include hn n1 n2 s1 s2 hA
theorem Md(K:ur (j2 (k1++k2)) (bX c) H){a2 a8:Cell}{ρ:az}(e:ρ=[a0,a1,a2,a3,a4,a5,.sh (bp k1 (bX c)),.sh (bp k2 (bX c)),a8,.sh (bp (cz H (j2 (k1++k2))) (bX c)),a10,a11]):RW ρ A=.ok false A:=by
 have sub:∀m∈k1++k2,m∈marks c n:=fun m hm=>(bD.mp hm).elim (s1 m) (s2 m);have on:(cz H (j2 (k1++k2))).Nodup:=zS (lF _);have om:∀m,m∈cz H (j2 (k1++k2))↔m∈k1++k2:=fun m=>wA.trans iK;have g6:au ρ 6=.ok (bp k1 (bX c)):=by rw[e];rfl
 have g7:au ρ 7=.ok (bp k2 (bX c)):=by rw[e];rfl
 have g9:au ρ 9=.ok (bp (cz H (j2 (k1++k2))) (bX c)):=by rw[e];rfl
 have f9:∀A,aq (au ρ 9) A=.ok (bp (cz H (j2 (k1++k2))) (bX c)) A:=fun A=>by rw[g9];rfl
 have q1:ou (jG tY (Dg 7 6 ρ A) fun A=>aq (au ρ 9) A)=.ok false A:=by
  rw[tX g7 g6,qd hn sub K n2 n1 (fun m=>by rw[bD];exact or_comm) hA];exact Ia (f9 A)
 have q2:ou (jG tY (Dg 9 6 ρ A) fun A=>aq (au ρ 9) A)=.ok false A:=by
  rw[tX g9 g6,qd hn sub K on n1 (fun m=>by rw[om,bD];exact⟨fun h=>h.elim id .inl,.inl⟩) hA];exact Ia (f9 A)
 have q3:ou (jG tY ((bR (aq (au ρ 9) A) fun A=>bR (aq (fc (Rs.ok [])) A) fun A=>Rz.ok [] A).bind bY) fun A=>aq (au ρ 9) A)=.ok false A:=by
  rw[f9 A];show ou (jG tY (bY [bp (cz H (j2 (k1++k2))) (bX c),bp [] (bX c)] A) _)=_;rw[qd hn sub K on f6 (fun m=>by rw[om];exact⟨fun h=>h.elim id (fun h=>by cases h),.inl⟩) hA];exact Ia (f9 A)
 unfold RW;rw[q1];show MN (ou (jG tY (Dg 9 6 ρ A) fun A=>aq (au ρ 9) A)) _=_;rw[q2];exact q3
include n3 s3
theorem Me(K:ur (j2 (k1++k2)) (bX c) H){a2:Cell}:RX [a0,a1,a2,a3,a4,a5,.sh (bp k1 (bX c)),.sh (bp k2 (bX c)),.sh (bp k3 (bX c)),a9,a10,a11] A=.ok false A:=by
 have sub:∀m∈k1++k2,m∈marks c n:=fun m hm=>(bD.mp hm).elim (s1 m) (s2 m);have Mf:∀m∈k2++k3,m∈marks c n:=fun m hm=>(bD.mp hm).elim (s2 m) (s3 m);have Mg:∀m∈k1++(k2++k3),m∈marks c n:=fun m hm=>(bD.mp hm).elim (s1 m) (Mf m);obtain⟨H2,K2,_⟩:=L6 hn (lF (k2++k3)) fun m hm=>Mf m (iK.mp hm);obtain⟨H3,K3,_⟩:=L6 hn (lF (k1++(k2++k3))) fun m hm=>Mg m (iK.mp hm);have om:∀m,m∈cz H (j2 (k1++k2))↔m∈k1++k2:=fun m=>wA.trans iK;have YG:∀m,m∈cz H2 (j2 (k2++k3))↔m∈k2++k3:=fun m=>wA.trans iK;unfold RX;rw[tX (a:=bp k1 (bX c)) (b:=bp k2 (bX c)) rfl rfl,qd hn sub K n1 n2 (fun m=>bD.symm) hA];show ou (jG tY (bY [bp (cz H (j2 (k1++k2))) (bX c),bp k3 (bX c)] A) _)=_;rw[qd hn Mg K3 (zS (lF _)) n3 (fun m=>by rw[om,<-fV,<-bD]) hA];refine Ia ?_
 have q:∀ρ,au ρ 7=.ok (bp k2 (bX c))->au ρ 8=.ok (bp k3 (bX c))->Dg 7 8 ρ A=.ok (bp (cz H2 (j2 (k2++k3))) (bX c)) A:=fun ρ h1 h2=>by
  rw[tX h1 h2,qd hn Mf K2 n2 n3 (fun m=>bD.symm) hA]
 show((bR (Dg 7 8 [a0,a1,a2,a3,a4,a5,.sh (bp k1 (bX c)),.sh (bp k2 (bX c)),.sh (bp k3 (bX c)),a9,a10,a11] A) fun A=>Rz.ok [] A).bind fun ts A=>Rz.ok (bp k1 (bX c)::ts) A).bind bY=_;rw[q _ rfl rfl];show bY [bp k1 (bX c),bp (cz H2 (j2 (k2++k3))) (bX c)] A=_;exact qd hn Mg K3 n1 (zS (lF _)) (fun m=>by rw[YG,<-bD]) hA
end
end lY
namespace lY
open PySem L2
set_option maxHeartbeats 1000000 in
theorem zU(ns:List Int)(k:Int)(hk:0<=k){A:Ab}(hA:A[0]?=some HZ){c2 c3 c4 c5 c6 c7 c8 c9 c10 c11:Cell}:∃A' d2 d3 d4 d5 d6 d7 d8 d9 YH YI,RY [.sh (.gB ns),.sh (.int k),c2,c3,c4,c5,c6,c7,c8,c9,c10,c11] A=.ok (.nx [.sh (.gB ns),.sh (.int k),d2,d3,d4,d5,d6,d7,d8,d9,YH,YI]) A'/\A'[0]?=some HZ:=by
 obtain⟨x,ex⟩:=zM ns k hk;obtain⟨n,hn,el⟩:=C6 (x+k);have e1:Wg [.sh (.gB ns),.sh (.int k),c2,c3,c4,c5,c6,c7,c8,c9,c10,c11]=.ok (.lst ((marks (x+k) n).map (bM (x+k)))):=by
  show aL gy (ag (cO gn (fI [.gB ns,.int k]) (.ok (.int k))) (ag (Rs.ok (Tr.int 9)) (Rs.ok [])))=_;rw[ex];exact el
 clear ex el
 generalize x+k=c at e1;have l0:=cL hA;have hj:(A++[.lst []])[A.length]?=some (.lst []):=by rw[dI (ak _),eD];rfl
 have Wh:(A++[.lst []])[0]?=some HZ:=by rw[cq l0];exact hA
 have dn:fg (vH (Rs.ok [])) A=.ok (.at A.length) (A++[.lst []]):=rfl;generalize A++[Ao.lst []]=A0 at hj Wh dn;generalize A.length=p at hj dn l0;have lp:=cL hj;obtain⟨k1,x1,n1,s1,q1⟩:=zT ns 0 (by decide) hn hj l0 (by show 0<=100;decide) (a1:=.sh (.int k)) (a5:=c5) (a6:=c6) (a7:=c7) (a8:=c8) (a9:=c9) (a10:=c10) (a11:=c11) (c:=c);have h1:(A0.set p (.lst ([]++[bp k1 (bX c)])))[p]?=some (.lst [bp k1 (bX c)]):=dJ lp
 have g1:(A0.set p (.lst ([]++[bp k1 (bX c)])))[0]?=some HZ:=by rw[cA (by omega)];exact Wh
 generalize A0.set p (.lst ([]++[bp k1 (bX c)]))=A1 at q1 h1 g1;obtain⟨k2,x2,n2,s2,q2⟩:=zT ns 1 (by decide) hn h1 l0 (by show 1<=100;decide) (a1:=.sh (.int k)) (a5:=x1) (a6:=c6) (a7:=c7) (a8:=c8) (a9:=c9) (a10:=c10) (a11:=c11) (c:=c);have h2:(A1.set p (.lst ([bp k1 (bX c)]++[bp k2 (bX c)])))[p]?=some (.lst [bp k1 (bX c),bp k2 (bX c)]):=dJ (cL h1)
 have g2:(A1.set p (.lst ([bp k1 (bX c)]++[bp k2 (bX c)])))[0]?=some HZ:=by rw[cA (by omega)];exact g1
 generalize A1.set p (.lst ([bp k1 (bX c)]++[bp k2 (bX c)]))=A2 at q2 h2 g2;obtain⟨k3,x3,n3,s3,q3⟩:=zT ns 2 (by decide) hn h2 l0 (by show 2<=100;decide) (a1:=.sh (.int k)) (a5:=x2) (a6:=c6) (a7:=c7) (a8:=c8) (a9:=c9) (a10:=c10) (a11:=c11) (c:=c);have h3:(A2.set p (.lst ([bp k1 (bX c),bp k2 (bX c)]++[bp k3 (bX c)])))[p]?=some (.lst [bp k1 (bX c),bp k2 (bX c),bp k3 (bX c)]):=dJ (cL h2)
 have g3:(A2.set p (.lst ([bp k1 (bX c),bp k2 (bX c)]++[bp k3 (bX c)])))[0]?=some HZ:=by rw[cA (by omega)];exact g2
 generalize A2.set p (.lst ([bp k1 (bX c),bp k2 (bX c)]++[bp k3 (bX c)]))=A3 at q3 h3 g3;have sub:∀m∈k1++k2,m∈marks c n:=fun m hm=>(bD.mp hm).elim (s1 m) (s2 m);obtain⟨H,K,_⟩:=L6 hn (lF (k1++k2)) fun m hm=>sub m (iK.mp hm);have wn:((marks c n).filter fun m=>decide (m∈k1)||decide (m∈k2)).Nodup:=dz (tO _ _);have wp:((marks c n).filter fun m=>decide (m∈k1)||decide (m∈k2)).Perm (j2 (k1++k2)):=(j6 wn (lF _)).mpr fun m=>by
  rw[cx,iK,bD,nk,ck,ck];exact⟨fun h=>h.2,fun h=>⟨sub m (bD.mpr h),h⟩⟩
 have Wi:=Mb (c:=c) (n:=n) (k1:=k1) (k2:=k2) (k3:=k3) (a0:=.sh (.gB ns)) (a1:=.sh (.int k)) (a3:=.sh (.at p)) (a4:=.sh (.int 2)) (a5:=x3) (a9:=.sh (bp (cz H (j2 (k1++k2))) (bX c))) (a10:=c10) (a11:=c11) hn;generalize hW:(marks c n).filter (fun m=>decide (m∈k1)||decide (m∈k2))=W at wn wp Wi;have KW:ur W (bX c) H:=K.perm wp;have eo:cz H W=cz H (j2 (k1++k2)):=vp wp;have wl:W.length<=20:=KW.len;refine⟨A3,.sh (.lst ((marks c n).map (bM c))),.sh (.at p),.sh (.int 2),x3,.sh (bp k1 (bX c)),.sh (bp k2 (bX c)),.sh (bp k3 (bX c)),.sh (bp (cz H (j2 (k1++k2))) (bX c)),.sh (.lst (W.map (bM c))),.sh (.tup ((cz H (j2 (k1++k2))).map tM)),?_,g3⟩;unfold RY;rw[e1,gz,ef,dn,ef,Ve,gz,Fz];show bS (jm (gN 4) RT [.int 0,.int 1,.int 2] [.sh (.gB ns),.sh (.int k),.sh (.lst ((marks c n).map (bM c))),.sh (.at p),c4,c5,c6,c7,c8,c9,c10,c11] A0) _=_;rw[uq (ρ1:=[.sh (.gB ns),.sh (.int k),.sh (.lst ((marks c n).map (bM c))),.sh (.at p),.sh (.int 0),c5,c6,c7,c8,c9,c10,c11]) rfl q1,uq (ρ1:=[.sh (.gB ns),.sh (.int k),.sh (.lst ((marks c n).map (bM c))),.sh (.at p),.sh (.int 1),x1,c6,c7,c8,c9,c10,c11]) rfl q2,uq (ρ1:=[.sh (.gB ns),.sh (.int k),.sh (.lst ((marks c n).map (bM c))),.sh (.at p),.sh (.int 2),x2,c6,c7,c8,c9,c10,c11]) rfl q3];rw[jm,tW];have un:Bf [6,7,8] (aq (au [Cell.sh (.gB ns),.sh (.int k),.sh (.lst ((marks c n).map (bM c))),.sh (.at p),.sh (.int 2),x3,c6,c7,c8,c9,c10,c11] 3) A3) [Cell.sh (.gB ns),.sh (.int k),.sh (.lst ((marks c n).map (bM c))),.sh (.at p),.sh (.int 2),x3,c6,c7,c8,c9,c10,c11]=.ok (.nx [Cell.sh (.gB ns),.sh (.int k),.sh (.lst ((marks c n).map (bM c))),.sh (.at p),.sh (.int 2),x3,.sh (bp k1 (bX c)),.sh (bp k2 (bX c)),.sh (bp k3 (bX c)),c9,c10,c11]) A3:=by
  unfold Bf;show(match A3[p]? with
   |some (.lst us)=>(aq (uK [6,7,8] us _) A3).bind fun eS A=>Rz.ok (Out.nx eS) A
   |_=>Rz.bad)=_
  rw[h3]
  rfl
 rw[un,tW,tX (a:=bp k1 (bX c)) (b:=bp k2 (bX c)) rfl rfl,qd hn sub K n1 n2 (fun m=>bD.symm) g3,ef];show bS (cR 10 (aq (RU [.sh (.gB ns),.sh (.int k),.sh (.lst ((marks c n).map (bM c))),.sh (.at p),.sh (.int 2),x3,.sh (bp k1 (bX c)),.sh (bp k2 (bX c)),.sh (bp k3 (bX c)),.sh (bp (cz H (j2 (k1++k2))) (bX c)),c10,c11]) A3) [.sh (.gB ns),.sh (.int k),.sh (.lst ((marks c n).map (bM c))),.sh (.at p),.sh (.int 2),x3,.sh (bp k1 (bX c)),.sh (bp k2 (bX c)),.sh (bp k3 (bX c)),.sh (bp (cz H (j2 (k1++k2))) (bX c)),c10,c11]) _=_;rw[Wi,gz,ef];show bS (cR 11 (jO [bp W (bX c)] A3) [.sh (.gB ns),.sh (.int k),.sh (.lst ((marks c n).map (bM c))),.sh (.at p),.sh (.int 2),x3,.sh (bp k1 (bX c)),.sh (bp k2 (bX c)),.sh (bp k3 (bX c)),.sh (bp (cz H (j2 (k1++k2))) (bX c)),.sh (.lst (W.map (bM c))),c11]) _=_;rw[Bt KW g3,ef,eo];show bS (fin _ (aq (RV (a_ A3 [.sh (.gB ns),.sh (.int k),.sh (.lst ((marks c n).map (bM c))),.sh (.at p),.sh (.int 2),x3,.sh (bp k1 (bX c)),.sh (bp k2 (bX c)),.sh (bp k3 (bX c)),.sh (bp (cz H (j2 (k1++k2))) (bX c)),.sh (.lst (W.map (bM c))),.sh (.tup ((cz H (j2 (k1++k2))).map tM))])) A3)) _=_;rw[Mc (os:=cz H (j2 (k1++k2))) wn wl KW.LU ((cM _ _).trans wp.symm),gz,zR,tW];show bS (fin [.sh (.gB ns),.sh (.int k),.sh (.lst ((marks c n).map (bM c))),.sh (.at p),.sh (.int 2),x3,.sh (bp k1 (bX c)),.sh (bp k2 (bX c)),.sh (bp k3 (bX c)),.sh (bp (cz H (j2 (k1++k2))) (bX c)),.sh (.lst (W.map (bM c))),.sh (.tup ((cz H (j2 (k1++k2))).map tM))] (RW [.sh (.gB ns),.sh (.int k),.sh (.lst ((marks c n).map (bM c))),.sh (.at p),.sh (.int 2),x3,.sh (bp k1 (bX c)),.sh (bp k2 (bX c)),.sh (bp k3 (bX c)),.sh (bp (cz H (j2 (k1++k2))) (bX c)),.sh (.lst (W.map (bM c))),.sh (.tup ((cz H (j2 (k1++k2))).map tM))] A3)) _=_;rw[Md hn n1 n2 s1 s2 g3 K rfl,zR,tW];show fin _ (RX [.sh (.gB ns),.sh (.int k),.sh (.lst ((marks c n).map (bM c))),.sh (.at p),.sh (.int 2),x3,.sh (bp k1 (bX c)),.sh (bp k2 (bX c)),.sh (bp k3 (bX c)),.sh (bp (cz H (j2 (k1++k2))) (bX c)),.sh (.lst (W.map (bM c))),.sh (.tup ((cz H (j2 (k1++k2))).map tM))] A3)=_;rw[Me hn n1 n2 n3 s1 s2 s3 g3 K,zR]
theorem Vf:ur [] (fun _=>[]) (fun _=>0):=⟨f6,by decide,fun _ h=>(by cases h),fun _ h=>(by cases h),fun _ h=>(by cases h),fun _ h=>(by cases h),fun _ h=>(by cases h),fun _ h=>(by cases h)⟩
theorem QZ(ns:List Int):∃A',vm [.gB ns] TB=.ok (.bl true) A':=by
 obtain⟨A1,a2,a3,a4,a5,a6,a7,a8,a9,a10,a11,e0,h1⟩:=zU ns 0 (by decide) (A:=TB) rfl (c2:=.no) (c3:=.no) (c4:=.no) (c5:=.no) (c6:=.no) (c7:=.no) (c8:=.no) (c9:=.no) (c10:=.no) (c11:=.no);obtain⟨A2,b2,b3,b4,b5,b6,b7,b8,b9,Wj,Wk,e1,h2⟩:=zU ns 1 (by decide) h1 (c2:=a2) (c3:=a3) (c4:=a4) (c5:=a5) (c6:=a6) (c7:=a7) (c8:=a8) (c9:=a9) (c10:=a10) (c11:=a11);obtain⟨A3,c2,c3,c4,c5,c6,c7,c8,c9,c10,c11,e2,h3⟩:=zU ns 2 (by decide) h2 (c2:=b2) (c3:=b3) (c4:=b4) (c5:=b5) (c6:=b6) (c7:=b7) (c8:=b8) (c9:=b9) (c10:=Wj) (c11:=Wk);have e4:=tV (a:=[]) (b:=[]) (us:=[]) (bh:=fun _=>[]) (A:=A3) (by rw[show FU ([]++[])=([]:List Mk)from rfl,List.mergeSort_nil]) Vf (by decide) (by decide) h3;refine⟨A3,?_⟩;have or:cz (fun _=>0) []=[]:=mQ.mp (yz (H:=fun _=>0) []);rw[or]at e4;show eY (Bi.1 [.sh (.gB ns),.no,.no,.no,.no,.no,.no,.no,.no,.no,.no,.no] TB)=_;rw[L9];show eY (bS (jm (gN 1) RY [.int 0,.int 1,.int 2] [.sh (.gB ns),.no,.no,.no,.no,.no,.no,.no,.no,.no,.no,.no] TB) L8)=_;rw[uq (ρ1:=[.sh (.gB ns),.sh (.int 0),.no,.no,.no,.no,.no,.no,.no,.no,.no,.no]) rfl e0,uq (ρ1:=[.sh (.gB ns),.sh (.int 1),a2,a3,a4,a5,a6,a7,a8,a9,a10,a11]) rfl e1,uq (ρ1:=[.sh (.gB ns),.sh (.int 2),b2,b3,b4,b5,b6,b7,b8,b9,Wj,Wk]) rfl e2];rw[jm,tW];unfold L8;show eY (jF (jG vL (bY [bp [] fun _=>[],bp [] fun _=>[]] A3) _))=_;rw[e4]
 rfl
end lY
namespace lY
open PySem L2
def O:MO:=⟨["all","bool","dict","int","isinstance","len","list","max","range","set","sorted","str","tuple","zip"],[],[],[],[],[],[],[],[]⟩
set_option maxHeartbeats 8000000 in
theorem all_mk{l:PySem.W.OpenLaw}{w:World}{K:PySem.W.Frag}{h:Heap}{mg:Str->Option Value}{fa tc tP:Addr}(X:K.In h)(G:h.Ns mainGlobals mg)(YJ:mg "law"=some (.ref fa))
  (c1:DS.map (Df.fd K)=DS.map (fun d=>d.re (d.fd K))) (c2:DS.all (Df.Ji K)=true) (c3:O.Ji K=true) (t1:PySem.W.tabIn K "order"=some (tc,tP)) (t2:CV K tc tP=true)
  :∃fd:FuncData,(∀(s:Shared) (v:Value),BindsTo s fd ⟨[v],[]⟩ [("_law_script",v)])/\∀base:Heap,K.In base->base.Ns mainGlobals mg->ia l.prog w K mg base (t7 l.prog w) 14 fa fd ["_law_script"] (yC K vm):=by
 have o:=O.ok X G c3;have T:Jk K w mg tc tP:=⟨fun i d e=>Fc X G c1 c2 d (bw e),o.bl rfl,o.bl rfl,o.bl rfl,o.bl rfl,o.bl rfl,o.bl rfl,o.bl rfl,o.bl rfl,o.bl rfl,o.bl rfl,o.bl rfl,o.bl rfl,o.bl rfl,o.bl rfl,⟨t1,t2⟩⟩;cases YJ.symm.trans ((T.d 9 rfl:p_.Ok K mg).m0 rfl);obtain⟨oc,od,kV,doc,pm,an,du,ct,z8,e9,_,_⟩:=(T.d 9 rfl:p_.Ok K mg).fn.ex;exact⟨_,fun s v=>by rw[e9];exact .of_eq rfl,fun base _ _=>(Qz T).ok⟩
theorem Mh{K:PySem.W.Frag}{H:Hp}{E:XK}{a tc tP:Addr}{ns:List Int}(t1:PySem.W.tabIn K "order"=some (tc,tP))(hT:H tP=some (.wB #[.str "order.<locals>.<lambda>" 0])) (hS:iS K H a (ns.map V.int)):yC K vm [.ref a] H (fun v _=>v=.bl true) E:=by
 let B:bZ:=⟨fun b=>b==tP,fun b=>if b=tP then some 0 else none⟩
 have CL:iS K (aT B H).H a (ns.map V.int):=by
  rcases hS with h|h
  ·refine .inl ?_
   have ff:a≠tP:=fun z=>by
    subst z;rcases h with h|⟨o,h⟩
    ·rw[hT]at h;cases h
    ·rw[hT]at h;cases h
   have e:(aT B H).H a=H a:=by
    show(if(a==tP)=true then none else H a)=_;rw[af (by simpa using ff)]
   rcases h with h|⟨o,h⟩
   ·exact .inl (by rw[e];exact h)
   ·exact .inr ⟨o,by rw[e];exact h⟩
  ·exact .inr h
 refine⟨B,TB,[.gB ns],⟨fun b e=>?_,fun i o e=>?_,fun a b i h1 h2=>?_,fun a i h=>?_⟩,.cons (.gB CL) .nil,?_⟩
 ·have e:b=tP:=by simpa[B]using e
  subst e;exact⟨_,hT,fun vs z=>by cases z⟩
 ·match i,e with
  |0,e=>
   cases e;exact⟨tP,ab rfl,bB _,⟨tc,t1⟩,hT⟩
  |i+1,e=>cases e
 ·have h1:(if a=tP then some 0 else none)=some i:=h1;have h2:(if b=tP then some 0 else none)=some i:=h2;split at h1
  ·split at h2
   ·rename_i x y;rw[x,y]
   ·cases h2
  ·cases h1
 ·have h:(if a=tP then some 0 else none)=some i:=h;split at h
  ·cases h;exact Nat.zero_lt_one
  ·cases h
 ·obtain⟨A9,e9⟩:=QZ ns;rw[e9];exact fun v B' H' _ _ r=>r.vG
theorem walk{l:PySem.W.OpenLaw}{q:Program}{loose:List Str}{XP:(Str->Option Value)->Heap->Prop}{YP:World->Heap->Prop}{d:DefRec}{K:Params->PySem.W.Frag}{tc tP:Addr}(hn:l.most=some 63)(Nw:d.params.defaults=[])
  (hY:∀(w:World) (h:Heap),YP w h->(K w.params).In h) (hP:∀(w:World) (h:Heap),YP w h->h.get? tP=some (PySem.W.tabObj #[])) (J4:∀w:World,(K w.params).lookup tP=none) (t1:∀w:World,PySem.W.tabIn (K w.params) "order"=some (tc,tP)) (t2:∀w:World,CV (K w.params) tc tP=true)
  (F:∀(w:World) (mg:Str->Option Value) (fa:Addr) (h:Heap),(K w.params).In h->h.Ns mainGlobals mg->mg d.name=some (.ref fa)->
   ∃fd:FuncData,(∀(s:Shared) (u:Value),BindsTo s fd ⟨[u],[]⟩ [("_law_script",u)])/\∀base:Heap,(K w.params).In base->base.Ns mainGlobals mg->ia l.prog w (K w.params) mg base (t7 l.prog w) 14 fa fd ["_law_script"] (yC (K w.params) vm)):
  PySem.W.WalkO q loose XP YP l.row.toRowW d [] (fun f vs=>PySem.call f vs):=
 L2.Gj (n:=63) (k:=14) (x:="_law_script") (tc:=tc) (tP:=tP) (tq:="order.<locals>.<lambda>") (CX:=fun w=>t7 l.prog w) (sp:=fun w=>yC (K w.params) vm) hn (by decide) Nw ⟨rfl,by decide,by decide⟩ hY (fun w h Y=>E3 (hY w h Y) (t2 w)) hP J4 F (fun w _ a ns hl hT hS=>Mh (t1 w) hT hS) fun _ _ _ _ _ ⟨_,_,_,_,_,_,_,_,_,z⟩=>z
end lY
open PySem PySem.W PyProof.Rows
set_option maxRecDepth 100000 in
set_option maxHeartbeats 0 in
theorem PySem.Challenge.cw_talkhall_k34_put_together_holds : PySem.Challenge.rw_talkhall_k34_put_together.Holds := by
 w_on;o_law;k_head;(case hw=>w_witness2)
 k_fill
 refine lY.walk (l:=PySem.Challenge.rw_talkhall_k34_put_together) (tc:=30) rfl rfl (fun w h Y=>PySem.W.km_in_of Y) (fun w h Y=>PySem.W.km_tabs_of Y _ (cB.mpr rfl)) ?J4 ?t1 ?t2 ?F
 case t1=>intro w;kernel_rfl
 case t2=>intro w;first|k_is|kernel_rfl
 case J4=>intro w;first|k_is|kernel_rfl
 case F=>
  intro w mg fa h KX G Nx
  refine' lY.all_mk (tc:=30) (tP:=26) KX G Nx ?_ ?_ ?_ ?_ ?_
  all_goals first|k_is|kernel_rfl|skip
