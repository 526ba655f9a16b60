import PyProof.Rows.All
import Wide.All
import OpenK.AllK
import Wide.FinOn
import Lean
import PyProof.EqAt
import PyProof.EqKinds
import PyProof.TupleCall
import KE.KLam
import PyProof.ExcArgsOwn
import PyProof.AttrMissSeq
import KE.KMinKey
import KE.KBoundM
import KE.KSortTup
import KE.KItemsList
import PyProof.ListRange
import PyProof.TupleIter
import PyProof.TupleOfSeq
import KE.KSortKey
import PyProof.TupleOfStr
import PySem.Challenge.RW_talkhall_k33_lacking_and_ready
set_option Elab.async false
set_option linter.all false
set_option maxRecDepth 100000
set_option maxHeartbeats 4000000
def aa:=@PySem.wpAny_bind
def aD:=@PySem.Heap.get?_push_of_some
def aj:=@List.length_map
def aI:=@List.getElem?_eq_getElem
def af:=@PySem.wpAny_pure
def aV:=@List.mem_cons_of_mem
def aU:=@PySem.Heap.get?_push_size
def bJ:=@List.getD_eq_getElem?_getD
def aA:=@Nat.le_refl
def aW:=@List.mem_cons_self
def ay:=@List.map_cons
def ab:=@if_pos
def ax:=@PySem.Heap.lt_size
def aJ:=@List.getElem?_map
def aM:=@Bool.and_eq_true
def bc:=@List.length_append
def ae:=@if_neg
def bf:=@List.size_toArray
def bZ:=@List.getElem?_append_left
def cj:=@Array.getD_eq_getD_getElem?
def a_:=@List.length_cons
def aX:=@decide_eq_false
def aR:=@List.mem_cons
def bz:=@Array.length_toList
def bM:=@List.mem_of_getElem?
def bA:=@Nat.lt_of_lt_of_le
def aS:=@Nat.ne_of_lt
def bw:=@List.all_eq_true
def bN:=@of_decide_eq_true
def bt:=@decide_eq_true
def bD:=@beq_self_eq_true
def bX:=@Bool.false_eq_true
def ck:=@List.getElem?_set_ne
def bF:=@List.mem_filter
def bg:=@List.mem_map
def bj:=@List.map_map
def dt:=@List.getElem?_eq_some_iff
def du:=@Array.getElem?_eq_getElem
def bp:=@Nat.le_trans
def dJ:=@List.getElem?_append_right
def cv:=@List.mem_singleton
def cQ:=@Array.getElem?_toList
def dM:=@List.getElem?_set_self
def cH:=@decide_eq_true_eq
def cR:=@Bool.false_ne_true
def dv:=@List.mergeSort_perm
def bG:=@Nat.zero_le
def cS:=@List.lookup_cons
def bS:=@PySem.sizeLine_eq
def eM:=@List.mem_append_right
def cT:=@PySem.W.kia_one
def cU:=@List.append_nil
def cI:=@List.mem_range
def cn:=@Nat.ne_of_gt
def dy:=@PySem.wpAny_call_entry
def eO:=@List.map_congr_left
def dz:=@List.length_nil
def cJ:=@Nat.lt_irrefl
def d0:=@Int.toNat_natCast
def eP:=@PySem.Heap.SameBut.update
def dN:=@List.nodup_cons
def dO:=@List.find?_cons
def dP:=@List.map_append
def bB:=@if_false
def cV:=@PySem.wpAny_holding
def eQ:=@PySem.wpAny_newObj_type
def eR:=@PySem.wpAny_setState_of
def d_:=@List.mem_append
def ef:=@beq_false_of_ne
def h_:=@PySem.wpAny_callSpecial?_slot
def eS:=@List.not_mem_nil
def fO:=@PySem.wpAny_setField_rec
def gv:=@PySem.Around.under_plainId
def gw:=@PySem.mem_of_lookup
def ia:=@List.length_filter_le
def bT:=@congrArg
def en:=@List.nodup_nil
def jc:=@PySem.F.slot_list_append
def jd:=@List.pairwise_mergeSort
def fP:=@List.filter_cons
def gx:=@List.length_range
def gy:=@Nat.le_of_lt_succ
def eU:=@PySem.wpAny_seqItems
def lP:=@List.Nodup.length_le_of_subset
def fQ:=@PySem.codeAny_builtin
def eV:=@List.all_cons
def kG:=@PySem.F.type_list_append
def ib:=@List.append_assoc
def kH:=@List.length_eq_zero_iff
def je:=@List.replicate_succ
def lQ:=@List.idxOf_lt_length_of_mem
def lR:=@PySem.F.slot_dict_keyiterator_next
def kI:=@List.length_singleton
def kJ:=@List.contains_iff_mem
def eB:=@PySem.wpAny_field
def lS:=@List.drop_eq_getElem_cons
def dQ:=@PySem.wpAny_mono
def jf:=@PySem.tupleKind_room_in1
def jg:=@List.nodup_append
def kK:=@PySem.Heap.get?_update_self
def jD:=@List.Perm.eq_of_pairwise
def iw:=@List.filterMap_cons
def bY:=@Ne.symm
def fT:=@PySem.wpAny_ite_split
def gO:=@List.getElem_inj
def gP:=@PySem.PassesOwn.leaving
def eX:=@PySem.plainId_quiet
def eY:=@Nat.sub_self
def gQ:=@List.length_set
def iy:=@List.flatten_cons
def iz:=@bne_self_eq_false
def iA:=@List.getElem?_set
def iB:=@Nat.lt_succ_of_lt
def lT:=@PySem.wpAny_typeNameOfWhole_keyiter
def iC:=@List.pairwise_map
def jE:=@PySem.Heap.get?_update_other
def gS:=@PySem.wpAny_passesOwn
def gU:=@PySem.PassesOwn.never
def jF:=@List.getElem?_of_mem
def lU:=@List.perm_ext_iff_of_nodup
def lV:=@Array.getElem?_eq_none_iff
def fU:=@Nat.le_of_lt
def iD:=@Nat.le_add_right
def iE:=@List.getElem_mem
def iF:=@List.getElem_map
def lW:=@List.getElem?_eq_none_iff
def gV:=@List.any_cons
def gW:=@PySem.Heap.size_push
def lX:=@PySem.F.slot_tuple_iterator_next
def jG:=@List.mem_filterMap
def fV:=@PySem.codeAny_mono
def fW:=@PySem.F.called_set
def lY:=@List.getElem?_replicate
def lZ:=@PySem.F.plain_list_iadd
def dC:=@or_false
def gX:=@PySem.wpAny_attempt
def l4:=@PySem.wpAny_typeNameOf_keyiter
def jH:=@PySem.wpAny_pyIter_tuple
def l5:=@List.length_replicate
def jI:=@List.drop_length
def jJ:=@Nat.lt_succ_self
def iG:=@Bool.not_true
def l6:=@PySem.W.hideAll_none
def l7:=@List.mem_append_left
def jK:=@PySem.wpAny_truthy_bool
def jL:=@PySem.wpAny_pyIter_list
def iH:=@PySem.wpAny_fieldsOf
def gY:=@PySem.wpAny_typeOf
def l8:=@PySem.W.hideAll_get
def l9:=@PySem.builtinLookup_eq_fast
def p8:=@PyProof.Rows.callWith_type1
def jM:=@PySem.wpAny_forIn_list
def fX:=@PySem.wpAny_rule
def jN:=@PySem.wpAny_isInstance
def iI:=@PySem.wpAny_newList
def l_:=@PySem.wpAny_loadName_local
def g0:=@Nat.mod_lt
def p9:=@List.length_eraseIdx_of_lt
def ma:=@Array.forIn_toList
def p_:=@PySem.F.slot_dict_getitem
def md:=@PySem.W.kitx_dict
def iJ:=@Nat.le_succ
def qa:=@Option.isSome_iff_exists
def qd:=@PySem.F.args_tuple_add_2
def jO:=@Bool.true_and
def g6:=@PySem.wpAny_Name
def mf:=@PySem.Calls.spliced_cons
def mh:=@PySem.wpAny_Call_Name_kw
def qe:=@PySem.F.entry_tuple_add
def jP:=@PySem.wpAny_setField
def mi:=@PySem.Obj.data_mapFields
def iK:=@PyProof.Rows.listUpdate_at
def mj:=@PySem.W.kat_cons
def mm:=@List.mem_flatMap
def qf:=@PySem.F.slot_tuple_add
def jQ:=@Bool.true_or
def iL:=@beq_iff_eq
def qg:=@PySem.F.slot_tuple_getattribute
def jR:=@Nat.zero_add
def jS:=@Nat.succ_pos
def mn:=@List.nil_append
def mq:=@PySem.W.kia_tup
def qj:=@PySem.F.slot_list_getattribute
def mr:=@PySem.wpAny_eqBool_int
def qm:=@PySem.wpAny_pyNext_tuple_item
def qv:=@Array.mem_toList_iff
def mw:=@Bool.and_false
def my:=@PySem.W.kat_no
def fY:=@if_true
def iM:=@PySem.call_meets
def qw:=@List.length_zipWith
def qz:=@PySem.SetTable.insertAt_perm
def mz:=@PySem.wpAny_execs_nil
def mB:=@Bool.or_false
def mC:=@Bool.false_or
def mD:=@PySem.typeLookup_type
def mE:=@PySem.F.slot_zip_next
def qA:=@PySem.W.of_hideAll
def qB:=@PySem.wpAny_isOneOf_keyiter
def qC:=@Int.emod_lt_of_pos
def qE:=@PySem.Heap.get?_none_of_le
def qF:=@PySem.W.kitx_list
def qG:=@Option.isSome_map
def mF:=@PySem.isSubtype_stop
def qH:=@Array.toList_push
def mG:=@PySem.wpAny_newTuple
def qI:=@Nat.lt_succ_of_le
def qJ:=@List.ext_getElem?
def qK:=@PyProof.Rows.F.plain_set_update_loop
def qL:=@PySem.wpAny_loadName_cell
def qM:=@List.length_take
def qN:=@Nat.le_of_not_lt
def qO:=@List.nodup_range
def jT:=@PySem.wpAny_load
def qP:=@List.of_mem_zip
def qQ:=@List.forIn_cons
def mH:=@PyProof.Rows.get?_update_seq
def qR:=@Nat.max_eq_left
def qS:=@Int.emod_nonneg
def qT:=@Bool.or_eq_true
def mI:=@PyProof.Rows.entry_list_sort
def qU:=@List.range_succ
def qV:=@List.filter_nil
def vQ:=@PySem.F.plain_proto_collect
def qW:=@PySem.Calls.spliced_nil
def qX:=@Bool.not_false
def qY:=@PySem.wpAny_pyIter_slot
def vR:=@Array.perm_iff_toList_perm
def qZ:=@PySem.wpAny_dictEntries
def vS:=@Array.getElem?_eq_some_iff
namespace L2
open PySem PySem.Spec PyProof.Rows
abbrev Key:=Sum Int Str
def mJ:Key->Value->Bool
 |.inl k,v=>Value.isInt k v
 |.inr x,v=>Value.isStrOf x v
def Qe(w:World):Key->Int
 |.inl k=>hashInt k
 |.inr x=>hashStr w x
theorem cA:∀{k:Key} {v:Value},mJ k v=true->(∃i t,k=Sum.inl i/\v=Value.int i t)\/(∃x t,k=Sum.inr x/\v=Value.str x t)
 |.inl i,v,h=>by
  obtain⟨t,e⟩:=Value.isInt_shape (k:=i) (v:=v) h;exact .inl ⟨i,t,rfl,e⟩
 |.inr x,v,h=>by
  obtain⟨t,e⟩:=Value.isStrOf_shape (x:=x) (v:=v) h;exact .inr ⟨x,t,rfl,e⟩
theorem AE(i:Int)(t:Tok):mJ (.inl i) (.int i t)=true:=by simp[mJ,Value.isInt]
theorem AG(x:Str)(t:Tok):mJ (.inr x) (.str x t)=true:=by simp[mJ,Value.isStrOf]
theorem HP(a b:Int):decide ((Sum.inl a:Key)=Sum.inl b)=(a==b):=by
 by_cases e:a=b
 ·subst e;simp
 ·have h:¬(Sum.inl a:Key)=Sum.inl b:=fun q=>e (Sum.inl.inj q);rw[aX h];exact(beq_eq_false_iff_ne.mpr e).symm
theorem HQ(a b:Str):decide ((Sum.inr a:Key)=Sum.inr b)=decide (a=b):=by
 by_cases e:a=b
 ·subst e;simp
 ·have h:¬(Sum.inr a:Key)=Sum.inr b:=fun q=>e (Sum.inr.inj q);rw[aX h,aX e]
theorem HR(a:Int)(b:Str):decide ((Sum.inl a:Key)=Sum.inr b)=false:=aX (fun q=>nomatch q)
theorem HS(a:Str)(b:Int):decide ((Sum.inr a:Key)=Sum.inl b)=false:=aX (fun q=>nomatch q)
def az(prog:Program)(w:World):PySem.KeyKind prog w Key where
 is:=mJ
 hash:=Qe w
 inj:=fun v a b ha hb=>by
  rcases cA ha with⟨i,t,rfl,rfl⟩|⟨x,t,rfl,rfl⟩
  ·rcases cA hb with⟨j,u,rfl,e⟩|⟨y,u,rfl,e⟩
   ·injection e with e1 _;rw[e1]
   ·exact nomatch e
  ·rcases cA hb with⟨j,u,rfl,e⟩|⟨y,u,rfl,e⟩
   ·exact nomatch e
   ·injection e with e1 _;rw[e1]
 byValue:=fun k v h=>by
  rcases cA h with⟨i,t,rfl,rfl⟩|⟨x,t,rfl,rfl⟩<;>rfl
 pyHash:=fun hv h=>by
  rcases cA hv with⟨i,t,rfl,rfl⟩|⟨x,t,rfl,rfl⟩
  ·exact wpAny_pyHash_int h
  ·exact wpAny_pyHash_str h
 eqBool:=fun hu hv h=>by
  rcases cA hu with⟨i,t,rfl,rfl⟩|⟨x,t,rfl,rfl⟩
  ·rcases cA hv with⟨j,u,rfl,rfl⟩|⟨y,u,rfl,rfl⟩
   ·rw[HP]at h;exact mr h
   ·rw[HR]at h;exact SeqAt.EqAt.int_str i t y u _ _ _ _ h
  ·rcases cA hv with⟨j,u,rfl,rfl⟩|⟨y,u,rfl,rfl⟩
   ·rw[HS]at h;exact SeqAt.EqAt.str_int x t j u _ _ _ _ h
   ·rw[HQ]at h;exact wpAny_eqBool_str h
 «strs»:=fun k x t v h=>by
  rcases cA h with⟨i,u,rfl,e⟩|⟨y,u,rfl,e⟩
  ·exact nomatch e
  ·injection e with e1 _
   subst e1;cases v<;>rfl
theorem vU(prog:Program)(w:World)(i:Int)(t:Tok):(az prog w).is (.inl i) (.int i t)=true:=AE i t
theorem vV(prog:Program)(w:World)(x:Str)(t:Tok):(az prog w).is (.inr x) (.str x t)=true:=AG x t
end L2
namespace L2
open PySem PySem.Spec PyProof.Rows
inductive V where
 |cq|bl (b:Bool)|int (i:Int)|str (x:Str)|HU (b:Array UInt8)|GH (b:UInt64)|ref (a:Addr)|ty (n:String)
 deriving DecidableEq
def RelV:V->Value->Prop
 |.cq,u=>u=Value.none
 |.bl b,u=>u=Value.bool b
 |.int i,u=>∃t,u=Value.int i t
 |.str x,u=>∃t,u=Value.str x t
 |.HU b,u=>∃t,u=Value.bytes b t
 |.GH b,u=>∃t,u=Value.float b t
 |.ref a,u=>u=Value.ref a
 |.ty n,u=>u=Value.type n
abbrev Vals:List V->List Value->Prop:=Paired RelV
theorem Vals.length {xs:List V}{us:List Value}(r:Vals xs us):xs.length=us.length:=Paired.length r
theorem Vals.get:∀{xs:List V} {us:List Value} {i:Nat} {x:V},Vals xs us->xs[i]?=some x->∃u,us[i]?=some u/\RelV x u
 |_,_,_,_,.nil,e=>by simp at e
 |_,_,0,_,.cons r _,e=>by simp at e;subst e;exact⟨_,rfl,r⟩
 |_,_,i+1,x,.cons _ t,e=>by
  obtain⟨u,h1,h2⟩:=Vals.get (i:=i) (x:=x) t (by simpa using e);exact⟨u,by simpa using h1,h2⟩
theorem Vals.set {x:V}{u:Value}(r:RelV x u):∀{xs:List V} {us:List Value} (i:Nat),Vals xs us->Vals (xs.set i x) (us.set i u)
 |_,_,_,.nil=>.nil
 |_,_,0,.cons _ t=>.cons r t
 |_,_,i+1,.cons q t=>.cons q (Vals.set r i t)
theorem Vals.append:∀{xs ys:List V} {us ws:List Value},Vals xs us->Vals ys ws->Vals (xs++ys) (us++ws)
 |_,_,_,_,.nil,s=>s
 |_,_,_,_,.cons r t,s=>.cons r (Vals.append t s)
def nO:Option V->Option Value->Prop
 |some v,some u=>RelV v u
 |none,none=>True
 |_,_=>False
def KV{κ:Type}:List (κ×V)->List (κ×Value)->Prop:=Paired fun(p:κ×V) (q:κ×Value)=>p.1=q.1/\RelV p.2 q.2
def kV:Key->V
 |.inl i=>.int i
 |.inr x=>.str x
inductive HO where
 |lst (xs:List V)
 |tup (xs:List V)
 |dK (aw:List (Key×V))|dT (aw:List (List Key×V))
 |set (S:Int->Bool) (n:Nat)
 |ins (C dx:Addr) (fs:List (Str×V))
 |own (x:Addr)
 |xd (fs:List (Str×V))
 |met (f x:Addr)
 |OZ (lo hi:Int)
 |fZ (o:Obj) (u:HO)
 |vK (ps:Array Value)
 |ext (φ:Heap->Prop)
abbrev Hp:=Addr->Option HO
def upd(H:Hp)(a:Addr)(o:HO):Hp:=fun b=>if b=a then some o else H b
theorem aH{H:Hp}{a:Addr}{o:HO}:upd H a o a=some o:=by unfold upd;rw[ab rfl]
theorem ak{H:Hp}{a b:Addr}{o:HO}(h:b≠a):upd H a o b=H b:=by unfold upd;rw[ae h]
theorem Lw{H:Hp}{a b:Addr}{o u:HO}(h:H a=some o)(h':H b=some u)(d:o≠u):a≠b:=by
 intro e;subst e;rw[h]at h';exact d (Option.some.inj h')
theorem aN{H:Hp}{a b:Addr}{o:HO}(h:H a=some o)(h':H b=none):a≠b:=by
 intro e;subst e;rw[h]at h';cases h'
section
variable (P:Program)(w:World)
def jU(h:Heap)(a:Addr)(items:Array Value):Prop:=∃o,h.get? a=some o/\o.cls=.type "tuple"/\∃n,o.data=.seq items n/\o.dict=none
theorem jU.tup {h:Heap}{a:Addr}{items:Array Value}(x:jU h a items):IsTup h a items:=let⟨o,h1,h2,n,h3,_⟩:=x;⟨o,h1,h2,n,h3⟩
theorem jU.new (h:Heap)(items:Array Value):jU (h.push {cls:=.type "tuple",data:=.seq items}) h.objs.size items:=⟨_,aU _ rfl,rfl,_,rfl,rfl⟩
def bu(H:Hp)(h:Heap)(a:Addr):HO->Prop
 |.lst xs=>xs.length<=sizeLine/\∃(aY:List Value) (n:Nat),Vals xs aY/\h.get? a=some {cls:=.type "list",data:=.seq aY.toArray n}
 |.tup xs=>xs.length<=sizeLine/\∃aY:List Value,Vals xs aY/\jU h a aY.toArray
 |.dK aw=>aw.length<=sizeLine/\(a==sysModules)=false/\∃vs,KV aw vs/\h.DictOf (az P w) a vs
 |.dT aw=>aw.length<=sizeLine/\(a==sysModules)=false/\∃xs:List (List Key×Addr×Value),
   Paired (fun(p:List Key×V) (q:List Key×Addr×Value)=>p.1=q.1/\H q.2.1=some (.tup (p.1.map kV))/\RelV p.2 q.2.2) aw xs/\
   ∃o es ep,h.get? a=some o/\o.ExactDict/\o.data=.dict es ep/\es.toList=xs.map (entryOfKey (tupleKind (az P w)))/\(xs.map (·.1)).Nodup
 |.set S n=>h.SetOf (intKind P w) a S n
 |.ins C dx fs=>H dx=some (.own a)/\fs.length<=1000/\dx≠a/\h.get? a=some (PySem.W.instObj C dx)/\
   ∃mA,h.Ns1 dx mA/\(∀f,nO (fs.lookup f) (mA f))/\PySem.Within mA (fs.map (·.1))
 |.own _=>∃o,h.get? a=some o
 |.xd fs=>∃mA,h.Ns1 a mA/\∀f,nO (fs.lookup f) (mA f)
 |.OZ lo hi=>∃t u v,h.get? a=some {cls:=.type "range",data:=.fields #[.int lo t,.int hi u,.int 1 v]}
 |.fZ o u=>h.get? a=some o/\bu H h a u
 |.vK ps=>∃qs:Array Value,h.get? a=some {cls:=.none,data:=.fields qs}/\TriplesOk qs.toList/\∀pos v,codeAmong pos qs.toList=some v->∃c oc vs q t,v=.ref c/\ps=#[.str q 0]/\H c=some (.own a)/\h.get? c=some oc/\oc.data=.fields vs/\vs[1]?=some (.str q t)
 |.met f x=>h.get? a=some (PySem.W.methodObj (.ref f) (.ref x))
 |.ext φ=>φ h/\(∃o,h.get? a=some o)/\∀h1 h2:Heap,φ h1->(∀o,h1.get? a=some o->h2.get? a=some o)->φ h2
def la(H:Hp)(h:Heap):Prop:=∀a o,H a=some o->bu P w H h a o
end
section
variable {P:Program}{w:World}{H H':Hp}{h h':Heap}{a:Addr}{o:HO}
theorem bu.lt (x:bu P w H h a o):a<h.objs.size:=by
 cases o with
 |lst xs=>obtain⟨_,_,_,_,e⟩:=x;exact ax e
 |tup xs=>obtain⟨_,_,_,p⟩:=x;exact p.tup.lt
 |dK aw=>obtain⟨_,_,_,_,o,_,_,e,_⟩:=x;exact ax e
 |dT aw=>obtain⟨_,_,_,_,o,_,_,e,_⟩:=x;exact ax e
 |set S n=>obtain⟨o,_,_,_,e,_⟩:=x;exact ax e
 |ins C dx fs=>obtain⟨_,_,_,e,_⟩:=x;exact ax e
 |own y=>obtain⟨_,e⟩:=x;exact ax e
 |xd fs=>obtain⟨_,⟨_,_,_,e,_⟩,_⟩:=x;exact ax e
 |OZ lo hi=>obtain⟨_,_,_,e⟩:=x;exact ax e
 |fZ ob u=>obtain⟨e,_⟩:=x;exact ax e
 |vK ps=>obtain⟨qs,e,_⟩:=x;exact ax e
 |met f y=>exact ax (show h.get? a=some _ from x)
 |ext φ=>obtain⟨_,⟨_,e⟩,_⟩:=x;exact ax e
theorem Paired.HV {α β:Type}{F G:α->β->Prop}:∀{Lx:List α} {l₂:List β},Paired F Lx l₂->(∀a b,F a b->G a b)->Paired G Lx l₂
 |_,_,.nil,_=>.nil
 |_,_,.cons r t,f=>.cons (f _ _ r) (Paired.HV t f)
theorem bu.ly (x:bu P w H h a o)(k:∀b u,(b=a\/H b=some (.own a))->h.get? b=some u->h'.get? b=some u)
  (ho:∀b,H b=some (.own a)->H' b=some (.own a)) (ht:∀b xs,H b=some (.tup xs)->H' b=some (.tup xs)):bu P w H' h' a o:=by
 induction o with
 |lst xs=>obtain⟨z,aY,n,r,e⟩:=x;exact⟨z,aY,n,r,k _ _ (.inl rfl) e⟩
 |tup xs=>obtain⟨z,aY,r,ob,e,c⟩:=x;exact⟨z,aY,r,ob,k _ _ (.inl rfl) e,c⟩
 |dK aw=>obtain⟨z,y,vs,r,ob,es,ep,e,c⟩:=x;exact⟨z,y,vs,r,ob,es,ep,k _ _ (.inl rfl) e,c⟩
 |dT aw=>
  obtain⟨z,y,xs,r,ob,es,ep,e,c⟩:=x;exact⟨z,y,xs,Paired.HV r fun p q z=>⟨z.1,ht _ _ z.2.1,z.2.2⟩,ob,es,ep,k _ _ (.inl rfl) e,c⟩
 |set S n=>obtain⟨ob,es,ep,t,e,c⟩:=x;exact⟨ob,es,ep,t,k _ _ (.inl rfl) e,c⟩
 |ins C dx fs=>
  obtain⟨d,z,ne,e,mA,⟨od,es,ep,e2,c⟩,r⟩:=x;exact⟨ho _ d,z,ne,k _ _ (.inl rfl) e,mA,⟨od,es,ep,k _ _ (.inr d) e2,c⟩,r⟩
 |own y=>obtain⟨ob,e⟩:=x;exact⟨ob,k _ _ (.inl rfl) e⟩
 |xd fs=>obtain⟨mA,⟨od,es,ep,e,c⟩,r⟩:=x;exact⟨mA,⟨od,es,ep,k _ _ (.inl rfl) e,c⟩,r⟩
 |OZ lo hi=>obtain⟨t,u,v,e⟩:=x;exact⟨t,u,v,k _ _ (.inl rfl) e⟩
 |fZ ob u ih=>obtain⟨e,q⟩:=x;exact⟨k _ _ (.inl rfl) e,ih q⟩
 |vK ps=>
  obtain⟨qs,e,tr,r⟩:=x;exact⟨qs,k _ _ (.inl rfl) e,tr,fun pos v z=>by
   obtain⟨c,oc,vs,q,t,e1,e2,e3,e4,e5⟩:=r pos v z;exact⟨c,oc,vs,q,t,e1,e2,ho _ e3,k _ _ (.inr e3) e4,e5⟩⟩
 |met f y=>
  have e:h.get? a=some (PySem.W.methodObj (.ref f) (.ref y)):=x;show h'.get? a=some (PySem.W.methodObj (.ref f) (.ref y));exact k a _ (.inl rfl) e
 |ext φ=>obtain⟨p,⟨o,e⟩,st⟩:=x;exact⟨st _ _ p fun o q=>k _ _ (.inl rfl) q,⟨o,k _ _ (.inl rfl) e⟩,st⟩
theorem la.lt (x:la P w H h)(e:H a=some o):a<h.objs.size:=(x a o e).lt
theorem la.fresh (x:la P w H h)(e:h.objs.size<=a):H a=none:=by
 cases q:H a with
 |none=>rfl
 |some u=>exact absurd (bA (x.lt q) e) (cJ _)
theorem la.kept (x:la P w H h)(k:∀b u,h.get? b=some u->h'.get? b=some u):la P w H h':=fun a o e=>
 (x a o e).ly (fun b u _ q=>k b u q) (fun _ q=>q) fun _ _ q=>q
theorem la.laid (x:la P w H h)(k:∀b u,h.get? b=some u->h'.get? b=some u)(hp:h.objs.size<=a)(new:bu P w (upd H a o) h' a o):la P w (upd H a o) h':=fun b u e=>by
 have hn:=x.fresh hp;by_cases hb:b=a
 ·subst hb;rw[aH]at e;cases e;exact new
 ·rw[ak hb]at e;exact(x b u e).ly (fun c v _ q=>k c v q) (fun c q=>by rw[ak (aN q hn)];exact q) fun c xs q=>by rw[ak (aN q hn)];exact q
end
def Rd(H:Hp)(a:Addr)(u:HO):Prop:=H a=some u\/∃o,H a=some (.fZ o u)
theorem Rd.ok {P:Program}{w:World}{H:Hp}{h:Heap}{a:Addr}{u:HO}(r:Rd H a u)(x:la P w H h):bu P w H h a u:=by
 rcases r with r|⟨o,r⟩
 ·exact x a u r
 ·obtain⟨_,q⟩:=x a _ r;exact q
def Ly:Option HO->Prop
 |some (.lst _)=>True
 |some (.dK _)=>True
 |some (.dT _)=>True
 |some (.set _ _)=>True
 |some (.ins _ _ _)=>True
 |some (.ext _)=>True
 |_=>False
section
variable {P:Program}{w:World}{H:Hp}{h h':Heap}{x e:Addr}{o':HO}
theorem la.write (ok:la P w H h)(mu:Ly (H x))(he:e=x\/H e=some (.own x))(k:∀b u,b≠e->h.get? b=some u->h'.get? b=some u)(KQ:∃u,h'.get? e=some u)
  (new:bu P w (upd H x o') h' x o'):la P w (upd H x o') h':=fun b u q=>by
 have Lz:∀c y,H c=some (.own y)->c≠x:=fun c y r z=>by subst z;rw[r]at mu;exact mu
 have Qg:∀c xs,H c=some (.tup xs)->c≠x:=fun c xs r z=>by subst z;rw[r]at mu;exact mu
 by_cases hb:b=x
 ·subst hb;rw[aH]at q;cases q;exact new
 ·rw[ak hb]at q;by_cases HW:b=e
  ·have q':H b=some (.own x):=by
    rcases he with z|z
    ·exact absurd (HW.trans z) hb
    ·rw[HW];exact z
   rw[q]at q';cases q';obtain⟨v,hv⟩:=KQ;exact⟨v,by rw[HW];exact hv⟩
  ·refine(ok b u q).ly (fun c v hc r=>k c v ?_ r) (fun c r=>by rw[ak (Lz c b r)];exact r) fun c xs r=>by rw[ak (Qg c xs r)];exact r
   rcases hc with rfl|hc
   ·exact HW
   ·rintro rfl
    rcases he with z|z
    ·exact Lz c b hc z
    ·rw[hc]at z;cases z;exact hb rfl
end
structure Un(fs ex:List Addr)(H H':Hp)(h h':Heap):Prop where
 keep:∀b o,h.get? b=some o->H b=none->b∉fs->b∉ex->h'.get? b=some o
 slot:∀b o,h.get? b=some o->H b=none->b∈fs->b∉ex->∃sl,h'.get? b=some {o with slots:=sl}
 free:∀b o,h.get? b=some o->H b=none->b∉ex->H' b=none
 there:∀b o,h.get? b=some o->b∉ex->∃o',h'.get? b=some o'
 kX:∀b xs,H b=some (.tup xs)->H' b=some (.tup xs)
 jx:∀b o u,H b=some (.fZ o u)->H' b=some (.fZ o u)
 jV:∀b ps,H b=some (.vK ps)->∃more,H' b=some (.vK (ps++more))
section
variable {fs AH ex Xl:List Addr}{H H1 H2:Hp}{h h1 h2 h':Heap}{a x e:Addr}{o:HO}
theorem Un.any (u:Un fs ex H H1 h h1){b:Addr}{ob:Obj}(q:h.get? b=some ob)(n:H b=none)(hx:b∉ex):∃sl,h1.get? b=some {ob with slots:=sl}:=by
 by_cases hb:b∈fs
 ·exact u.slot b ob q n hb hx
 ·exact⟨ob.slots,u.keep b ob q n hb hx⟩
theorem Un.trans (a:Un fs ex H H1 h h1)(b:Un fs ex H1 H2 h1 h2):Un fs ex H H2 h h2 where
 keep:=fun c ob q n hc hx=>b.keep c ob (a.keep c ob q n hc hx) (a.free c ob q n hx) hc hx
 slot:=fun c ob q n hc hx=>by
  obtain⟨sl,e1⟩:=a.slot c ob q n hc hx;obtain⟨Qh,e2⟩:=b.slot c _ e1 (a.free c ob q n hx) hc hx;exact⟨Qh,e2⟩
 free:=fun c ob q n hx=>by
  obtain⟨o',e1⟩:=a.there c ob q hx;exact b.free c o' e1 (a.free c ob q n hx) hx
 there:=fun c ob q hx=>by
  obtain⟨o',e1⟩:=a.there c ob q hx;exact b.there c o' e1 hx
 kX:=fun c xs q=>b.kX c xs (a.kX c xs q)
 jx:=fun c ob xs q=>b.jx c ob xs (a.jx c ob xs q)
 jV:=fun c ps q=>by
  obtain⟨m1,e1⟩:=a.jV c ps q;obtain⟨m2,e2⟩:=b.jV c _ e1;exact⟨m1++m2,by rw[e2,Array.append_assoc]⟩
theorem Un.kept (k:∀b u,h.get? b=some u->h'.get? b=some u):Un fs ex H H h h':=
 ⟨fun b ob q _ _ _=>k b ob q,fun b ob q _ _ _=>⟨ob.slots,k b ob q⟩,fun _ _ _ n _=>n,fun b ob q _=>⟨ob,k b ob q⟩,fun _ _ q=>q,fun _ _ _ q=>q,fun _ ps q=>⟨#[],by rw[q];simp⟩⟩
theorem Un.refl:Un fs ex H H h h:=Un.kept fun _ _ q=>q
theorem Un.laid (k:∀b u,h.get? b=some u->h'.get? b=some u)(hp:h.objs.size<=a)(hn:H a=none):Un fs ex H (upd H a o) h h' where
 keep:=fun b u q _ _ _=>k b u q
 slot:=fun b u q _ _ _=>⟨u.slots,k b u q⟩
 free:=fun b u q n _=>by rw[ak (aS (bA (ax q) hp))];exact n
 there:=fun b u q _=>⟨u,k b u q⟩
 kX:=fun b xs q=>by rw[ak (aN q hn)];exact q
 jx:=fun b u xs q=>by rw[ak (aN q hn)];exact q
 jV:=fun b ps q=>⟨#[],by rw[ak (aN q hn),q];simp⟩
theorem Un.write (mu:Ly (H x))(he:e=x\/H e=some (.own x))(k:∀b u,b≠e->h.get? b=some u->h'.get? b=some u)(KQ:∃u,h'.get? e=some u):Un fs ex H (upd H x o) h h':=by
 have hx:∀b,H b=none->b≠x:=fun b n z=>by subst z;rw[n]at mu;exact mu
 have hb:∀b,H b=none->b≠e:=fun b n z=>by
  subst z;rcases he with r|r
  ·exact hx b n r
  ·rw[n]at r;cases r
 have hm:∀b u,H b=some u->¬Ly (some u)->b≠x:=fun b u q nm z=>by subst z;rw[q]at mu;exact nm mu
 refine⟨fun b u q n _ _=>k b u (hb b n) q,fun b u q n _ _=>⟨u.slots,k b u (hb b n) q⟩,fun b u q n _=>by rw[ak (hx b n)];exact n,fun b u q _=>?_,
  fun b xs q=>by rw[ak (hm b _ q fun z=>z)];exact q,fun b u xs q=>by rw[ak (hm b _ q fun z=>z)];exact q,fun b ps q=>⟨#[],by rw[ak (hm b _ q fun z=>z),q];simp⟩⟩
 by_cases HW:b=e
 ·subst HW;exact KQ
 ·exact⟨u,k b u HW q⟩
end
def O0(h:Heap)(H:Hp):List Addr:=(List.range h.objs.size).filter fun a=>(H a).isSome
def uG(h:Heap)(H:Hp):Heap:=PySem.W.hideAll h (O0 h H)
theorem AI(h:Heap)(H:Hp):(uG h H).objs.size=h.objs.size:=PySem.W.hideAll_size _ _
theorem Ca{h:Heap}{H:Hp}{b:Addr}{o:Obj}(e:h.get? b=some o)(n:H b=none):(uG h H).get? b=some o:=
 l8 _ e fun hm=>by
  have q:(H b).isSome=true:=(bF.mp hm).2;rw[n]at q;simp at q
theorem EE{h:Heap}{H:Hp}{b:Addr}{o:Obj}(e:(uG h H).get? b=some o):h.get? b=some o/\H b=none:=by
 have e':h.get? b=some o:=qA (O0 h H) e;refine⟨e',?_⟩;cases q:H b with
 |none=>rfl
 |some x=>
  have hm:b∈O0 h H:=bF.mpr ⟨cI.mpr (ax e'),by simp[q]⟩;have z:(uG h H).get? b=none:=l6 (O0 h H) hm;rw[z]at e;cases e
end L2
namespace L2
open PySem PySem.Spec PyProof.Rows
structure Mod(K:PySem.W.Frag)(mg:Str->Option Value)(base:Heap):Prop where
 LA:K.In base
 glob:base.Ns mainGlobals mg
 blt:∃mb,base.Ns builtinsNs mb/\∀x:Str,x≠"__name__"->mb x=bootBuiltins x
 nolimit:base.NoLimit
 bm:∃bm ob,mg "__builtins__"=some (.ref bm)/\bm≠builtinsNs/\bm≠mainGlobals/\base.get? bm=some ob/\ob.cls=.type "module"/\ob.dict=some builtinsNs/\ob.data=.plain
structure Cx where
 prog:Program
 w:World
 K:PySem.W.Frag
 mg:Str->Option Value
 base:Heap
 A:Around
 N:List Str
 eZ:Shared
 vW:Hp
 env:Env
 outer:List Env
 stack:List Env
 ex:List Addr
 fn:Str->Bool
 calm:Bool
 pn:List (Addr×Obj)
 xe:Value->Shared->Prop
def mK(l:List Env):List Addr:=l.filterMap (·.frame)
abbrev Cx.fs (X:Cx):List Addr:=mK X.outer
def HX(sc:Scope)(x:Str):Prop:=sc.names.lookup x=some .local\/sc.names.lookup x=some .cell\/sc.names.lookup x=some .free
def Loc(sc:Scope)(x:Str):Prop:=sc.names.lookup x=some .local\/sc.names.lookup x=some .cell
def Look(env:Env)(h:Heap)(m:Str->Option Value)(x:Str)(u:Value):Prop:=
 (env.kindOf x=some .local/\m x=some u)\/((env.kindOf x=some .cell\/env.kindOf x=some .free)/\∃c,env.cells.lookup x=some c/\h.IsCell c (some u))
structure Cx.Ok (X:Cx):Prop where
 mod:Mod X.K X.mg X.base
 kind:X.env.scope.kind=.function
 glob:X.env.globals=mainGlobals
 blt:X.env.builtins=builtinsNs
 above:X.eZ.heap.objs.size<=X.env.locals
 inj:∀x y c,X.env.cells.lookup x=some c->X.env.cells.lookup y=some c->x=y
 has:∀x,(X.env.kindOf x=some .cell\/X.env.kindOf x=some .free)->∃c,X.env.cells.lookup x=some c
 LB:∀x c,X.fn x=true->X.env.cells.lookup x=some c->X.eZ.heap.objs.size<=c
 hd:X.calm=true->X.A.handled=none
 frames:X.A.frames=some X.stack
 KR:X.stack=X.outer\/(X.stack=X.env::X.outer/\X.env.frame=some X.env.locals)
 Qi:∀b∈X.ex,b≠X.env.locals/\∀x c,X.env.cells.lookup x=some c->c≠b
 bs:∀b o,X.base.get? b=some o->X.eZ.heap.get? b=some o/\X.vW b=none
 GI:X.base.objs.size<=X.eZ.heap.objs.size
 AJ:∀b o,X.base.get? b=some o->b∉X.ex
 Cb:∀b∈X.ex,b∉X.fs
 q_:X.eZ.heap.FunFrames X.base X.outer
 KU:∀b∈X.fs,X.vW b=none
structure Inv(X:Cx)(pins:List (Addr×Obj))(σ:List (Option V))(H:Hp)(s:Shared):Prop where
 ok:X.Ok
 os:s.os=X.eZ.os
 bare:AllBare s.gens
 base:Un X.fs X.ex X.vW H X.eZ.heap s.heap
 loc:∃m,s.heap.Ns X.env.locals m/\∀(i:Nat) (x:Str) (v:V),X.N[i]?=some x->σ[i]?=some (some v)->HX X.env.scope x->∃u,RelV v u/\Look X.env s.heap m x u
 cell:∀x c,X.env.cells.lookup x=some c->∃v,s.heap.IsCell c v
 free:H X.env.locals=none
 gr:∀x c,X.env.cells.lookup x=some c->H c=none
 pin:∀p∈X.pn++pins,s.heap.get? p.1=some p.2/\H p.1=none/\p.1≠X.env.locals/\p.1∉X.fs/\∀v,p.2.data≠ .cell v
 bQ:la X.prog X.w H s.heap
 len:σ.length=X.N.length
section
variable {X:Cx}{pins:List (Addr×Obj)}{σ:List (Option V)}{H H':Hp}{s:Shared}{h':Heap}
theorem Cx.Ok.Qj (ok:X.Ok){b:Addr}{o:Obj}(e:X.base.get? b=some o):b∉X.fs:=fun hb=>by
 have:=(ok.q_.mem hb).1;rw[e]at this;cases this
theorem Inv.bs (I:Inv X pins σ H s):∀b o,X.base.get? b=some o->s.heap.get? b=some o/\H b=none:=fun b o e=>
 ⟨I.base.keep b o (I.ok.bs b o e).1 (I.ok.bs b o e).2 (I.ok.Qj e) (I.ok.AJ b o e),I.base.free b o (I.ok.bs b o e).1 (I.ok.bs b o e).2 (I.ok.AJ b o e)⟩
theorem Inv.bk (I:Inv X pins σ H s):∀b o,X.base.get? b=some o->s.heap.get? b=some o:=fun b o e=>(I.bs b o e).1
theorem Inv.mod (I:Inv X pins σ H s):Mod X.K X.mg X.base:=I.ok.mod
theorem Inv.o6 (I:Inv X pins σ H s):X.K.In s.heap:=I.ok.mod.LA.keeps I.bk
theorem Inv.nolimit (I:Inv X pins σ H s):s.heap.NoLimit:=I.ok.mod.nolimit.keeps I.bk
theorem Inv.fr (I:Inv X pins σ H s):∃m,Fr X.base X.env.locals s.heap m:=
 let⟨m,hn,_⟩:=I.loc
 ⟨m,hn,I.bk,bp I.ok.GI I.ok.above⟩
theorem Inv.lt (I:Inv X pins σ H s):X.env.locals<s.heap.objs.size:=let⟨_,hn,_⟩:=I.loc;hn.lt
theorem Inv.sz (I:Inv X pins σ H s):X.eZ.heap.objs.size<=s.heap.objs.size:=bp I.ok.above (fU I.lt)
theorem Inv.Qk (I:Inv X pins σ H s){a:Addr}(h:s.heap.objs.size<=a):a∉X.fs:=fun hb=>by
 obtain⟨_,o,ho,_⟩:=I.ok.q_.mem hb;exact absurd (bA (ax ho) (bp I.sz h)) (cJ _)
theorem Inv.Cc (I:Inv X pins σ H s):∀x c,X.env.cells.lookup x=some c->c≠X.env.locals:=fun x c e z=>by
 obtain⟨v,o,ho,hd⟩:=I.cell x c e;obtain⟨m,⟨o',es,ep,AK,Cd,_⟩,_⟩:=I.loc;rw[z,AK]at ho;cases ho;rw[Cd]at hd;cases hd
theorem Inv.q_ (I:Inv X pins σ H s):s.heap.FunFrames X.base X.outer:=by
 have all:∀(l:List Env),(∀b∈mK l,b∈X.fs)->X.eZ.heap.FunFrames X.base l->s.heap.FunFrames X.base l:=by
  intro l
  induction l with
  |nil=>intro _ _;trivial
  |cons env r ih=>
   intro hs hl;obtain⟨hk,⟨L,o,hf,hn,ho,hd⟩,hr⟩:=hl;have hL:L∈X.fs:=hs L (by unfold mK;rw[iw,hf];exact aW);obtain⟨sl,e⟩:=I.base.slot L o ho (I.ok.KU L hL) hL fun z=>I.ok.Cb L z hL;exact⟨hk,⟨L,_,hf,hn,e,hd⟩,ih (fun b hb=>hs b (by unfold mK;rw[iw,hf];exact aV _ hb)) hr⟩
 exact all X.outer (fun _ hb=>hb) I.ok.q_
theorem Inv.stack (I:Inv X pins σ H s):s.heap.FunFrames X.base X.stack:=by
 rcases I.ok.KR with e|⟨e,hf⟩
 ·rw[e];exact I.q_
 ·rw[e];obtain⟨m,hn,_⟩:=I.loc;refine .cons (by rw[I.ok.kind];decide) hf hn ?_ I.q_
  exact qE (bp I.ok.GI I.ok.above)
theorem Inv.xR (I:Inv X pins σ H s):∀b∈mK X.stack,b∈X.env.locals::X.fs:=fun b hb=>by
 rcases I.ok.KR with e|⟨e,hf⟩
 ·rw[e]at hb;exact aV _ hb
 ·rw[e]at hb;unfold mK at hb;rw[iw,hf]at hb;exact hb
theorem Inv.uH (I:Inv X pins σ H s):∀b∈mK X.stack,H b=none:=fun b hb=>by
 rcases aR.mp (I.xR b hb)with e|hb
 ·rw[e];exact I.free
 ·obtain⟨_,o,ho,_⟩:=I.ok.q_.mem hb;exact I.base.free b o ho (I.ok.KU b hb) fun z=>I.ok.Cb b z hb
theorem Inv.step {g':Array GenState}{t':Nat}{d':Drawn}{ch:List Addr}(I:Inv X pins σ H s)
  (sZ:∀b∈ch,(b∈X.ex\/X.eZ.heap.objs.size<=b)/\b≠X.env.locals/\(∀x c,X.env.cells.lookup x=some c->c≠b)/\∀p∈X.pn++pins,p.1≠b)
  (keep:∀b o,b≠X.env.locals->b∉X.fs->b∉ch->s.heap.get? b=some o->H b=none->h'.get? b=some o)
  (slot:∀b o,b≠X.env.locals->b∈X.fs->b∉ch->s.heap.get? b=some o->H b=none->∃sl,h'.get? b=some {o with slots:=sl}) (free:∀b o,b∉ch->s.heap.get? b=some o->H b=none->H' b=none)
  (there:∀b o,b∉ch->s.heap.get? b=some o->∃o',h'.get? b=some o')
  (kX:∀b xs,H b=some (.tup xs)->H' b=some (.tup xs)) (jx:∀b o u,H b=some (.fZ o u)->H' b=some (.fZ o u)) (jV:∀b ps,H b=some (.vK ps)->∃more,H' b=some (.vK (ps++more)))
  (ns:∀m,s.heap.Ns X.env.locals m->h'.Ns X.env.locals m) (bQ:la X.prog X.w H' h') (hg:AllBare g'):
  Inv X pins σ H' {s with heap:=h',gens:=g',drawn:=d',toks:=t'}:=by
 have Tj:∀b o,X.eZ.heap.get? b=some o->b≠X.env.locals:=fun b o e=>aS (bA (ax e) I.ok.above);have yX:∀b o,X.eZ.heap.get? b=some o->b∉X.ex->b∉ch:=fun b o e hx hb=>by
  rcases(sZ b hb).1 with z|z
  ·exact hx z
  ·exact absurd (bA (ax e) z) (cJ _)
 have cellK:∀x c,X.env.cells.lookup x=some c->∀v,s.heap.IsCell c v->h'.IsCell c v:=fun x c e v ⟨o,ho,hd⟩=>by
  have Ce:c∉ch:=fun z=>(sZ c z).2.2.1 x c e rfl;by_cases hc:c∈X.fs
  ·obtain⟨sl,q⟩:=slot c o (I.Cc x c e) hc Ce ho (I.gr x c e);exact⟨_,q,hd⟩
  ·exact⟨o,keep c o (I.Cc x c e) hc Ce ho (I.gr x c e),hd⟩
 refine⟨I.ok,I.os,hg,⟨fun b o e n hb hx=>?_,fun b o e n hb hx=>?_,fun b o e n hx=>?_,fun b o e hx=>?_,fun b xs e=>kX b xs (I.base.kX b xs e),fun b o xs e=>jx b o xs (I.base.jx b o xs e),fun b ps e=>?_⟩,?_,fun x c e=>?_,?_,fun x c e=>?_,fun p hp=>?_,bQ,I.len⟩
 ·exact keep b o (Tj b o e) hb (yX b o e hx) (I.base.keep b o e n hb hx) (I.base.free b o e n hx)
 ·obtain⟨sl,e1⟩:=I.base.slot b o e n hb hx;obtain⟨Qh,e2⟩:=slot b _ (Tj b o e) hb (yX b o e hx) e1 (I.base.free b o e n hx);exact⟨Qh,e2⟩
 ·obtain⟨o',e1⟩:=I.base.there b o e hx;exact free b o' (yX b o e hx) e1 (I.base.free b o e n hx)
 ·obtain⟨o',e1⟩:=I.base.there b o e hx;exact there b o' (yX b o e hx) e1
 ·obtain⟨m1,e1⟩:=I.base.jV b ps e;obtain⟨m2,e2⟩:=jV b _ e1;exact⟨m1++m2,by rw[e2,Array.append_assoc]⟩
 ·obtain⟨m,hn,hl⟩:=I.loc;refine⟨m,ns m hn,fun i x v e1 e2 e3=>?_⟩;obtain⟨u,r,l⟩:=hl i x v e1 e2 e3;refine⟨u,r,?_⟩;rcases l with l|⟨k,c,e,z⟩
  ·exact .inl l
  ·exact .inr ⟨k,c,e,cellK x c e _ z⟩
 ·obtain⟨v,z⟩:=I.cell x c e;exact⟨v,cellK x c e v z⟩
 ·obtain⟨m,⟨o,_,_,ho,_⟩,_⟩:=I.loc;exact free _ o (fun z=>(sZ _ z).2.1 rfl) ho I.free
 ·obtain⟨v,o,ho,hd⟩:=I.cell x c e;exact free c o (fun z=>(sZ c z).2.2.1 x c e rfl) ho (I.gr x c e)
 ·obtain⟨e,n,ne,nf,d⟩:=I.pin p hp;have Ce:p.1∉ch:=fun z=>(sZ p.1 z).2.2.2 p hp rfl;exact⟨keep p.1 p.2 ne nf Ce e n,free p.1 p.2 Ce e n,ne,nf,d⟩
theorem Inv.un {t':Nat}(I:Inv X pins σ H s)(u:Un X.fs [] H H' s.heap h')(bQ:la X.prog X.w H' h'):Inv X pins σ H' {s with heap:=h',toks:=t'}:=by
 obtain⟨m,⟨o,es,ep,ho,r⟩,_⟩:=id I.loc;obtain⟨sl,hL⟩:=u.any ho I.free (by simp);exact I.step (g':=s.gens) (d':=s.drawn) (ch:=[]) (fun _ z=>nomatch z) (fun b o _ hb _ e n=>u.keep b o e n hb (by simp)) (fun b o _ hb _ e n=>u.slot b o e n hb (by simp)) (fun b o _ e n=>u.free b o e n (by simp)) (fun b o _ e=>u.there b o e (by simp)) u.kX u.jx u.jV (fun m' hm=>by
  obtain⟨o',HY,yY,AK,r'⟩:=hm;rw[ho]at AK;cases AK;exact⟨_,HY,yY,hL,r'⟩) bQ I.bare
theorem Inv.call {g':Array GenState}{t':Nat}{d':Drawn}{ch:List Addr}(I:Inv X pins σ H s)(u:Un (mK X.stack) ch H H' s.heap h')(bQ:la X.prog X.w H' h')(hg:AllBare g')
  (sZ:∀b∈ch,(b∈X.ex\/X.eZ.heap.objs.size<=b)/\b≠X.env.locals/\(∀x c,X.env.cells.lookup x=some c->c≠b)/\∀p∈X.pn++pins,p.1≠b):
  Inv X pins σ H' {s with heap:=h',gens:=g',drawn:=d',toks:=t'}:=by
 obtain⟨m,⟨o,es,ep,ho,r⟩,_⟩:=id I.loc;obtain⟨sl,hL⟩:=u.any ho I.free fun z=>(sZ _ z).2.1 rfl;exact I.step (ch:=ch) sZ (fun b o hL hb hc e n=>u.keep b o e n (fun z=>(aR.mp (I.xR b z)).elim hL hb) hc) (fun b o _ _ hc e n=>u.any e n hc) (fun b o hc e n=>u.free b o e n hc) (fun b o hc e=>u.there b o e hc) u.kX u.jx u.jV (fun m' hm=>by
  obtain⟨o',HY,yY,AK,r'⟩:=hm;rw[ho]at AK;cases AK;exact⟨_,HY,yY,hL,r'⟩) bQ hg
theorem Inv.turned {t':Nat}{it:Addr}(I:Inv X pins σ H s)(k:∀b o,b≠it->s.heap.get? b=some o->h'.get? b=some o)(hn:H it=none)(hL:it≠X.env.locals)
  (h1:it∈X.ex\/X.eZ.heap.objs.size<=it) (h2:∀x c,X.env.cells.lookup x=some c->c≠it) (h3:∀p∈X.pn++pins,p.1≠it):Inv X pins σ H {s with heap:=h',toks:=t'}:=by
 have Tn:∀b u,H b=some u->b≠it:=fun b u e z=>by rw[z,hn]at e;cases e
 refine I.step (g':=s.gens) (d':=s.drawn) (ch:=[it]) (fun b hb=>?_) (fun b o _ _ hc e _=>k b o (fun z=>hc (by simp[z])) e) (fun b o _ _ hc e _=>⟨o.slots,k b o (fun z=>hc (by simp[z])) e⟩) (fun _ _ _ _ n=>n)
  (fun b o hc e=>⟨o,k b o (fun z=>hc (by simp[z])) e⟩) (fun _ _ e=>e) (fun _ _ _ e=>e) (fun b ps e=>⟨#[],by rw[e];simp⟩) (fun m hm=>?_) (fun b u e=>?_) I.bare
 ·have e:b=it:=by simpa using hb
  subst e;exact⟨h1,hL,h2,h3⟩
 ·obtain⟨o,es,ep,ho,r⟩:=hm;exact⟨o,es,ep,k _ o (bY hL) ho,r⟩
 ·refine(I.bQ b u e).ly (fun c v hc q=>k c v ?_ q) (fun _ q=>q) fun _ _ q=>q;rcases hc with z|z
  ·rw[z];exact Tn b u e
  ·exact Tn c _ z
theorem Inv.tok (I:Inv X pins σ H s)(t:Nat):Inv X pins σ H {s with toks:=t}:=I.un (h':=s.heap) (t':=t) Un.refl I.bQ
theorem Inv.kept {t':Nat}(I:Inv X pins σ H s)(k:∀b u,s.heap.get? b=some u->h'.get? b=some u):Inv X pins σ H {s with heap:=h',toks:=t'}:=I.un (Un.kept k) (I.bQ.kept k)
theorem Inv.laid {a:Addr}{o:HO}{t':Nat}(I:Inv X pins σ H s)(k:∀b u,s.heap.get? b=some u->h'.get? b=some u)(hp:s.heap.objs.size<=a)(new:bu X.prog X.w (upd H a o) h' a o):
  Inv X pins σ (upd H a o) {s with heap:=h',toks:=t'}:=I.un (Un.laid k hp (I.bQ.fresh hp)) (I.bQ.laid k hp new)
theorem Inv.write {x e:Addr}{o:HO}{t':Nat}(I:Inv X pins σ H s)(mu:Ly (H x))(he:e=x\/H e=some (.own x))(k:∀b u,b≠e->s.heap.get? b=some u->h'.get? b=some u)(KQ:∃u,h'.get? e=some u)
  (new:bu X.prog X.w (upd H x o) h' x o):Inv X pins σ (upd H x o) {s with heap:=h',toks:=t'}:=I.un (Un.write mu he k KQ) (I.bQ.write mu he k KQ new)
theorem Inv.yZ {GJ:List (Addr×Obj)}(I:Inv X pins σ H s)(h:∀p∈GJ,s.heap.get? p.1=some p.2/\H p.1=none/\p.1≠X.env.locals/\p.1∉X.fs/\∀v,p.2.data≠ .cell v):Inv X GJ σ H s:=
 ⟨I.ok,I.os,I.bare,I.base,I.loc,I.cell,I.free,I.gr,fun p hp=>(d_.mp hp).elim (fun z=>I.pin p (l7 _ z)) (h p),I.bQ,I.len⟩
theorem vX{N:List Str}(hN:N.Nodup){i j:Nat}{x:Str}(a:N[i]?=some x)(b:N[j]?=some x):i=j:=by
 obtain⟨h1,e1⟩:=dt.mp a;obtain⟨h2,e2⟩:=dt.mp b;exact(gO hN).mp (e1.trans e2.symm)
theorem s_{M:Model}{A:Around}{E:Value->Shared->Prop}{i:Nat}{x:Str}{v:V}{u:Value}{Q:Unit->Shared->Prop}(I:Inv X pins σ H s)(hN:X.N.Nodup)(hi:X.N[i]?=some x)(hx:Loc X.env.scope x)(r:RelV v u)
  (h:∀s',Inv X pins (σ.set i (some v)) H s'->(∃a,Heap.SameBut a s.heap s'.heap/\(a=X.env.locals\/X.env.cells.lookup x=some a))->Q () s') (hf:X.fn x=true\/X.env.scope.names.lookup x=some .local:=by first|exact .inl rfl|exact .inr rfl|assumption):wpAny M A (storeName X.env x u) Q E s:=by
 obtain⟨m,hn,hl⟩:=id I.loc;have EF:(X.env.scope.kind== .class||(X.env.scope.kind== .module&&X.env.locals !=X.env.globals))=false:=by rw[I.ok.kind];rfl
 have LD:i<σ.length:=by rw[I.len];exact(dt.mp hi).1
 have Cc:=I.Cc;have tracked:∀{a:Addr} {h':Heap},(∃o,s.heap.get? a=some o/\H a=none)->Heap.SameBut a s.heap h'->la X.prog X.w H h':=fun{a h'} ha hs b ob e=>by
  obtain⟨_,_,y0⟩:=ha;refine(I.bQ b ob e).ly (fun c w' hc q=>(hs.2 c ?_).trans q) (fun _ q=>q) fun _ _ q=>q
  rintro rfl
  rcases hc with rfl|hc
  ·rw[y0]at e;cases e
  ·rw[y0]at hc;cases hc
 rcases hx with hk|hk
 ·refine wpAny_storeName_local hk hn (fun h' KW hs=>?_) EF;obtain⟨oL,_,_,BZ,_⟩:=id hn;refine h _ ⟨I.ok,I.os,I.bare,⟨fun b o e n hb hx=>?_,fun b o e n hb hx=>?_,I.base.free,fun b o e hx=>?_,I.base.kX,I.base.jx,I.base.jV⟩,⟨_,KW,fun j y v' e1 e2 e3=>?_⟩,fun y c e=>?_,I.free,I.gr,fun p hp=>?_,tracked ⟨oL,BZ,I.free⟩ hs,by simpa using I.len⟩ ⟨_,hs,.inl rfl⟩
  ·exact(hs.2 b (aS (bA (ax e) I.ok.above))).trans (I.base.keep b o e n hb hx)
  ·obtain⟨sl,e1⟩:=I.base.slot b o e n hb hx;exact⟨sl,(hs.2 b (aS (bA (ax e) I.ok.above))).trans e1⟩
  ·obtain⟨o',e1⟩:=I.base.there b o e hx;exact⟨o',(hs.2 b (aS (bA (ax e) I.ok.above))).trans e1⟩
  ·by_cases hj:j=i
   ·subst hj;rw[hi]at e1;cases e1;rw[dM LD]at e2;cases e2;exact⟨u,r,.inl ⟨hk,by simp⟩⟩
   ·rw[ck (bY hj)]at e2;obtain⟨u',r',q⟩:=hl j y v' e1 e2 e3;refine⟨u',r',?_⟩;rcases q with⟨k,e⟩|⟨k,c,e,z⟩
    ·refine .inl ⟨k,?_⟩;have:y≠x:=fun e=>hj (vX hN e1 (e▸hi));simp[this,e]
    ·exact .inr ⟨k,c,e,z.sameBut hs (Cc y c e)⟩
  ·obtain⟨w',z⟩:=I.cell y c e;exact⟨w',z.sameBut hs (Cc y c e)⟩
  ·obtain⟨e,n,ne,nf,d⟩:=I.pin p hp;exact⟨(hs.2 p.1 ne).trans e,n,ne,nf,d⟩
 ·have KY:X.fn x=true:=by
   rcases hf with z|z
   ·exact z
   ·rw[z]at hk;cases hk
  obtain⟨c,hc⟩:=I.ok.has x (.inl hk);obtain⟨w',z⟩:=I.cell x c hc;refine wpAny_storeName_cell I.ok.kind hk hc z (fun h' LF hs=>?_);obtain⟨oc,KZ,Ql⟩:=id z;refine h {s with heap:=h'} ⟨I.ok,I.os,I.bare,⟨fun b o e n hb hx=>?_,fun b o e n hb hx=>?_,I.base.free,fun b o e hx=>?_,I.base.kX,I.base.jx,I.base.jV⟩,⟨m,hn.sameBut hs (bY (Cc x c hc)),fun j y v' e1 e2 e3=>?_⟩,fun y c' e=>?_,I.free,I.gr,fun p hp=>?_,tracked ⟨oc,KZ,I.gr x c hc⟩ hs,by simpa using I.len⟩ ⟨c,hs,.inr hc⟩
  ·exact(hs.2 b (aS (bA (ax e) (I.ok.LB x c KY hc)))).trans (I.base.keep b o e n hb hx)
  ·obtain⟨sl,e1⟩:=I.base.slot b o e n hb hx;exact⟨sl,(hs.2 b (aS (bA (ax e) (I.ok.LB x c KY hc)))).trans e1⟩
  ·obtain⟨o',e1⟩:=I.base.there b o e hx;exact⟨o',(hs.2 b (aS (bA (ax e) (I.ok.LB x c KY hc)))).trans e1⟩
  ·by_cases hj:j=i
   ·subst hj;rw[hi]at e1;cases e1;rw[dM LD]at e2;cases e2;exact⟨u,r,.inr ⟨.inl hk,c,hc,LF⟩⟩
   ·rw[ck (bY hj)]at e2;obtain⟨u',r',q⟩:=hl j y v' e1 e2 e3;refine⟨u',r',?_⟩;rcases q with q|⟨k,c',e,z'⟩
    ·exact .inl q
    ·refine .inr ⟨k,c',e,z'.sameBut hs ?_⟩
     rintro rfl
     exact hj (vX hN e1 (I.ok.inj _ _ _ e hc▸hi))
  ·by_cases To:c'=c
   ·subst To;exact⟨_,LF⟩
   ·obtain⟨w2,z2⟩:=I.cell y c' e;exact⟨w2,z2.sameBut hs To⟩
  ·obtain⟨e,n,ne,nf,d⟩:=I.pin p hp;refine⟨(hs.2 p.1 ?_).trans e,n,ne,nf,d⟩;intro q;rw[q,KZ]at e;have q':oc=p.2:=Option.some.inj e;exact d w' (by rw[<-q'];exact Ql)
theorem ra{M:Model}{A:Around}{E:Value->Shared->Prop}{i:Nat}{x:Str}{v:V}{u:Value}{Q:Unit->Shared->Prop}(I:Inv X pins σ H s)(hN:X.N.Nodup)(hi:X.N[i]?=some x)(hx:Loc X.env.scope x)(r:RelV v u)
  (h:∀s',Inv X pins (σ.set i (some v)) H s'->Q () s') (hf:X.fn x=true\/X.env.scope.names.lookup x=some .local:=by first|exact .inl rfl|exact .inr rfl|assumption):wpAny M A (storeName X.env x u) Q E s:=
 s_ I hN hi hx r (fun s' I' _=>h s' I') hf
theorem Inv.LG {s':Shared}{ch:List Addr}(I:Inv X pins σ H s)(ho:s'.os=s.os)(u:Un (mK X.stack) ch H H' s.heap s'.heap)(bQ:la X.prog X.w H' s'.heap)(hg:AllBare s'.gens)
  (sZ:∀b∈ch,(b∈X.ex\/X.eZ.heap.objs.size<=b)/\b≠X.env.locals/\(∀x c,X.env.cells.lookup x=some c->c≠b)/\∀p∈X.pn++pins,p.1≠b):Inv X pins σ H' s':=by
 obtain⟨h',g',d',t',o'⟩:=s';have e:o'=s.os:=ho;subst e;exact I.call (g':=g') (t':=t') (d':=d') u bQ hg sZ
end
abbrev XK:=Value->Option Addr->Hp->Prop
abbrev St:=List (Option V)
abbrev VK:=V->Hp->Prop
abbrev TE:=St->Hp->VK->Prop
abbrev TT:=St->Hp->(Bool->Hp->Prop)->Prop
abbrev TA:=St->Hp->(List V->Hp->Prop)->Prop
structure Ends where
 nx:St->Hp->Prop
 rt:VK
 bk:St->Hp->Prop:=fun _ _=>False
 ct:St->Hp->Prop:=fun _ _=>False
abbrev TS:=Ends->St->Hp->Prop
def EP(X:Cx)(pins:List (Addr×Obj))(σ:St)(Q:VK)(u:Value)(s':Shared):Prop:=∃v H',Inv X pins σ H' s'/\RelV v u/\Q v H'
def TP(X:Cx)(pins:List (Addr×Obj))(σ:St)(Q:Bool->Hp->Prop)(b:Bool)(s':Shared):Prop:=∃H',Inv X pins σ H' s'/\Q b H'
def AP(X:Cx)(pins:List (Addr×Obj))(σ:St)(Q:List V->Hp->Prop)(us:List Value)(s':Shared):Prop:=∃vs H',Inv X pins σ H' s'/\Vals vs us/\Q vs H'
def SP(X:Cx)(pins:List (Addr×Obj))(D:Ends)(f:Flow)(s':Shared):Prop:=
 match f with
 |.next=>∃bK H',Inv X pins bK H' s'/\D.nx bK H'
 |.brk=>∃bK H',Inv X pins bK H' s'/\D.bk bK H'
 |.cont=>∃bK H',Inv X pins bK H' s'/\D.ct bK H'
 |.ret u=>∃v bK H',Inv X pins bK H' s'/\RelV v u/\D.rt v H'
def PE(X:Cx)(e:Expr)(t:TE):Prop:=
 ∀(pins:List (Addr×Obj)) (s:Shared) (σ:St) (H:Hp) (Q:VK),Inv X pins σ H s->t σ H Q->wpAny (model X.prog X.w) X.A (eval e X.env) (EP X pins σ Q) X.xe s
def PT(X:Cx)(e:Expr)(t:TT):Prop:=
 ∀(pins:List (Addr×Obj)) (s:Shared) (σ:St) (H:Hp) (Q:Bool->Hp->Prop),Inv X pins σ H s->t σ H Q->wpAny (model X.prog X.w) X.A (isTrue e X.env (eval e X.env)) (TP X pins σ Q) X.xe s
def PW(X:Cx)(e:Expr)(t:TT):Prop:=
 ∀(whole:Sem Value) (pins:List (Addr×Obj)) (s:Shared) (σ:St) (H:Hp) (Q:Bool->Hp->Prop),Inv X pins σ H s->t σ H Q->wpAny (model X.prog X.w) X.A (isTrue e X.env whole) (TP X pins σ Q) X.xe s
theorem PW.pt {X:Cx}{e:Expr}{t:TT}(h:PW X e t):PT X e t:=h _
def PA(X:Cx)(es:List Expr)(t:TA):Prop:=
 ∀(pos:Pos) (pins:List (Addr×Obj)) (s:Shared) (σ:St) (H:Hp) (Q:List V->Hp->Prop),Inv X pins σ H s->t σ H Q->wpAny (model X.prog X.w) X.A (spliced (backTo pos (starEach es X.env))) (AP X pins σ Q) X.xe s
def PS(X:Cx)(st:Stmt)(t:TS):Prop:=
 ∀(pins:List (Addr×Obj)) (s:Shared) (σ:St) (H:Hp) (D:Ends),Inv X pins σ H s->t D σ H->wpAny (model X.prog X.w) X.A (exec st X.env) (SP X pins D) X.xe s
def jW(X:Cx)(st:List Stmt)(t:TS):Prop:=
 ∀(pins:List (Addr×Obj)) (s:Shared) (σ:St) (H:Hp) (D:Ends),Inv X pins σ H s->t D σ H->wpAny (model X.prog X.w) X.A (execs st X.env) (SP X pins D) X.xe s
theorem dY{α:Type}{t:Sem α}{Q Q':α->Shared->Prop}{M:Model}{A:Around}{E:Value->Shared->Prop}{s:Shared}(h:wpAny M A t Q E s)(hQ:∀a s,Q a s->Q' a s):wpAny M A t Q' E s:=dQ h hQ fun _ _ x=>x
end L2
namespace L2
open PySem PySem.Spec PyProof.Rows
section
variable {X:Cx}
def Qm(i:Nat):TE:=fun σ H Q=>∃v,σ[i]?=some (some v)/\Q v H
def tC(v:V):TE:=fun _ H Q=>Q v H
theorem Cf{i:Nat}{x:Str}{pos:Pos}(hN:X.N[i]?=some x)(hv:HX X.env.scope x)(hd:(x==("__debug__":Str))=false:=by decide) (o7:(x==("__classdict__":Str))=false:=by decide):PE X (.Name x pos) (Qm i):=by
 intro pins s σ H Q I h;obtain⟨v,e,h⟩:=h;obtain⟨m,hn,hl⟩:=I.loc;obtain⟨u,r,l⟩:=hl i x v hN e hv;have fin:EP X pins σ Q u s:=⟨v,H,I,r,h⟩;rcases l with⟨hk,hm⟩|⟨hk,c,hc,oO⟩
 ·exact g6 (l_ I.ok.kind hk hn hm fin) hd
 ·rcases hk with hk|hk
  ·exact g6 (qL I.ok.kind hk hc oO fin) hd
  ·exact g6 (wpAny_loadName_free I.ok.kind hk hc oO fin o7) hd
theorem HZ{i j pos}:PE X (.Constant (.int i) j pos) (tC (.int i)):=fun _ _ _ H _ I h=>wpAny_Constant_int ⟨.int i,H,I.tok _,⟨_,rfl⟩,h⟩
theorem LH{b j pos}:PE X (.Constant (.bool b) j pos) (tC (.bl b)):=fun _ _ _ H _ I h=>Constant_bool ⟨.bl b,H,I,rfl,h⟩
theorem H_{j pos}:PE X (.Constant .none j pos) (tC .cq):=fun _ _ _ H _ I h=>Constant_none ⟨.cq,H,I,rfl,h⟩
def Gl(X:Cx)(x:Str):Prop:=X.env.kindOf x=some .globalImplicit
theorem EG{E:Value->Shared->Prop}{pins:List (Addr×Obj)}{s:Shared}{σ:St}{H:Hp}{x:Str}{u:Value}{pos:Pos}{Q:Value->Shared->Prop}(I:Inv X pins σ H s)(hg:Gl X x)(hm:X.mg x=some u)(h:Q u s)
  (hd:(x==("__debug__":Str))=false:=by decide):wpAny (model X.prog X.w) X.A (eval (.Name x pos) X.env) Q E s:=
 Calls.Name_function_global I.ok.kind hg (Calls.loadGlobal_global (by rw[I.ok.glob];exact I.mod.glob.keeps I.bk) hm h) hd
theorem nQ{E:Value->Shared->Prop}{pins:List (Addr×Obj)}{s:Shared}{σ:St}{H:Hp}{x:Str}{u:Value}{pos:Pos}{Q:Value->Shared->Prop}(I:Inv X pins σ H s)(hg:Gl X x)(hm:X.mg x=none)(hv:bootBuiltins x=some u)(h:Q u s)
  (hn:x≠"__name__":=by decide) (hd:(x==("__debug__":Str))=false:=by decide):wpAny (model X.prog X.w) X.A (eval (.Name x pos) X.env) Q E s:=by
 obtain⟨mb,h1,h2⟩:=I.mod.blt;exact Calls.Name_function_global I.ok.kind hg (Calls.loadGlobal_builtin (by rw[I.ok.glob];exact I.mod.glob.keeps I.bk) hm (by rw[I.ok.blt];exact h1.keeps I.bk) ((h2 x hn).trans hv) h) hd
theorem EH{x:Str}{v:V}{u:Value}{pos:Pos}(hg:Gl X x)(hm:X.mg x=none)(hv:bootBuiltins x=some u)(r:RelV v u)(hn:x≠"__name__":=by decide) (hd:(x==("__debug__":Str))=false:=by decide):PE X (.Name x pos) (tC v):=
 fun _ _ _ H _ I h=>nQ I hg hm hv ⟨v,H,I,r,h⟩ hn hd
variable {a b:Expr}{ta tb:TE}{pos:Pos}
def tB(t:TE):TT:=fun σ H Q=>t σ H fun x H1=>∃c,x=.bl c/\Q c H1
variable {tA O1:TT}{rest:List Expr}
def Qn(t u:TT):TT:=fun σ H Q=>t σ H fun c H1=>if c=true then u σ H1 Q else Q false H1
def UM(t u:TT):TT:=fun σ H Q=>t σ H fun c H1=>if c=true then Q true H1 else u σ H1 Q
def Qo(t:TT):TT:=fun σ H Q=>t σ H fun c H1=>Q (!c) H1
theorem pw_and1(ha:PT X a tA):PW X (.BoolOp .And [a] pos) tA:=by
 intro wh pins s σ H Q I h;refine isTrue_and (dY (ha pins s σ H Q I h) fun c s1 e=>?_);cases c with
 |true=>exact isTrue_and_nil e
 |false=>exact e
theorem pw_or1(ha:PT X a tA):PW X (.BoolOp .Or [a] pos) tA:=by
 intro wh pins s σ H Q I h;refine isTrue_or (dY (ha pins s σ H Q I h) fun c s1 e=>?_);cases c with
 |false=>exact isTrue_or_nil e
 |true=>exact e
theorem pw_and(ha:PT X a tA)(hb:PW X (.BoolOp .And (b::rest) pos) O1):PW X (.BoolOp .And (a::b::rest) pos) (Qn tA O1):=by
 intro wh pins s σ H Q I h;refine isTrue_and (dY (ha pins s σ H _ I h) fun c s1 ⟨H1,I1,q1⟩=>?_);cases c with
 |true=>exact hb wh pins s1 σ H1 Q I1 q1
 |false=>exact⟨H1,I1,q1⟩
theorem pw_or(ha:PT X a tA)(hb:PW X (.BoolOp .Or (b::rest) pos) O1):PW X (.BoolOp .Or (a::b::rest) pos) (UM tA O1):=by
 intro wh pins s σ H Q I h;refine isTrue_or (dY (ha pins s σ H _ I h) fun c s1 ⟨H1,I1,q1⟩=>?_);cases c with
 |true=>exact⟨H1,I1,q1⟩
 |false=>exact hb wh pins s1 σ H1 Q I1 q1
theorem Cg(ha:PT X a tA):PT X (.UnaryOp .Not a pos) (Qo tA):=by
 intro pins s σ H Q I h;exact isTrue_not (ha pins s σ H (fun c H1=>Q (!c) H1) I h)
def LI(ta tb:TE):TE:=fun σ H Q=>ta σ H fun x H1=>∃c,x=.bl c/\if c=true then tb σ H1 Q else Q (.bl false) H1
theorem Ci{op}{t:TE}(h:PE X a t):PE X (.BoolOp op [a] pos) t:=fun pins s σ H Q I hw=>BoolOp_one (h pins s σ H Q I hw)
theorem Ia(ha:PE X a ta)(hb:PE X (.BoolOp .And (b::rest) pos) tb):PE X (.BoolOp .And (a::b::rest) pos) (LI ta tb):=by
 intro pins s σ H Q I h;refine BoolOp_and (dY (ha pins s σ H _ I h) fun v s1 ⟨x,H1,I1,r1,q1⟩=>?_);obtain⟨c,rfl,q1⟩:=q1;cases r1;refine jK ?_
 cases c with
 |true=>exact hb pins s1 σ H1 Q I1 q1
 |false=>exact⟨.bl false,H1,I1,rfl,q1⟩
end
end L2
namespace L2
open PySem PySem.Spec PyProof.Rows
def iN(K:PySem.W.Frag)(H:Hp)(a:Addr)(xs:List V):Prop:=
 Rd H a (.lst xs)\/
  ∃(o:Obj) (aY:Array Value) (n:Nat),K.lookup a=some o/\o.cls=.type "list"/\o.dict=none/\o.data=.seq aY n/\aY.size<=sizeLine/\Vals xs aY.toList
def hZ(K:PySem.W.Frag)(H:Hp)(a:Addr)(xs:List V):Prop:=
 Rd H a (.tup xs)\/
  ∃(o:Obj) (aY:Array Value) (n:Nat),K.lookup a=some o/\o.cls=.type "tuple"/\o.data=.seq aY n/\aY.size<=sizeLine/\Vals xs aY.toList
def Qp:Value->Option V
 |.none=>some .cq
 |.bool b=>some (.bl b)
 |.int i _=>some (.int i)
 |.str x _=>some (.str x)
 |.bytes b _=>some (.HU b)
 |.float b _=>some (.GH b)
 |.ref a=>some (.ref a)
 |.type n=>some (.ty n)
 |_=>none
theorem RelV.abs {x:V}{u:Value}(r:RelV x u):Qp u=some x:=by
 cases x with
 |cq=>cases r;rfl
 |bl _=>cases r;rfl
 |int _=>obtain⟨t,rfl⟩:=r;rfl
 |str _=>obtain⟨t,rfl⟩:=r;rfl
 |HU _=>obtain⟨t,rfl⟩:=r;rfl
 |GH _=>obtain⟨t,rfl⟩:=r;rfl
 |ref _=>cases r;rfl
 |ty _=>cases r;rfl
theorem RelV.inj {x y:V}{u:Value}(r:RelV x u)(q:RelV y u):x=y:=Option.some.inj (r.abs.symm.trans q.abs)
theorem Vals.inj:∀{xs ys:List V} {us:List Value},Vals xs us->Vals ys us->xs=ys
 |_,_,_,.nil,.nil=>rfl
 |_,_,_,.cons r t,.cons r' t'=>by rw[r.inj r',Vals.inj t t']
section
variable {X:Cx}{pins:List (Addr×Obj)}{σ:St}{H:Hp}{s:Shared}{a:Addr}{xs ys:List V}
theorem iN.of {K:PySem.W.Frag}(h:H a=some (.lst xs)):iN K H a xs:=.inl (.inl h)
theorem Inv.list (I:Inv X pins σ H s)(h:iN X.K H a xs):∃aY:List Value,Vals xs aY/\PlainL s.heap a aY.toArray/\xs.length<=sizeLine:=by
 rcases h with h|⟨o,aY,n,hk,hc,hd,hs,hz,r⟩
 ·obtain⟨z,aY,n,r,e⟩:=h.ok I.bQ;exact⟨aY,r,⟨_,n,e,rfl,rfl,rfl⟩,z⟩
 ·refine⟨aY.toList,r,⟨o,n,I.o6 a o hk,hc,hd,by simpa using hs⟩,?_⟩;have e:=r.length;simp only[bz]at e;omega
theorem Inv.tuple (I:Inv X pins σ H s)(h:hZ X.K H a xs):∃aY:List Value,Vals xs aY/\IsTup s.heap a aY.toArray/\xs.length<=sizeLine:=by
 rcases h with h|⟨o,aY,n,hk,hc,hs,hz,r⟩
 ·obtain⟨z,aY,r,p⟩:=h.ok I.bQ;exact⟨aY,r,p.tup,z⟩
 ·refine⟨aY.toList,r,⟨o,I.o6 a o hk,hc,n,by simpa using hs⟩,?_⟩;have e:=r.length;simp only[bz]at e;omega
theorem Inv.Cj (I:Inv X pins σ H s)(h:iN X.K H a xs)(h':iN X.K H a ys):xs=ys:=by
 obtain⟨aY,r,⟨o,n,e,_,_,d⟩,_⟩:=I.list h;obtain⟨uI,r',⟨o',n',e',_,_,d'⟩,_⟩:=I.list h';rw[e]at e';cases e';rw[d]at d';injection d' with d1 _
 have:aY=uI:=by simpa using bT Array.toList d1
 subst this;exact r.inj r'
theorem Inv.kL (I:Inv X pins σ H s)(h:hZ X.K H a xs)(h':hZ X.K H a ys):xs=ys:=by
 obtain⟨aY,r,⟨o,e,_,n,d⟩,_⟩:=I.tuple h;obtain⟨uI,r',⟨o',e',_,n',d'⟩,_⟩:=I.tuple h';rw[e]at e';cases e';rw[d]at d';injection d' with d1 _
 have:aY=uI:=by simpa using bT Array.toList d1
 subst this;exact r.inj r'
end
abbrev Cx.sN (X:Cx)(E:Value->Shared->Prop):Cx:={X with xe:=E}
abbrev Cx.B5 (X:Cx):Cx:=X.sN fun _ _=>False
theorem Cx.Ok.sN {X:Cx}(ok:X.Ok)(E:Value->Shared->Prop):(X.sN E).Ok:=
 ⟨ok.mod,ok.kind,ok.glob,ok.blt,ok.above,ok.inj,ok.has,ok.LB,ok.hd,ok.frames,ok.KR,ok.Qi,ok.bs,ok.GI,ok.AJ,ok.Cb,ok.q_,ok.KU⟩
theorem Cx.Ok.jX {X:Cx}{E:Value->Shared->Prop}(ok:(X.sN E).Ok):X.Ok:=
 ⟨ok.mod,ok.kind,ok.glob,ok.blt,ok.above,ok.inj,ok.has,ok.LB,ok.hd,ok.frames,ok.KR,ok.Qi,ok.bs,ok.GI,ok.AJ,ok.Cb,ok.q_,ok.KU⟩
section
variable {X:Cx}{pins:List (Addr×Obj)}{σ:St}{H:Hp}{s:Shared}{E:Value->Shared->Prop}
theorem Inv.sN (I:Inv X pins σ H s)(E:Value->Shared->Prop):Inv (X.sN E) pins σ H s:=⟨I.ok.sN E,I.os,I.bare,I.base,I.loc,I.cell,I.free,I.gr,I.pin,I.bQ,I.len⟩
theorem Inv.jX (I:Inv (X.sN E) pins σ H s):Inv X pins σ H s:=⟨I.ok.jX,I.os,I.bare,I.base,I.loc,I.cell,I.free,I.gr,I.pin,I.bQ,I.len⟩
theorem SP.jX {D:Ends}{f:Flow}{s':Shared}(h:SP (X.sN E) pins D f s'):SP X pins D f s':=by
 cases f with
 |next=>obtain⟨bK,H',I,q⟩:=h;exact⟨bK,H',I.jX,q⟩
 |brk=>obtain⟨bK,H',I,q⟩:=h;exact⟨bK,H',I.jX,q⟩
 |cont=>obtain⟨bK,H',I,q⟩:=h;exact⟨bK,H',I.jX,q⟩
 |ret u=>obtain⟨v,bK,H',I,r,q⟩:=h;exact⟨v,bK,H',I.jX,r,q⟩
theorem jW.B5 {st:List Stmt}{t:TS}(h:jW X.B5 st t):jW X st t:=fun pins s σ H D I hw=>
 dQ (h pins s σ H D (I.sN _) hw) (fun _ _ q=>q.jX) fun _ _ z=>False.elim z
end
section
variable {X:Cx}{st:Stmt}{rest:List Stmt}{t u:TS}{e:Expr}{te:TE}{pos:Pos}
def LJ:TS:=fun D σ H=>D.nx σ H
def Qq(t u:TS):TS:=fun D σ H=>t {D with nx:=u D} σ H
theorem y1:jW X [] LJ:=fun _ _ σ H _ I h=>mz ⟨σ,H,I,h⟩
theorem vY(h1:PS X st t)(h2:jW X rest u):jW X (st::rest) (Qq t u):=by
 intro pins s σ H D I h;refine wpAny_execs_cons (dY (h1 pins s σ H {D with nx:=u D} I h) fun f s1 q=>?_);cases f with
 |next=>
  obtain⟨bK,H',I',q⟩:=q;exact h2 pins s1 bK H' D I' q
 |ret v=>exact q
 |brk=>exact q
 |cont=>exact q
theorem y3(h1:PS X st t):jW X [st] t:=by
 intro pins s σ H D I h;refine wpAny_execs_cons (dY (h1 pins s σ H D I h) fun f s1 q=>?_);cases f with
 |next=>exact mz q
 |ret v=>exact q
 |brk=>exact q
 |cont=>exact q
theorem Inv.quiet {pins:List (Addr×Obj)}{σ:St}{H:Hp}{s:Shared}(I:Inv X pins σ H s):interactive X.env=false:=by simp[interactive,I.ok.kind]
def LK(te:TE):TS:=fun D σ H=>te σ H fun _ H1=>D.nx σ H1
theorem EI(he:PE X e te)(hs:swapsWith e none pos.line X.env=pure false:=by rfl):PS X (.Expr e pos) (LK te):=by
 intro pins s σ H D I h;exact wpAny_Expr_any (dY (he pins s σ H _ I h) fun v s1 ⟨x,H1,I1,r1,q1⟩=>⟨σ,H1,I1,q1⟩) I.quiet hs
def Qr(te:TE):TS:=fun D σ H=>te σ H D.rt
theorem Ck(he:PE X e te):PS X (.Return (some e) pos) (Qr te):=by
 intro pins s σ H D I h;exact wpAny_Return_some (dY (he pins s σ H _ I h) fun v s1 ⟨x,H1,I1,r1,q1⟩=>⟨x,σ,H1,I1,r1,q1⟩)
def Qs(c:TT)(t u:TS):TS:=fun D σ H=>c σ H fun b H1=>if b=true then t D σ H1 else u D σ H1
theorem GK{c:Expr}{a b:List Stmt}{tc:TT}(hc:PT X c tc)(ha:jW X a t)(hb:jW X b u):PS X (.If c a b pos) (Qs tc t u):=by
 intro pins s σ H D I h;refine wpAny_If (dY (hc pins s σ H _ I h) fun d s1 ⟨H1,I1,q1⟩=>?_);cases d with
 |true=>exact ha pins s1 σ H1 D I1 q1
 |false=>exact hb pins s1 σ H1 D I1 q1
end
abbrev TG:=V->St->Hp->(St->Hp->Prop)->Prop
abbrev Ib:=List V->St->Hp->(St->Hp->Prop)->Prop
def PG(X:Cx)(target:Expr)(t:TG):Prop:=
 ∀(pins:List (Addr×Obj)) (s:Shared) (σ:St) (H:Hp) (v:V) (u:Value) (Q:St->Hp->Prop),Inv X pins σ H s->RelV v u->t v σ H Q->
  wpAny (model X.prog X.w) X.A (assign target X.env u) (fun _ s'=>∃bK H',Inv X pins bK H' s'/\Q bK H') X.xe s
def EJ(X:Cx)(ts:List Expr)(t:Ib):Prop:=
 ∀(pins:List (Addr×Obj)) (s:Shared) (σ:St) (H:Hp) (vs:List V) (us:List Value) (Q:St->Hp->Prop),Inv X pins σ H s->Vals vs us->t vs σ H Q->
  wpAny (model X.prog X.w) X.A (assignInOrder ((assignEach ts X.env).map (·.2)) us) (fun _ s'=>∃bK H',Inv X pins bK H' s'/\Q bK H') X.xe s
abbrev Qt:=V->V->Hp->VK->Prop
def UN(X:Cx)(op:Operator)(t:Qt):Prop:=
 ∀(pins:List (Addr×Obj)) (s:Shared) (σ:St) (H:Hp) (x y:V) (v u:Value) (Q:VK),Inv X pins σ H s->RelV x v->RelV y u->t x y H Q->
  wpAny (model X.prog X.w) X.A (inplaceOp op v u) (EP X pins σ Q) X.xe s
section
variable {X:Cx}{pos:Pos}
def Cm(i:Nat):TG:=fun v σ H Q=>Q (σ.set i (some v)) H
theorem uJ{i:Nat}{x:Str}(hN:X.N.Nodup)(hi:X.N[i]?=some x)(hx:Loc X.env.scope x)(hf:X.fn x=true\/X.env.scope.names.lookup x=some .local:=by first|exact .inl rfl|exact .inr rfl|assumption):PG X (.Name x pos) (Cm i):=by
 intro pins s σ H v u Q I r h;exact wpAny_assign_Name (ra I hN hi hx r (fun s' I'=>⟨_,H,I',h⟩) hf)
def Qu:Ib:=fun vs σ H Q=>vs=[]/\Q σ H
def LL(t:TG)(u:Ib):Ib:=fun vs σ H Q=>∃v r,vs=v::r/\t v σ H fun bK H'=>u r bK H' Q
theorem EK:EJ X [] Qu:=by
 intro pins s σ H vs us Q I r h;obtain⟨e,h⟩:=h;subst e;cases r;exact assignInOrder_nil ⟨σ,H,I,h⟩
theorem Cn{e:Expr}{es:List Expr}{t:TG}{u:Ib}(h1:PG X e t)(h2:EJ X es u)
  (hs:(assignEach (e::es) X.env).map (·.2)=assign e X.env::(assignEach es X.env).map (·.2):=by rfl):EJ X (e::es) (LL t u):=by
 intro pins s σ H vs us Q I r h;obtain⟨v,vr,e1,h⟩:=h;subst e1;cases r with
 |cons r rr=>
  rw[hs];refine assignInOrder_cons (dY (h1 pins s σ H _ _ _ I r h) fun _ s1 ⟨GL,H1,I1,q1⟩=>?_);exact h2 pins s1 GL H1 _ _ Q I1 rr q1
def Qv(K:PySem.W.Frag)(n:Nat)(t:Ib):TG:=fun v σ H Q=>∃a xs,v=.ref a/\hZ K H a xs/\xs.length=n/\t xs σ H Q
theorem Ic{es:List Expr}{k:Nat}{t:Ib}{n:Nat}(hc:X.calm=true)(h:EJ X es t)
  (hn:(assignEach es X.env).length=n:=by rfl) (eJ:(assignEach es X.env).findIdx? (·.1)=none:=by rfl):PG X (.Tuple es k pos) (Qv X.K n t):=by
 intro pins s σ H v u Q I r hw;obtain⟨a,xs,e1,hq,hl,hw⟩:=hw;subst e1;cases r;obtain⟨aY,rv,ht,hz⟩:=I.tuple hq;refine assign_Tuple_tuple (I.ok.hd hc) ht (by simp[hn,<-hl,rv.length]) eJ fun h' hx=>?_
 have I1:Inv X pins σ H {s with heap:=h'}:=I.kept (t':=s.toks) fun b o e=>hx b o (aS (ax e)) e;exact h pins _ σ H xs _ Q I1 (by simpa using rv) hw
def Qw(te:TE)(g:TG):TS:=fun D σ H=>te σ H fun x H1=>g x σ H1 D.nx
theorem Co{i:Nat}{x:Str}{e:Expr}{te:TE}{pos':Pos}(hN:X.N.Nodup)(hi:X.N[i]?=some x)(hx:Loc X.env.scope x)(he:PE X e te)(hs:swapsWith e (some (.Name x pos')) pos.line X.env=pure false:=by rfl) (hf:X.fn x=true\/X.env.scope.names.lookup x=some .local:=by first|exact .inl rfl|exact .inr rfl|assumption):
  PS X (.Assign [.Name x pos'] e pos) (Qw te (Cm i)):=by
 intro pins s σ H D I h;refine wpAny_Assign_Name (dY (he pins s σ H _ I h) fun v s1 ⟨y,H1,I1,r1,q1⟩=>?_) hs;exact ra I1 hN hi hx r1 (fun s2 I2=>⟨_,H1,I2,q1⟩) hf
def Qx(i:Nat)(te:TE)(ti:Qt):TS:=fun D σ H=>∃x,σ[i]?=some (some x)/\te σ H fun y H1=>ti x y H1 fun z H2=>D.nx (σ.set i (some z)) H2
theorem Ie{i:Nat}{x:Str}{e:Expr}{te:TE}{op:Operator}{ti:Qt}{pos':Pos}(hN:X.N.Nodup)(hi:X.N[i]?=some x)(hx:Loc X.env.scope x)(he:PE X e te)(ho:UN X op ti)(hf:X.fn x=true\/X.env.scope.names.lookup x=some .local:=by first|exact .inl rfl|exact .inr rfl|assumption):
  PS X (.AugAssign (.Name x pos') op e pos) (Qx i te ti):=by
 intro pins s σ H D I h;obtain⟨v,e1,h⟩:=h;obtain⟨m,hn,hl⟩:=I.loc;have fH:HX X.env.scope x:=by rcases hx with k|k;exact .inl k;exact .inr (.inl k)
 obtain⟨u,r,l⟩:=hl i x v hi e1 fH;refine wpAny_AugAssign_Name ?_
 have go:wpAny (model X.prog X.w) X.A (eval e X.env) (fun w nR=>wpAny (model X.prog X.w) X.A (inplaceOp op u w) (fun r xT=>wpAny (model X.prog X.w) X.A (storeName X.env x r) (fun _=>SP X pins D .next) X.xe xT) X.xe nR) X.xe s:=by
  refine dY (he pins s σ H _ I h) fun w s1 ⟨y,H1,I1,r1,q1⟩=>?_
  refine dY (ho pins s1 σ H1 v y u w _ I1 r r1 q1) fun z s2 ⟨zv,H2,I2,r2,q2⟩=>?_
  exact ra I2 hN hi hx r2 (fun s3 I3=>⟨_,H2,I3,q2⟩) hf
 rcases l with⟨hk,hm⟩|⟨hk,c,hc,oO⟩
 ·exact l_ I.ok.kind hk hn hm go
 ·rcases hk with hk|hk
  ·exact qL I.ok.kind hk hc oO go
  ·rcases hx with k|k
   ·have:X.env.scope.names.lookup x=some .free:=hk;rw[k]at this;cases this
   ·have:X.env.scope.names.lookup x=some .free:=hk;rw[k]at this;cases this
end
section
variable {X:Cx}{pos:Pos}
def Ig(c:TT)(tb:TS):TS:=fun D σ H=>∃W:Nat->St->Hp->Prop,(∃m,W m σ H)/\∀m σ H,W m σ H->
 c σ H fun b H1=>if b=true then∃N:St->Hp->Prop,(∀bK H',N bK H'->∃m',m'<m/\W m' bK H')/\tb {D with nx:=N,ct:=N,bk:=D.nx} σ H1 else D.nx σ H1
theorem Cp{c:Expr}{body:List Stmt}{tc:TT}{tb:TS}(hp:PassesOwn (model X.prog X.w) X.A X.env X.xe)(hc:PT X c tc)(hb:jW X body tb):PS X (.While c body [] pos) (Ig tc tb):=by
 intro pins s σ H D I h;obtain⟨W,⟨m0,w0⟩,turn⟩:=h;refine wpAny_While (codeAny_whileLoop (fun n s'=>∃bK H',Inv X pins bK H' s'/\W n bK H') ?_ m0 ⟨σ,H,I,w0⟩)
 rintro n s1 ⟨GL,H1,I1,w1⟩
 refine gS hp (dY (hc pins s1 GL H1 _ I1 (turn n GL H1 w1)) fun b s2 ⟨H2,I2,q2⟩=>?_);cases b with
 |true=>
  obtain⟨N,hN,q2⟩:=q2;rw[ab rfl];refine gS hp (dY (hb pins s2 GL H2 _ I2 q2) fun f s3 q3=>?_);cases f with
  |next=>
   obtain⟨xQ,H3,I3,n3⟩:=q3;obtain⟨m',hm,w3⟩:=hN xQ H3 n3;exact⟨m',hm,xQ,H3,I3,w3⟩
  |cont=>
   obtain⟨xQ,H3,I3,n3⟩:=q3;obtain⟨m',hm,w3⟩:=hN xQ H3 n3;exact⟨m',hm,xQ,H3,I3,w3⟩
  |brk=>exact q3
  |ret v=>exact q3
 |false=>
  rw[ae cR];exact mz ⟨GL,H2,I2,q2⟩
end
structure It where
 go:Nat->Hp->Prop
 xU:Nat->Hp->V->Hp->Prop
 stop:Nat->Hp->Prop
def jy(X:Cx)(pins:List (Addr×Obj))(H:Hp)(b:Addr):Prop:=
 H b=none/\b≠X.env.locals/\b∉X.fs/\(b∈X.ex\/X.eZ.heap.objs.size<=b)/\(∀x c,X.env.cells.lookup x=some c->c≠b)/\∀p∈X.pn++pins,p.1≠b
theorem Inv.uK {X:Cx}{pins:List (Addr×Obj)}{σ:St}{H H':Hp}{s:Shared}{b:Addr}(I:Inv X pins σ H s)(hb:s.heap.objs.size<=b)(hn:H' b=none):jy X pins H' b:=by
 refine⟨hn,cn (bA I.lt hb),I.Qk hb,.inr (bp I.sz hb),fun x c e z=>?_,fun p hp z=>?_⟩
 ·obtain⟨v,q⟩:=I.cell x c e;exact absurd (bA q.lt (by rw[z];exact hb)) (cJ _)
 ·exact absurd (bA (ax (I.pin p hp).1) (by rw[z];exact hb)) (cJ _)
structure Turn(P:Program)(w:World)(K:PySem.W.Frag)(tg:Expr)(J:It)(fp:List Addr)(it:Addr)(tn:Nat->Heap->Prop):Prop where
 mem:it∈fp
 obj:∀i h,tn i h->∀b∈fp,∃o,h.get? b=some o/\∀v,o.data≠ .cell v
 keep:∀i h h',tn i h->(∀b∈fp,∀o,h.get? b=some o->h'.get? b=some o)->tn i h'
 item:∀(X:Cx),X.prog=P->X.w=w->X.K=K->X.calm=true->∀(i:Nat) (pins:List (Addr×Obj)) (s:Shared) (σ:St) (H:Hp) (E:Value->Shared->Prop),Inv X pins σ H s->(∀b∈fp,jy X pins H b)->tn i s.heap->J.go i H->
  wpAny (model P w) X.A (pyNext (.ref it)) (fun r s1=>∃u,r=some u/\
   wpAny (model P w) X.A (letOwnedTupleGo tg (.ref it) u) (fun _ s2=>∃x H',Inv X pins σ H' s2/\RelV x u/\J.xU i H x H'/\tn (i+1) s2.heap/\∀b∈fp,H' b=none) E s1) E s
 done:∀(X:Cx),X.prog=P->X.w=w->X.K=K->X.calm=true->∀(i:Nat) (pins:List (Addr×Obj)) (s:Shared) (σ:St) (H:Hp) (E:Value->Shared->Prop),Inv X pins σ H s->(∀b∈fp,jy X pins H b)->tn i s.heap->J.stop i H->
  wpAny (model P w) X.A (pyNext (.ref it)) (fun r s1=>r=none/\Inv X pins σ H s1) E s
 self:∀(A:Around) (i:Nat) (s:Shared) (Q:Value->Shared->Prop) (E:Value->Shared->Prop),tn i s.heap->Q (.ref it) s->wpAny (model P w) A (pyIter (.ref it)) Q E s
abbrev TI:=St->Hp->(It->Hp->Prop)->Prop
def O2(X:Cx)(pins:List (Addr×Obj))(σ:St)(tg:Expr)(R:It->Hp->Prop)(O3:Value)(s2:Shared):Prop:=
 ∃(it:Addr) (fp:List Addr) (tn:Nat->Heap->Prop) (J:It) (H':Hp),O3=.ref it/\Inv X pins σ H' s2/\Turn X.prog X.w X.K tg J fp it tn/\tn 0 s2.heap/\(∀b∈fp,jy X pins H' b)/\R J H'
def PI(X:Cx)(tg iter:Expr)(wi:TI):Prop:=
 ∀(pins:List (Addr×Obj)) (s:Shared) (σ:St) (H:Hp) (R:It->Hp->Prop),Inv X pins σ H s->wi σ H R->
  wpAny (model X.prog X.w) X.A (eval iter X.env) (fun v s1=>wpAny (model X.prog X.w) X.A (pyIter v) (O2 X pins σ tg R) X.xe s1) X.xe s
theorem vZ{M:Model}{A:Around}{E:Value->Shared->Prop}{s:Shared}{tg:Expr}{it:Addr}{u:Value}{o:Obj}{n:String}{vs:Array Value}{Q:Unit->Shared->Prop}(ho:s.heap.get? it=some o)(hc:o.cls=.type n)(hd:o.data=.fields vs)
  (hn:["enumerate","zip","dict_itemiterator","dict_reverseitemiterator","odict_iterator","itertools.zip_longest","itertools.pairwise"].contains n=false) (hQ:Q () s):wpAny M A (letOwnedTupleGo tg (.ref it) u) Q E s:=by
 unfold letOwnedTupleGo;cases tg<;>first
  |exact af hQ
  |(cases u<;>first
    |exact af hQ
    |(refine aa (jT ho ?_)
      rw[hc,hd];show wpAny M A (if(["enumerate","zip","dict_itemiterator","dict_reverseitemiterator","odict_iterator","itertools.zip_longest","itertools.pairwise"].contains n&&vs[0]?==some (rawInt _))=true then _ else _) Q E s;rw[ae (by intro h;rw[hn,Bool.false_and]at h;cases h)];exact af hQ))
def O4(K:PySem.W.Frag)(a:Addr):It:=
 ⟨fun i H=>∃xs x,iN K H a xs/\xs[i]?=some x,fun i H x H'=>H'=H/\∀xs,iN K H a xs->xs[i]?=some x,fun i H=>∃xs,iN K H a xs/\xs.length<=i⟩
def Qy(K:PySem.W.Frag)(a:Addr):It:=
 ⟨fun i H=>∃xs x,hZ K H a xs/\xs[i]?=some x,fun i H x H'=>H'=H/\∀xs,hZ K H a xs->xs[i]?=some x,fun i H=>∃xs,hZ K H a xs/\xs.length<=i⟩
def O5(lo:Int)(n:Nat):It:=⟨fun i _=>i<n,fun i H x H'=>H'=H/\x=.int (lo+i),fun i _=>n<=i⟩
theorem tj{P:Program}{w:World}{K:PySem.W.Frag}{tg:Expr}(a it:Addr):Turn P w K tg (O4 K a) [it] it (fun i h=>h.IsListIter it a i) where
 mem:=by simp
 obj:=fun i h st b hb=>by
  have e:b=it:=by simpa using hb
  subst e;obtain⟨o,e,c,d⟩:=st;exact⟨o,e,fun v z=>by rw[d]at z;cases z⟩
 keep:=fun i h h' st k=>st.at fun o e=>k it (by simp) o e
 item:=by
  intro X hP hw hK hc i pins s σ H E I hf st hg;subst hP hw hK;obtain⟨xs,x,hq,hx⟩:=hg;obtain⟨aY,rv,p,hz⟩:=I.list hq;obtain⟨u,hu,ru⟩:=rv.get hx;obtain⟨f0,f1,f2,f3,f4,f5⟩:=hf it (by simp);refine wpAny_pyNext_list_item st p.isList (x:=u) (by simpa using hu) fun h' sO sb=>?_
  have I1:Inv X pins σ H {s with heap:=h'}:=I.turned (t':=s.toks) (fun b o hb e=>(sb.2 b hb).trans e) f0 f1 f3 f4 f5;obtain⟨o,e,c,d⟩:=id sO;exact⟨u,rfl,vZ (s:={s with heap:=h'}) e c d (by decide) ⟨x,H,I1,ru,⟨rfl,fun ys hy=>by rw[I.Cj hy hq];exact hx⟩,sO,fun b hb=>(hf b hb).1⟩⟩
 done:=by
  intro X hP hw hK hc i pins s σ H E I hf st hg;subst hP hw hK;obtain⟨xs,hq,hx⟩:=hg;obtain⟨aY,rv,p,hz⟩:=I.list hq;obtain⟨f0,f1,f2,f3,f4,f5⟩:=hf it (by simp);have hl:=rv.length;exact wpAny_pyNext_list_end (I.ok.hd hc) st p.isList (by simp;omega) fun h' eb=>⟨rfl,I.turned (t':=s.toks) (fun b o hb e=>eb b o hb e) f0 f1 f3 f4 f5⟩
 self:=fun _ _ _ _ _ st h=>wpAny_pyIter_listiter st h
theorem rb{P:Program}{w:World}{K:PySem.W.Frag}{tg:Expr}(a it:Addr):Turn P w K tg (Qy K a) [it] it (fun i h=>h.IsTupleIter it a i) where
 mem:=by simp
 obj:=fun i h st b hb=>by
  have e:b=it:=by simpa using hb
  subst e;obtain⟨o,e,c,d⟩:=st;exact⟨o,e,fun v z=>by rw[d]at z;cases z⟩
 keep:=fun i h h' st k=>st.at fun o e=>k it (by simp) o e
 item:=by
  intro X hP hw hK hc i pins s σ H E I hf st hg;subst hP hw hK;obtain⟨xs,x,hq,hx⟩:=hg;obtain⟨aY,rv,p,hz⟩:=I.tuple hq;obtain⟨u,hu,ru⟩:=rv.get hx;obtain⟨f0,f1,f2,f3,f4,f5⟩:=hf it (by simp);refine qm st (show s.heap.IsTuple a aY.toArray from p) (x:=u) (by simpa using hu) fun h' sO sb=>?_
  have I1:Inv X pins σ H {s with heap:=h'}:=I.turned (t':=s.toks) (fun b o hb e=>(sb.2 b hb).trans e) f0 f1 f3 f4 f5;obtain⟨o,e,c,d⟩:=id sO;exact⟨u,rfl,vZ (s:={s with heap:=h'}) e c d (by decide) ⟨x,H,I1,ru,⟨rfl,fun ys hy=>by rw[I.kL hy hq];exact hx⟩,sO,fun b hb=>(hf b hb).1⟩⟩
 done:=by
  intro X hP hw hK hc i pins s σ H E I hf st hg;subst hP hw hK;obtain⟨xs,hq,hx⟩:=hg;obtain⟨aY,rv,p,hz⟩:=I.tuple hq;obtain⟨f0,f1,f2,f3,f4,f5⟩:=hf it (by simp);have hl:=rv.length;exact wpAny_pyNext_tuple_end (I.ok.hd hc) st (show s.heap.IsTuple a aY.toArray from p) (by simp;omega) fun h' eb=>⟨rfl,I.turned (t':=s.toks) (fun b o hb e=>eb b o hb e) f0 f1 f3 f4 f5⟩
 self:=fun _ _ _ _ _ st h=>wpAny_pyIter_tupleiter st h
theorem xV{P:Program}{w:World}{K:PySem.W.Frag}{tg:Expr}(it:Addr)(lo:Int)(n:Nat):Turn P w K tg (O5 lo n) [it] it (fun i h=>IsRangeIter h it (lo+(i:Nat)*1) ((n:Int) - (i:Nat)) 1) where
 mem:=by simp
 obj:=fun i h st b hb=>by
  have e:b=it:=by simpa using hb
  subst e;exact⟨_,st,fun v z=>by
   have z':Data.fields _=Data.cell v:=z;cases z'⟩
 keep:=fun i h h' st k=>k it (by simp) _ st
 item:=by
  intro X hP hw hK hc i pins s σ H E I hf st hg;subst hP hw hK;obtain⟨f0,f1,f2,f3,f4,f5⟩:=hf it (by simp);have W:=Walks.range (prog:=X.prog) (w:=X.w) (I.ok.hd hc) it lo 1 n;refine W.item i s _ _ hg st fun v h' tk hv sO kk=>?_
  obtain⟨t,rfl⟩:=hv;have I1:Inv X pins σ H {s with heap:=h',toks:=tk}:=I.turned (fun b o hb e=>kk b o (by simpa using hb) e) f0 f1 f3 f4 f5;refine⟨_,rfl,vZ (s:={s with heap:=h',toks:=tk}) (n:="range_iterator") sO rfl rfl (by decide) ⟨.int (lo+i),H,I1,⟨t,?_⟩,⟨rfl,rfl⟩,sO,fun b hb=>(hf b hb).1⟩⟩;rw[Int.mul_one]
 done:=by
  intro X hP hw hK hc i pins s σ H E I hf st hg;subst hP hw hK;obtain⟨f0,f1,f2,f3,f4,f5⟩:=hf it (by simp);exact wpAny_pyNext_range_end (I.ok.hd hc) st (by have:n<=i:=hg;omega) fun h' eb=>⟨rfl,I.turned (t':=s.toks) (fun b o hb e=>eb b o hb e) f0 f1 f3 f4 f5⟩
 self:=fun _ _ _ _ _ st h=>wpAny_pyIter_rangeiter st h
end L2
namespace L2
open PySem PySem.Spec PyProof.Rows
section
variable {X:Cx}{tg:Expr}
theorem Cq{pins:List (Addr×Obj)}{σ:St}{H:Hp}{s:Shared}{R:It->Hp->Prop}{E:Value->Shared->Prop}{lo hi:Int}{t u v:Tok}{tk:Nat}(I:Inv X pins σ H s)(h1:-(2 ^62)<=lo)(h2:lo<2 ^62)(h3:-(2 ^62)<=hi)(h4:hi<2 ^62)
  (q:R (O5 lo (hi - lo).toNat) H):wpAny (model X.prog X.w) X.A (pyIter (.ref s.heap.objs.size)) (O2 X pins σ tg R) E {s with heap:=s.heap.push {cls:=.type "range",data:=.fields #[.int lo t,.int hi u,.int 1 v]},toks:=tk}:=by
 refine wpAny_pyIter_range (IsRange.new ..) (small_one h1 h2 h3 h4) ?_
 have I1:Inv X pins σ H {s with heap:=s.heap.push {cls:=.type "range",data:=.fields #[.int lo t,.int hi u,.int 1 v]},toks:=tk}:=I.kept fun b o e=>aD _ e;refine⟨(s.heap.push {cls:=.type "range",data:=.fields #[.int lo t,.int hi u,.int 1 v]}).objs.size,[(s.heap.push {cls:=.type "range",data:=.fields #[.int lo t,.int hi u,.int 1 v]}).objs.size],_,_,H,rfl,
  I1.kept (t':=tk) fun b o e=>aD _ e,xV _ lo (hi - lo).toNat,?_,fun b hb=>?_,q⟩
 ·have e1:lo+((0:Nat):Int)*1=lo:=by simp
  have e2:(((hi - lo).toNat:Nat):Int) - ((0:Nat):Int)=Builtin.Range.rangeSize lo hi 1:=by rw[rangeSize_one];split<;>omega
  show IsRangeIter _ _ (lo+((0:Nat):Int)*1) ((((hi - lo).toNat:Nat):Int) - ((0:Nat):Int)) 1;rw[e1,e2];exact aU _ rfl
 ·have e:b=(s.heap.push {cls:=.type "range",data:=.fields #[.int lo t,.int hi u,.int 1 v]}).objs.size:=by simpa using hb
  subst e;exact I1.uK (aA _) (I1.bQ.fresh (aA _))
def LM(ta:TA):TI:=fun σ H R=>ta σ H fun vs H1=>∃j:Int,vs=[.int j]/\-(2 ^62)<=j/\j<2 ^62/\R (O5 0 j.toNat) H1
theorem AL{a:Expr}{ta:TA}{p pos:Pos}(hg:Gl X "range")(hm:X.mg "range"=none)(ha:PA X [a] ta)(hs:starEach [a] X.env=[(false,eval a X.env)]:=by rfl):PI X tg (.Call (.Name "range" p) [a] [] pos) (LM ta):=by
 intro pins s σ H R I h;refine Call_ (nQ I hg hm boot_range (p8 (dY (ha pos pins s σ H _ I h) fun us s1 ⟨vs,H1,I1,r1,q1⟩=>?_) hs rfl));obtain⟨j,e,q1,q2,q⟩:=q1;subst e;cases r1 with
 |cons r rr=>
  cases rr;obtain⟨t,rfl⟩:=r;exact call_range_1 (Cq I1 (by omega) (by omega) q1 q2 (by simpa using q))
def Qz(wi:TI)(g:TG)(tb:TS):TS:=fun D σ H=>wi σ H fun J H1=>∃W:Nat->Nat->St->Hp->Prop,(∃m,W 0 m σ H1)/\∀i m σ H,W i m σ H->
 (J.stop i H/\D.nx σ H)\/(J.go i H/\∃N:St->Hp->Prop,(∀bK H',N bK H'->∃m',m'<m/\W (i+1) m' bK H')/\∀x H',J.xU i H x H'->g x σ H' fun pL H2=>tb {D with nx:=N,ct:=N,bk:=D.nx} pL H2)
def rf(fp:List Addr)(h:Heap):List (Addr×Obj):=fp.filterMap fun b=>(h.get? b).map fun o=>(b,o)
theorem jh{fp:List Addr}{h:Heap}{b:Addr}{o:Obj}(hb:b∈fp)(e:h.get? b=some o):(b,o)∈rf fp h:=jG.mpr ⟨b,hb,by rw[e];rfl⟩
theorem AM{fp:List Addr}{h:Heap}{p:Addr×Obj}(hp:p∈rf fp h):p.1∈fp/\h.get? p.1=some p.2:=by
 obtain⟨b,hb,e⟩:=jG.mp hp;cases q:h.get? b with
 |none=>rw[q]at e;cases e
 |some o=>
  rw[q]at e;have e':(b,o)=p:=Option.some.inj e;subst e';exact⟨hb,q⟩
theorem Inv.pinned {pins:List (Addr×Obj)}{σ:St}{H:Hp}{s:Shared}{fp:List Addr}(I:Inv X pins σ H s)(hf:∀b∈fp,jy X pins H b)(ho:∀b∈fp,∃o,s.heap.get? b=some o/\∀v,o.data≠ .cell v):Inv X (pins++rf fp s.heap) σ H s:=
 I.yZ fun p hp=>(d_.mp hp).elim (fun z=>I.pin p (eM _ z)) fun z=>by
   obtain⟨hb,e⟩:=AM z;obtain⟨f0,f1,f2,_⟩:=hf p.1 hb;obtain⟨o,e',d⟩:=ho p.1 hb;rw[e]at e';cases e';exact⟨e,f0,f1,f2,d⟩
theorem Inv.mL {pins pl:List (Addr×Obj)}{σ:St}{H:Hp}{s:Shared}(I:Inv X (pins++pl) σ H s):Inv X pins σ H s:=I.yZ fun p hp=>I.pin p (eM _ (l7 _ hp))
theorem uL{iter:Expr}{body:List Stmt}{wi:TI}{g:TG}{tb:TS}{pos:Pos}(hp:PassesOwn (model X.prog X.w) X.A X.env X.xe)(hc:X.calm=true)(hi:PI X tg iter wi)(hg:PG X tg g)(hb:jW X body tb)
  (hs:∀x,foldedSetIterable iter X.env x=pure x:=by intro _;rfl):PS X (.For tg iter body [] pos) (Qz wi g tb):=by
 intro pins s σ H D I h;refine wpAny_For (dY (hi pins s σ H _ I h) fun v s1 h1=>dY h1 fun O3 s2 h2=>?_) hs;obtain⟨it,fp,tn,J,H2,e,I2,T,EL,f2,W,⟨m0,w0⟩,turn⟩:=h2;subst e;have xW:∀{H':Hp},(∀b∈fp,H' b=none)->∀b∈fp,jy X pins H' b:=fun hn b hb=>⟨hn b hb,(f2 b hb).2⟩;refine codeAny_forLoop_any (fun n s'=>∃i bK H',Inv X pins bK H' s'/\tn i s'.heap/\(∀b∈fp,H' b=none)/\W i n bK H') ?_ m0 ⟨0,σ,H2,I2,EL,fun b hb=>(f2 b hb).1,w0⟩
 rintro n s3 ⟨i,xQ,H3,I3,Tp,Tq,w3⟩
 rcases turn i n xQ H3 w3 with⟨stop,qn⟩|⟨go,N,hN,step⟩
 ·refine gS hp (dY (T.done X rfl rfl rfl hc i pins s3 xQ H3 X.xe I3 (xW Tq) Tp stop) fun r s4 ⟨hr,I4⟩=>?_);subst hr;exact mz ⟨xQ,H3,I4,qn⟩
 ·refine gS hp (dY (T.item X rfl rfl rfl hc i pins s3 xQ H3 X.xe I3 (xW Tq) Tp go) fun r s4 ⟨u,hr,h4⟩=>?_);subst hr;refine gS hp (dY h4 fun _ s5 ⟨x,H5,I5,r5,y5,K2,O6⟩=>?_);have UO:=I5.pinned (xW O6) (T.obj _ _ K2);refine gS hp (dY (hg _ s5 xQ H5 x u _ UO r5 (step x H5 y5)) fun _ s6 ⟨UP,H6,I6,q6⟩=>?_);refine gS hp (dY (hb _ s6 UP H6 _ I6 q6) fun f s7 q7=>?_);have again:∀{Cr:St} {H7:Hp},Inv X (pins++rf fp s5.heap) Cr H7 s7->N Cr H7->∃m,m<n/\∃i bK H',Inv X pins bK H' s7/\tn i s7.heap/\(∀b∈fp,H' b=none)/\W i m bK H':=fun{Cr H7} I7 n7=>by
   obtain⟨m',hm,w7⟩:=hN Cr H7 n7;refine⟨m',hm,i+1,Cr,H7,I7.mL,T.keep _ _ _ K2 fun b hb o e=>(I7.pin (b,o) (eM _ (eM _ (jh hb e)))).1,fun b hb=>?_,w7⟩;obtain⟨o,e,d⟩:=T.obj _ _ K2 b hb;exact(I7.pin (b,o) (eM _ (eM _ (jh hb e)))).2.1
  cases f with
  |next=>obtain⟨Cr,H7,I7,n7⟩:=q7;exact again I7 n7
  |cont=>obtain⟨Cr,H7,I7,n7⟩:=q7;exact again I7 n7
  |brk=>obtain⟨Cr,H7,I7,q7⟩:=q7;exact⟨Cr,H7,I7.mL,q7⟩
  |ret v=>obtain⟨x7,Cr,H7,I7,r7,q7⟩:=q7;exact⟨x7,Cr,H7,I7.mL,r7,q7⟩
end
end L2
namespace L2
open PySem PySem.Spec PyProof.Rows
abbrev R2:=V->V->Hp->VK->Prop
def oP(X:Cx)(f:Value->Value->Sem Value)(r:R2):Prop:=
 ∀(pins:List (Addr×Obj)) (s:Shared) (σ:St) (H:Hp) (x y:V) (v u:Value) (Q:VK),Inv X pins σ H s->RelV x v->RelV y u->r x y H Q->
  wpAny (model X.prog X.w) X.A (f v u) (EP X pins σ Q) X.xe s
def e8(X:Cx)(f:Value)(r:List V->Hp->VK->Prop):Prop:=
 ∀(pins:List (Addr×Obj)) (s:Shared) (σ:St) (H:Hp) (xs:List V) (us:List Value) (Q:VK),Inv X pins σ H s->Vals xs us->r xs H Q->
  wpAny (model X.prog X.w) X.A (call f us) (EP X pins σ Q) X.xe s
def QC(X:Cx)(r:V->Hp->(Bool->Hp->Prop)->Prop):Prop:=
 ∀(pins:List (Addr×Obj)) (s:Shared) (σ:St) (H:Hp) (x:V) (v:Value) (Q:Bool->Hp->Prop),Inv X pins σ H s->RelV x v->r x H Q->
  wpAny (model X.prog X.w) X.A (truthy v) (TP X pins σ Q) X.xe s
def K3(r:R2)(ta tb:TE):TE:=fun σ H Q=>ta σ H fun x H1=>tb σ H1 fun y H2=>r x y H2 Q
def rI(C:Int->Int->Prop)(g:Int->Int->V):R2:=fun x y H Q=>∃i j,x=.int i/\y=.int j/\C i j/\Q (g i j) H
def LN(g:Int->Int->V):R2:=fun x y H Q=>∃i j,x=.int i/\y=.int j/\Q (g i j) H
section
variable {X:Cx}{a b c:Expr}{ta tb tc:TE}{pos:Pos}
theorem Ih(ha:PE X a ta)(hb:PE X b tb){pins:List (Addr×Obj)}{s:Shared}{σ:St}{H:Hp}{R:V->V->Hp->Prop}(I:Inv X pins σ H s)
  (h:ta σ H fun x H1=>tb σ H1 fun y H2=>R x y H2) {Q:Value->Shared->Prop} {f:Value->Value->Sem Value}
  (hf:∀v u s2 x y H2,Inv X pins σ H2 s2->RelV x v->RelV y u->R x y H2->wpAny (model X.prog X.w) X.A (f v u) Q X.xe s2):
  wpAny (model X.prog X.w) X.A (eval a X.env) (fun v bV=>wpAny (model X.prog X.w) X.A (eval b X.env) (fun u nR=>wpAny (model X.prog X.w) X.A (f v u) Q X.xe nR) X.xe bV) X.xe s:=by
 refine dY (ha pins s σ H _ I h) fun v s1 ⟨x,H1,I1,r1,q1⟩=>?_
 refine dY (hb pins s1 σ H1 _ I1 q1) fun u s2 ⟨y,H2,I2,r2,q2⟩=>?_
 exact hf v u s2 x y H2 I2 r1 r2 q2
theorem LO{op:Operator}{r:R2}(ho:oP X (binaryOp op) r)(ha:PE X a ta)(hb:PE X b tb):PE X (.BinOp a op b pos) (K3 r ta tb):=by
 intro pins s σ H Q I h;exact wpAny_BinOp (Ih ha hb I h fun v u s2 x y H2 I2 rx ry q=>ho pins s2 σ H2 x y v u Q I2 rx ry q)
theorem Ts{f:Value->Value->Sem Value}{C:Int->Int->Prop}{g:Int->Int->Int}
  (rule:∀(i j:Int) (t u:Tok) (s:Shared) (Q:Value->Shared->Prop) (E:Value->Shared->Prop),C i j->Q (.int (g i j) s.toks) {s with toks:=s.toks+1}->wpAny (model X.prog X.w) X.A (f (.int i t) (.int j u)) Q E s):
  oP X f (rI C fun i j=>.int (g i j)):=by
 intro pins s σ H x y v u Q I rx ry h;obtain⟨i,j,rfl,rfl,hc,q⟩:=h;obtain⟨t,rfl⟩:=rx;obtain⟨t',rfl⟩:=ry;exact rule i j t t' s _ _ hc ⟨.int (g i j),H,I.tok _,⟨_,rfl⟩,q⟩
theorem QH{f:Value->Value->Sem Value}{g:Int->Int->Int}
  (rule:∀(i j:Int) (t u:Tok) (s:Shared) (Q:Value->Shared->Prop) (E:Value->Shared->Prop),Q (.int (g i j) s.toks) {s with toks:=s.toks+1}->wpAny (model X.prog X.w) X.A (f (.int i t) (.int j u)) Q E s):
  oP X f (LN fun i j=>.int (g i j)):=by
 intro pins s σ H x y v u Q I rx ry h;obtain⟨i,j,rfl,rfl,q⟩:=h;obtain⟨t,rfl⟩:=rx;obtain⟨t',rfl⟩:=ry;exact rule i j t t' s _ _ ⟨.int (g i j),H,I.tok _,⟨_,rfl⟩,q⟩
theorem LP{f:Value->Value->Sem Value}{g:Int->Int->Bool}
  (rule:∀(i j:Int) (t u:Tok) (s:Shared) (Q:Value->Shared->Prop) (E:Value->Shared->Prop),Q (.bool (g i j)) s->wpAny (model X.prog X.w) X.A (f (.int i t) (.int j u)) Q E s):
  oP X f (LN fun i j=>.bl (g i j)):=by
 intro pins s σ H x y v u Q I rx ry h;obtain⟨i,j,rfl,rfl,q⟩:=h;obtain⟨t,rfl⟩:=rx;obtain⟨t',rfl⟩:=ry;exact rule i j t t' s _ _ ⟨.bl (g i j),H,I,rfl,q⟩
def Cs(i j:Int):Prop:=(-(2 ^64)<i/\i<2 ^64)\/(-(2 ^64)<j/\j<2 ^64)
theorem Cs.ok {i j:Int}(h:Cs i j):IntMulOk i j:=by
 rcases h with⟨h1,h2⟩|⟨h1,h2⟩
 ·exact .of_left (intBits_le_64 h1 h2)
 ·exact .of_right (intBits_le_64 h1 h2)
theorem Ii:oP X (binaryOp .Add) (LN fun i j=>.int (i+j)):=QH fun _ _ _ _ _ _ _ q=>add_int q
theorem Ij:oP X (binaryOp .Mult) (rI Cs fun i j=>.int (i*j)):=Ts fun _ _ _ _ _ _ _ hc q=>mul_int q hc.ok
theorem Ik:oP X (binaryOp .Mod) (rI (fun _ j=>0<j) fun i j=>.int (i % j)):=Ts fun i j _ _ _ _ _ hc q=>by
 have h1:(0:Int)<j:=hc;exact mod_int' (by omega) (by rw[Int.fmod_eq_emod_of_nonneg i (by omega)];exact q)
end
section
variable {X:Cx}{a b c:Expr}{ta tb tc:TE}{pos:Pos}
theorem xX{pins:List (Addr×Obj)}{σ:St}{H:Hp}{s:Shared}{Q:VK}{k k':Bool}(I:Inv X pins σ H s)(q:Q (.bl k) H)(e:k=k'):EP X pins σ Q (.bool k') s:=by
 subst e;exact⟨.bl k,H,I,rfl,q⟩
theorem LQ:oP X (compareOp .Lt) (LN fun i j=>.bl (decide (i<j))):=LP fun _ _ _ _ _ _ _ q=>lt_int q
theorem LR:oP X (compareOp .Gt) (LN fun i j=>.bl (decide (j<i))):=LP fun _ _ _ _ _ _ _ q=>gt_int q
theorem AN:oP X (compareOp .Lt) (fun x y H Q=>∃i j,x=.str i/\y=.str j/\Q (.bl (decide (i.cps.toList<j.cps.toList))) H):=by
 intro pins s σ H x y v u Q I rx ry h;obtain⟨i,j,rfl,rfl,q⟩:=h;obtain⟨t,rfl⟩:=rx;obtain⟨t',rfl⟩:=ry;exact lt_str (xX I q rfl)
theorem Il:oP X (compareOp .Is) (fun x y H Q=>y=.cq/\Q (.bl (decide (x=.cq))) H):=by
 intro pins s σ H x y v u Q I rx ry h;obtain⟨rfl,q⟩:=h;cases ry;refine is_none_gen (xX I q ?_);cases x<;>first
  |(cases rx;rfl)
  |(obtain⟨t,rfl⟩:=rx;rfl)
theorem oP.or {f:Value->Value->Sem Value}{r r':R2}(h:oP X f r)(h':oP X f r'):oP X f (fun x y H Q=>r x y H Q\/r' x y H Q):=by
 intro pins s σ H x y v u Q I rx ry q;rcases q with q|q
 ·exact h pins s σ H x y v u Q I rx ry q
 ·exact h' pins s σ H x y v u Q I rx ry q
theorem jY(b:Expr){op:CmpOp}(h:op≠ .In:=by decide) (h2:op≠ .NotIn:=by decide):behindInMarks op b=false:=by
 have e1:(op==CmpOp.In)=false:=by cases op<;>first|rfl|exact absurd rfl h
 have e2:(op==CmpOp.NotIn)=false:=by cases op<;>first|rfl|exact absurd rfl h2
 cases b<;>simp[behindInMarks,e1,e2]
theorem y4{op:CmpOp}{r:R2}(ho:oP X (compareOp op) r)(ha:PE X a ta)(hb:PE X b tb)(hm:behindInMarks op b=false):PE X (.Compare a [op] [b] pos) (K3 r ta tb):=by
 intro pins s σ H Q I h;exact wpAny_Compare1 (Ih ha hb I h fun v u s2 x y H2 I2 rx ry q=>ho pins s2 σ H2 x y v u Q I2 rx ry q) hm
def LS(t:TE):TT:=fun σ H Q=>t σ H fun x H'=>∃k,x=.bl k/\Q k H'
theorem y6{op:CmpOp}{r:R2}(ho:oP X (compareOp op) r)(ha:PE X a ta)(hb:PE X b tb)(hm:behindInMarks op b=false):PT X (.Compare a [op] [b] pos) (LS (K3 r ta tb)):=by
 intro pins s σ H Q I h;refine wpAny_isTrue_Compare1 (dY (ha pins s σ H _ I h) fun v s1 ⟨x,H1,I1,r1,q1⟩=>dY (hb pins s1 σ H1 _ I1 q1) fun u s2 ⟨y,H2,I2,r2,q2⟩=>
  dY (ho pins s2 σ H2 x y v u _ I2 r1 r2 q2) fun c s3 ⟨z,H3,I3,r3,k,e,q3⟩=>?_) hm
 subst e;cases r3;exact jK ⟨H3,I3,q3⟩
def EM(K:PySem.W.Frag)(x:V)(H:Hp)(k:Bool):Prop:=
 match x with
 |.cq=>k=false
 |.bl b=>k=b
 |.int i=>k=(i !=0)
 |.str y=>y.length<=sizeLine/\k=((y.length:Int) !=0)
 |.HU y=>y.size<=sizeLine/\k=((y.size:Int) !=0)
 |.ref p=>(∃xs,iN K H p xs/\k=!xs.isEmpty)\/(∃xs,hZ K H p xs/\k=!xs.isEmpty)\/∃aw,Rd H p (.dK aw)/\k=!aw.isEmpty
 |_=>False
theorem xY{κ:Type}{aw:List (κ×V)}{vs:List (κ×Value)}(r:KV aw vs):(!vs.isEmpty)=!aw.isEmpty:=by
 cases r<;>rfl
theorem rg{xs:List V}{aY:List Value}(r:Vals xs aY):(!aY.toArray.isEmpty)=!xs.isEmpty:=by
 cases r<;>simp
theorem rh:(sizeLine:Nat)<2 ^63:=by rw[bS];decide
theorem Ct:QC X (fun x H Q=>∃k,EM X.K x H k/\Q k H):=by
 intro pins s σ H x v Q I rx h;obtain⟨k,e,q⟩:=h;have hl:=rh;have hs:sizeLine=16777216:=bS;cases x with
 |cq=>
  cases rx;have e':k=false:=e;subst e';exact truthy_none ⟨H,I,q⟩
 |bl b=>
  cases rx;have e':k=b:=e;subst e';exact jK ⟨H,I,q⟩
 |int i=>
  obtain⟨t,rfl⟩:=rx;have e':k=(i !=0):=e;subst e';exact PySem.P.truthy_int ⟨H,I,q⟩
 |str y=>
  obtain⟨t,rfl⟩:=rx;obtain⟨hy,e'⟩:y.length<=sizeLine/\k=((y.length:Int) !=0):=e;subst e';exact PySem.P.truthy_str (by omega) ⟨H,I.tok _,q⟩
 |HU y=>
  obtain⟨t,rfl⟩:=rx;obtain⟨hy,e'⟩:y.size<=sizeLine/\k=((y.size:Int) !=0):=e;subst e';exact PySem.W.truthy_bytes (by omega) ⟨H,I.tok _,q⟩
 |ref p=>
  cases rx;have e':(∃xs,iN X.K H p xs/\k=!xs.isEmpty)\/(∃xs,hZ X.K H p xs/\k=!xs.isEmpty)\/∃aw,Rd H p (.dK aw)/\k=!aw.isEmpty:=e;rcases e' with⟨xs,hx,e'⟩|⟨xs,hx,e'⟩|⟨aw,hx,e'⟩
  ·subst e';obtain⟨aY,r,pl,hz⟩:=I.list hx;have hlen:=r.length;exact wpAny_truthy_list pl.isList (by simp only[bf];omega) ⟨H,I.tok _,by rw[rg r];exact q⟩
  ·subst e';obtain⟨aY,r,pl,hz⟩:=I.tuple hx;have hlen:=r.length;exact truthy_tuple pl (by simp only[bf];omega) ⟨H,I.tok _,by rw[rg r];exact q⟩
  ·subst e';obtain⟨hz,hS,vs,r,m⟩:aw.length<=sizeLine/\(p==sysModules)=false/\∃vs,KV aw vs/\s.heap.DictOf (az X.prog X.w) p vs:=hx.ok I.bQ;have hlen:aw.length=vs.length:=Paired.length r;exact wpAny_truthy_dict hS m (by omega) ⟨H,I.tok _,by rw[xY r];exact q⟩
 |_=>exact(show False from e).elim
theorem v3(ha:PE X a ta)(he:∀whole,isTrue a X.env whole=(do let v<-whole;standAt a.pos;holding [v] (truthy v))):
  PT X a (fun σ H Q=>ta σ H fun x H'=>∃k,EM X.K x H' k/\Q k H'):=by
 intro pins s σ H Q I h;exact isTrue_plain (dY (ha pins s σ H _ I h) fun v s1 ⟨x,H1,I1,r1,q1⟩=>Ct pins s1 σ H1 x v Q I1 r1 q1) (he _)
theorem xZ:oP X (binaryOp .Add) (fun x y H Q=>∃i j,x=.str i/\y=.str j/\i.length+j.length<=sizeLine/\Q (.str (i++j)) H):=by
 intro pins s σ H x y v u Q I rx ry h;obtain⟨i,j,rfl,rfl,hz,q⟩:=h;obtain⟨t,rfl⟩:=rx;obtain⟨t',rfl⟩:=ry;exact add_str (fun t' tk=>⟨.str (i++j),H,I.tok _,⟨_,rfl⟩,q⟩) hz
theorem vals1{x:V}{us:List Value}(r:Vals [x] us):∃u,us=[u]/\RelV x u:=by
 cases r with
 |cons r1 r2=>cases r2;exact⟨_,rfl,r1⟩
theorem vals2{x y:V}{us:List Value}(r:Vals [x,y] us):∃u w',us=[u,w']/\RelV x u/\RelV y w':=by
 cases r with
 |cons r1 r2=>
  cases r2 with
  |cons r3 r4=>cases r4;exact⟨_,_,rfl,r1,r3⟩
def QK(K:PySem.W.Frag)(x:V)(H:Hp)(n:Nat):Prop:=
 match x with
 |.str y=>y.length<=sizeLine/\n=y.length
 |.HU y=>y.size<=sizeLine/\n=y.size
 |.ref p=>(∃xs,iN K H p xs/\n=xs.length)\/∃xs,hZ K H p xs/\n=xs.length
 |_=>False
theorem mM:e8 X (.builtin "len") (fun xs H Q=>∃x n,xs=[x]/\QK X.K x H n/\Q (.int n) H):=by
 intro pins s σ H xs us Q I r h;obtain⟨x,n,rfl,e,q⟩:=h;obtain⟨u,rfl,rx⟩:=vals1 r;have hl:=rh;have hs:sizeLine=16777216:=bS;cases x with
 |str y=>
  obtain⟨t,rfl⟩:=rx;obtain⟨hy,e'⟩:y.length<=sizeLine/\n=y.length:=e;subst e';exact len_str (by omega) ⟨.int _,H,I.tok _,⟨_,rfl⟩,q⟩
 |HU y=>
  obtain⟨t,rfl⟩:=rx;obtain⟨hy,e'⟩:y.size<=sizeLine/\n=y.size:=e;subst e';exact PySem.W.len_bytes (by omega) ⟨.int _,H,I.tok _,⟨_,rfl⟩,q⟩
 |ref p=>
  cases rx;have e':(∃xs,iN X.K H p xs/\n=xs.length)\/∃xs,hZ X.K H p xs/\n=xs.length:=e;rcases e' with⟨xs,hx,e'⟩|⟨xs,hx,e'⟩
  ·subst e';obtain⟨aY,r',pl,hz⟩:=I.list hx;have hlen:=r'.length;exact Calls.call_len_list pl.isList (by simp only[bf];omega) ⟨.int xs.length,H,I.tok _,⟨_,by simp only[bf];rw[hlen]⟩,q⟩
  ·subst e';obtain⟨aY,r',pl,hz⟩:=I.tuple hx;have hlen:=r'.length;exact len_tuple pl (by simp only[bf];omega) ⟨.int xs.length,H,I.tok _,⟨_,by simp only[bf];rw[hlen]⟩,q⟩
 |_=>exact(show False from e).elim
end
end L2
namespace L2
open PySem PySem.Spec PyProof.Rows
structure Im(h:Heap)(x dx C:Addr)(mA:Str->Option Value):Prop where
 obj:h.get? x=some (PySem.W.instObj C dx)
 ns:h.Ns1 dx mA
 ne:dx≠x
theorem AO{h:Heap}{dx:Addr}{mA:Str->Option Value}(n:h.Ns1 dx mA):∃od,h.get? dx=some od/\∀name,PySem.W.lookIn name od=some (mA name):=by
 obtain⟨o,es,ep,ho,hd,hk,_,hm⟩:=n;refine⟨o,ho,fun name=>?_⟩;have e:=hm name;unfold nsFind findBy at e;rw[<-Array.find?_toList]at e;unfold PySem.W.lookIn;rw[hd];dsimp only;split
 ·rename_i y q;rw[q]at e;exact bT some e
 ·rename_i q;rw[q]at e;have a:es.toList.any (·.refKey)=false:=by
   rw[List.any_eq_false];intro y hy;obtain⟨z,t,EN⟩:=hk y (qv.mp hy);simp[DictEntry.refKey,EN]
  have a':¬es.toList.any (·.refKey)=true:=by rw[a];exact cR
  rw[ae a'];exact bT some e
theorem Im.look {h:Heap}{x dx C:Addr}{mA:Str->Option Value}(I:Im h x dx C mA):∃od,PySem.W.InstAt h x (PySem.W.instObj C dx) C (some od)/\∀name,PySem.W.lookIn name od=some (mA name):=
 let⟨od,ho,hl⟩:=AO I.ns
 ⟨od,⟨I.obj,rfl,rfl,ho⟩,hl⟩
theorem nO.some_of {v:V}{o:Option Value}(r:nO (some v) o):∃u,o=some u/\RelV v u:=by
 cases o with
 |none=>exact(show False from r).elim
 |some u=>exact⟨u,rfl,r⟩
section
variable {P:Program}{w:World}{H H':Hp}{h h':Heap}{a C dx:Addr}{fs AH:List (Str×V)}
theorem EO(bQ:la P w H h)(e:H a=some (.ins C dx fs)):∃mA,Im h a dx C mA/\(∀f,nO (fs.lookup f) (mA f))/\PySem.Within mA (fs.map (·.1))/\fs.length<=1000/\H dx=some (.own a):=by
 obtain⟨d,z,ne,ob,mA,n,r,q⟩:=(show bu P w H h a (.ins C dx fs)from bQ a _ e);exact⟨mA,⟨ob,n,ne⟩,r,q,z,d⟩
end
structure K4(K:PySem.W.Frag)(C:Addr):Prop where
 pg:PySem.W.plainGet K C Str.empty=true
 hd:PySem.W.hasDictIn K C=true
 po:PySem.W.plainOver K C=true
 sa:PySem.W.findIn K (.ref C) "__setattr__"=some (some (.builtin "object.__setattr__"))
theorem K4.get {K:PySem.W.Frag}{C:Addr}(c:K4 K C)(f:Str):PySem.W.plainGet K C f=true:=c.pg
def Io(K:PySem.W.Frag)(C:Addr)(f:Str):Prop:=PySem.W.findIn K (.ref C) f=some none
structure Meth(K:PySem.W.Frag)(C:Addr)(m:Str)(f:Addr):Prop where
 at_:PySem.W.findIn K (.ref C) m=some (some (.ref f))
 fn:PySem.W.isFn K (.ref f)=true
 kp:PySem.W.keepIn K (.ref f)=true
def Ip(X:Cx)(op:Operator)(rd:V->V->Hp->VK->Prop):Prop:=
 ∀(pins:List (Addr×Obj)) (s:Shared) (σ:St) (H:Hp) (x y:V) (u v:Value) (Q:VK),Inv X pins σ H s->RelV x u->RelV y v->rd x y H Q->wpAny (model X.prog X.w) X.A (inplaceOp op u v) (EP X pins σ Q) X.xe s
section
variable {X:Cx}{o e value:Expr}{f:Str}{pos pos' v5:Pos}{ta tv:TE}
def QL:V->V->Hp->VK->Prop:=fun x y H Q=>∃i j,x=.int i/\y=.int j/\Q (.int (i+j)) H
def QM:V->V->Hp->VK->Prop:=fun x y H Q=>∃i j,x=.int i/\y=.int j/\Q (.int (i - j)) H
theorem Iq:Ip X .Add QL:=by
 rintro pins s σ H x y u v Q I rx ry ⟨i,j,rfl,rfl,q⟩
 obtain⟨t,rfl⟩:=(show∃t,u=Value.int i t from rx);obtain⟨t',rfl⟩:=(show∃t',v=Value.int j t' from ry);exact PyProof.Rows.iadd_int ⟨.int (i+j),H,I.tok _,⟨_,rfl⟩,q⟩
theorem Ir:Ip X .Sub QM:=by
 rintro pins s σ H x y u v Q I rx ry ⟨i,j,rfl,rfl,q⟩
 obtain⟨t,rfl⟩:=(show∃t,u=Value.int i t from rx);obtain⟨t',rfl⟩:=(show∃t',v=Value.int j t' from ry);exact PyProof.Rows.isub_int ⟨.int (i - j),H,I.tok _,⟨_,rfl⟩,q⟩
end
section
variable {X:Cx}{pins:List (Addr×Obj)}{σ:St}{H:Hp}{s:Shared}{A:Around}{E:Value->Shared->Prop}{Q:Value->Shared->Prop}{c:Value}{b:Bool}
inductive mN(K:PySem.W.Frag)(H:Hp):V->Value->Prop where
 |cq:mN K H .cq (.type "NoneType")
 |bl (x:Bool):mN K H (.bl x) (.type "bool")
 |int (i:Int):mN K H (.int i) (.type "int")
 |str (x:Str):mN K H (.str x) (.type "str")
 |GH (x:UInt64):mN K H (.GH x) (.type "float")
 |lst {a:Addr} {xs:List V} (e:H a=some (.lst xs)):mN K H (.ref a) (.type "list")
 |fZ {a:Addr} {o:Obj} {xs:List V} (e:H a=some (.fZ o (.lst xs))):mN K H (.ref a) (.type "list")
 |tup {a:Addr} {xs:List V} (e:H a=some (.tup xs)):mN K H (.ref a) (.type "tuple")
 |dK {a:Addr} {aw:List (Key×V)} (e:H a=some (.dK aw)):mN K H (.ref a) (.type "dict")
 |dT {a:Addr} {aw:List (List Key×V)} (e:H a=some (.dT aw)):mN K H (.ref a) (.type "dict")
 |ins {a C dx:Addr} {fs:List (Str×V)} (e:H a=some (.ins C dx fs)) (cl:K4 K C) (ha:PySem.W.findIn K (.ref C) "__class__"=some (some (.builtin "object.__class__")))
   (hn:PySem.W.specialIn K (.builtin "object.__class__") "__get__"=some (some (.builtin "getset_descriptor.__get__"))) (Tt:PySem.W.takesIn K (.builtin "object.__class__")=some true)
   (hm:PySem.W.mroIn K C (.type "object")=some true):mN K H (.ref a) (.ref C)
theorem iO{x:V}{u t:Value}(I:Inv X pins σ H s)(rx:RelV x u)(ty:mN X.K H x t)(e:PySem.W.kitOne X.K t c=some b)(h:∀tk,Q (.bool b) {s with toks:=tk}):
  wpAny (model X.prog X.w) A (call (.builtin "isinstance") [u,c]) Q E s:=by
 cases ty with
 |cq=>cases(show u=Value.none from rx);exact cT PySem.W.kitx_none I.o6 True.intro e (fun z=>nomatch z) h
 |bl y=>cases(show u=Value.bool y from rx);exact cT PySem.W.kitx_bool I.o6 True.intro e (fun z=>nomatch z) h
 |int i=>obtain⟨t,q⟩:=(show∃t,u=Value.int i t from rx);cases q;exact cT PySem.W.kitx_int I.o6 True.intro e (fun z=>nomatch z) h
 |str y=>obtain⟨t,q⟩:=(show∃t,u=Value.str y t from rx);cases q;exact cT PySem.W.kitx_str I.o6 True.intro e (fun z=>nomatch z) h
 |GH y=>obtain⟨t,q⟩:=(show∃t,u=Value.float y t from rx);cases q;exact cT PySem.W.kitx_float I.o6 True.intro e (fun z=>nomatch z) h
 |@lst a xs ea=>
  cases(show u=Value.ref a from rx);obtain⟨_,_,n,_,h1⟩:=(show bu X.prog X.w H s.heap a (.lst xs)from I.bQ a _ ea);exact cT qF I.o6 ⟨_,h1,rfl⟩ e (fun z=>nomatch z) h
 |@fZ a ob xs ea=>
  cases(show u=Value.ref a from rx);obtain⟨_,_,_,n,_,h1⟩:=(show bu X.prog X.w H s.heap a (.fZ ob (.lst xs))from I.bQ a _ ea);exact cT qF I.o6 ⟨_,h1,rfl⟩ e (fun z=>nomatch z) h
 |@tup a xs ea=>
  cases(show u=Value.ref a from rx);obtain⟨_,_,_,p⟩:=(show bu X.prog X.w H s.heap a (.tup xs)from I.bQ a _ ea);obtain⟨o,h1,h2,_⟩:=p;exact cT PySem.W.kitx_tuple I.o6 ⟨o,h1,h2⟩ e (fun z=>nomatch z) h
 |@dK a aw ea=>
  cases(show u=Value.ref a from rx);obtain⟨_,_,vs,_,p⟩:=(show bu X.prog X.w H s.heap a (.dK aw)from I.bQ a _ ea);obtain⟨o,es,ep,h1,h2,_⟩:=p;exact cT md I.o6 ⟨o,h1,h2.1⟩ e (fun z=>nomatch z) h
 |@dT a aw ea=>
  cases(show u=Value.ref a from rx);obtain⟨_,_,xs,_,o,es,ep,h1,h2,_⟩:=(show bu X.prog X.w H s.heap a (.dT aw)from I.bQ a _ ea);exact cT md I.o6 ⟨o,h1,h2.1⟩ e (fun z=>nomatch z) h
 |@ins a C dx fs ea cl ha hn Tt hm=>
  cases(show u=Value.ref a from rx);obtain⟨mA,O,_⟩:=EO I.bQ ea;obtain⟨od,J,_⟩:=O.look;exact cT (PySem.W.kitx_own (cl.get _) cl.hd ha hn Tt hm) I.o6 J e (fun z=>nomatch z) h
end
end L2
namespace L2
open PySem PySem.Spec PyProof.Rows
structure dA(k:Nat)(A:Around):Prop where
 hd:A.handled=none
 dp:A.depth+3*k+5<recursionLimit
 un:A.units+16*k+200<cLine
theorem dA.mono {j k:Nat}{A:Around}(r:dA k A)(h:j<=k):dA j A:=⟨r.hd,by have:=r.dp;omega,by have:=r.un;omega⟩
theorem dA.deeper {k:Nat}{A:Around}(r:dA (k+1) A)(env:Env):dA k (A.deeper env):=
 ⟨r.hd,by have:=r.dp;show A.depth+1+3*k+5<_;omega,by have:=r.un;show A.units+3+16*k+200<_;omega⟩
theorem dA.depth {k:Nat}{A:Around}(r:dA k A):A.depth<recursionLimit:=by have:=r.dp;omega
theorem dA.units {k:Nat}{A:Around}(r:dA k A):A.units+64<cLine:=by have:=r.un;omega
def QN:TA:=fun _ H Q=>Q [] H
def LU(ta:TE)(tr:TA):TA:=fun σ H Q=>ta σ H fun x H1=>tr σ H1 fun xs H2=>Q (x::xs) H2
section
variable {X:Cx}{e:Expr}{es:List Expr}{te:TE}{t:TA}{pos:Pos}
theorem nT:PA X [] QN:=fun _ _ _ _ H Q I h=>qW ⟨[],H,I,.nil,h⟩
theorem kN(ha:PE X e te)(hr:PA X es t)(hs:starEach (e::es) X.env=(false,eval e X.env)::starEach es X.env:=by rfl):PA X (e::es) (LU te t):=by
 intro pos pins s σ H Q I h;rw[hs];show wpAny _ _ (spliced ((false,eval e X.env)::backTo pos (starEach es X.env))) _ _ s;refine mf (dY (ha pins s σ H _ I h) fun u s1 ⟨x,H1,I1,r1,q1⟩=>?_);exact dY (hr pos pins s1 σ H1 _ I1 q1) fun us s2 ⟨xs,H2,I2,r2,q2⟩=>⟨x::xs,H2,I2,.cons r1 r2,q2⟩
def QO(t:TA):TE:=fun σ H Q=>t σ H fun xs H1=>xs.length<=sizeLine/\∀p,H1 p=none->Q (.ref p) (upd H1 p (.tup xs))
def QP(t:TA):TE:=fun σ H Q=>t σ H fun xs H1=>xs.length<=sizeLine/\∀p,H1 p=none->Q (.ref p) (upd H1 p (.lst xs))
theorem Cu{x1}(h:PA X es t):PE X (.Tuple es x1 pos) (QO t):=by
 intro pins s σ H Q I hq;refine wpAny_Tuple_spliced (dY (h pos pins s σ H _ I hq) fun us s1 ⟨xs,H1,I1,r,z,q⟩=>⟨by rw[<-r.length];exact z,?_⟩);have hf:H1 s1.heap.objs.size=none:=I1.bQ.fresh (aA _);refine⟨.ref s1.heap.objs.size,upd H1 s1.heap.objs.size (.tup xs),I1.laid (t':=s1.toks) (fun b u e=>aD _ e) (aA _) ?_,rfl,q _ hf⟩;exact⟨z,us,r,⟨_,aU _ rfl,rfl,_,rfl,rfl⟩⟩
theorem Cv(h:PA X es t):PE X (.List es pos) (QP t):=by
 intro pins s σ H Q I hq;refine wpAny_List_spliced (dY (h pos pins s σ H _ I hq) fun us s1 ⟨xs,H1,I1,r,z,q⟩=>⟨by rw[<-r.length];exact z,?_⟩);have hf:H1 s1.heap.objs.size=none:=I1.bQ.fresh (aA _);refine⟨.ref s1.heap.objs.size,upd H1 s1.heap.objs.size (.lst xs),I1.laid (t':=s1.toks) (fun b u e=>aD _ e) (aA _) ?_,rfl,q _ hf⟩;exact⟨z,us,0,r,aU _ rfl⟩
end
abbrev Sp:=List V->Hp->VK->XK->Prop
abbrev x6:=List Env->Hp->Shared->XK->Value->Shared->Prop
structure ER(P:Program)(w:World)(K:PySem.W.Frag)(mg:Str->Option Value)(base:Heap)(A:Around)(outer:List Env)(s:Shared)(H:Hp):Prop where
 frames:A.frames=some outer
 mod:Mod K mg base
 bs:∀b o,base.get? b=some o->s.heap.get? b=some o/\H b=none
 GI:base.objs.size<=s.heap.objs.size
 q_:s.heap.FunFrames base outer
 KU:∀b∈mK outer,H b=none
 bQ:la P w H s.heap
 bare:AllBare s.gens
def CE(outer:List Env)(P:Program)(w:World)(H:Hp)(s:Shared)(Q:VK)(u:Value)(s':Shared):Prop:=
 ∃v H',s'.os=s.os/\AllBare s'.gens/\Un (mK outer) [] H H' s.heap s'.heap/\la P w H' s'.heap/\RelV v u/\Q v H'
def CR(CX:x6)(outer:List Env)(P:Program)(w:World)(H:Hp)(s:Shared)(Q:VK)(E:XK)(r:Result)(s':Shared):Prop:=
 match r with
 |.ok (.ret u)=>CE outer P w H s Q u s'
 |.ok _=>False
 |.error e=>CX outer H s E e s'
structure f6(P:Program)(w:World)(K:PySem.W.Frag)(mg:Str->Option Value)(base:Heap)(CX:x6)(k:Nat)(f:Addr)(fd:FuncData)(ps:List Str)(sp:Sp):Prop where
 len:∀vs H Q E,sp vs H Q E->vs.length=ps.length
 run:∀(A:Around) (outer:List Env) (s:Shared) (H:Hp) (args:Args) (us:List Value) (vs:List V) (Q:VK) (E:XK),dA k A->ER P w K mg base A outer s H->BindsTo s fd args (ps.zip us)->Vals vs us->sp vs H Q E->
  codeAny (model P w) A (.call (.ref f) args) (CR CX outer P w H s Q E) s
theorem f6.mono {P:Program}{w:World}{K:PySem.W.Frag}{mg:Str->Option Value}{base:Heap}{CX:x6}{j k:Nat}{f:Addr}{fd:FuncData}{ps:List Str}{sp:Sp}(F:f6 P w K mg base CX j f fd ps sp)(h:j<=k):
  f6 P w K mg base CX k f fd ps sp:=⟨F.len,fun A outer s H args us vs Q E hr=>F.run A outer s H args us vs Q E (hr.mono h)⟩
section
variable {X:Cx}{pins:List (Addr×Obj)}{σ:St}{H:Hp}{s s':Shared}
theorem Inv.QQ (I:Inv X pins σ H s):ER X.prog X.w X.K X.mg X.base X.A X.stack s H:=
 ⟨I.ok.frames,I.ok.mod,I.bs,bp I.ok.GI I.sz,I.stack,I.uH,I.bQ,I.bare⟩
theorem Inv.after {Q:VK}{u:Value}(I:Inv X pins σ H s)(h:CE X.stack X.prog X.w H s Q u s'):EP X pins σ Q u s':=by
 obtain⟨v,H',os,bare,un,bQ,r,q⟩:=h;obtain⟨hh,g,d,t,UQ⟩:=s';obtain rfl:UQ=s.os:=os;exact⟨v,H',I.call (h':=hh) (g':=g) (d':=d) (t':=t) (ch:=[]) un bQ bare (fun b z=>absurd z (by simp)),r,q⟩
end
def GN(sp:Sp)(GO:List V)(E:XK)(t:TA):TE:=fun σ H Q=>t σ H fun vs H1=>sp (vs++GO) H1 Q E
def Binds(K:PySem.W.Frag)(fd:FuncData)(ps:List Str)(ds:List Value):Prop:=
 ∀(s:Shared) (us:List Value),K.In s.heap->(us++ds).length=ps.length->BindsTo s fd ⟨us,[]⟩ (ps.zip (us++ds))
theorem Binds.all {K:PySem.W.Frag}{fd:FuncData}{ps:List Str}(h:∀us:List Value,us.length=ps.length->bindArgs fd ⟨us,[]⟩=pure (ps.zip us)):Binds K fd ps []:=fun s us _ hl=>by
 rw[cU]at hl⊢;exact .of_eq (h us hl)
def Passes(CX:x6)(X:Cx)(E:XK):Prop:=∀(pins:List (Addr×Obj)) (σ:St) (H:Hp) (s:Shared) (e:Value) (s':Shared),Inv X pins σ H s->CX X.stack H s E e s'->X.xe e s'
section
variable {X:Cx}{CX:x6}{k:Nat}{f C:Addr}{fd:FuncData}{ps:List Str}{sp:Sp}{GO:List V}{ds:List Value}{E:XK}{x m:Str}{p pos apos:Pos}{e o:Expr}{es:List Expr}{ta:TE}{t:TA}
theorem Iu{pins:List (Addr×Obj)}{σ:St}{H:Hp}{s:Shared}{Q:VK}{us:List Value}{vs:List V}(F:f6 X.prog X.w X.K X.mg X.base CX k f fd ps sp)(hr:dA k X.A)(hb:Binds X.K fd ps ds)(hd:Vals GO ds)(hx:Passes CX X E)
  (I:Inv X pins σ H s) (r:Vals vs us) (h:sp (vs++GO) H Q E):wpAny (model X.prog X.w) X.A (call (.ref f) us) (EP X pins σ Q) X.xe s:=by
 have r2:Vals (vs++GO) (us++ds):=r.append hd;have hl:(us++ds).length=ps.length:=by rw[<-r2.length];exact F.len _ _ _ _ h
 refine wpAny_call (fV (F.run X.A X.stack s H ⟨us,[]⟩ (us++ds) (vs++GO) Q E hr I.QQ (hb s us I.o6 hl) r2 h) fun r s' hq=>?_);cases r with
 |error e=>exact hx pins σ H s e s' I hq
 |ok fl=>
  cases fl with
  |ret u=>exact I.after hq
  |next=>exact False.elim hq
  |brk=>exact False.elim hq
  |cont=>exact False.elim hq
theorem y8(F:f6 X.prog X.w X.K X.mg X.base CX k f fd ps sp)(hr:dA k X.A)(hg:Gl X x)(hm:X.mg x=some (.ref f))(hk:PySem.W.keepIn X.K (.ref f)=true)(hb:Binds X.K fd ps ds)(hd:Vals GO ds)(hx:Passes CX X E)
  (ha:PA X (e::es) t) (ji:(x==("__debug__":Str))=false:=by decide) (he:starEach (e::es) X.env=(false,eval e X.env)::starEach es X.env:=by rfl) (o8:(backTo pos (starEach es X.env)).any (·.1)=false:=by rfl):
  PE X (.Call (.Name x p) (e::es) [] pos) (GN sp GO E t):=by
 intro pins s σ H Q I h;refine mh (EG I hg hm ?_ ji);refine PySem.W.callWith_K (h₀:=X.base) I.ok.mod.LA hk (dY (ha pos pins s σ H _ I h) fun us s1 ⟨vs,H1,I1,r,q⟩=>⟨I1.o6,?_⟩) he o8;exact Iu F hr hb hd hx I1 r q
structure Mk(K:PySem.W.Frag)(C f:Addr):Prop where
 makes:PySem.W.makesIn K C=true
 init:PySem.W.findIn K (.ref C) "__init__"=some (some (.ref f))
 fn:PySem.W.isFn K (.ref f)=true
 kp:PySem.W.keepIn K (.ref C)=true
end
structure dR(N P:List Str)(sc:Scope):Prop where
 kind:sc.kind=.function
 co:sc.isCoroutine=false
 gen:sc.isGenerator=false
 nd:N.Nodup
 pre:N.take P.length=P
 par:∀x∈P,sc.names.lookup x=some .local\/sc.names.lookup x=some .cell
 Iv:∀y∈sc.names,y.2≠ .free
theorem tm{kindOf:Str->Option NameKind}{x:Str}:∀{binds:List (Str×Value)} {m:Str->Option Value},(∀v,(x,v)∉binds)->bindL kindOf binds m x=m x
 |[],_,_=>rfl
 |(n,v)::r,m,h=>by
  unfold bindL;rw[tm fun w hw=>h w (aV _ hw)];split
  ·have:x≠n:=by rintro rfl;exact h v aW
   simp[this]
  ·rfl
theorem tw{kindOf:Str->Option NameKind}{x:Str}:∀{binds:List (Str×Value)} {m:Str->Option Value},(∀v,(x,v)∉binds)->bindC kindOf binds m x=m x
 |[],_,_=>rfl
 |(n,v)::r,m,h=>by
  unfold bindC;rw[tw fun w hw=>h w (aV _ hw)];split
  ·rfl
  ·have:x≠n:=by rintro rfl;exact h v aW
   simp[this]
theorem tD{kindOf:Str->Option NameKind}{x:Str}{v:Value}:∀{P:List Str} {vs:List Value} {i:Nat} {m:Str->Option Value},P.Nodup->P[i]?=some x->vs[i]?=some v->kindOf x=some .local->
  bindL kindOf (P.zip vs) m x=some v
 |[],_,_,_,_,h,_,_=>by simp at h
 |_::_,[],_,_,_,_,h,_=>by simp at h
 |p::P,w::vs,0,m,nd,h1,h2,hk=>by
  simp at h1 h2;subst h1;subst h2;show bindL kindOf ((p,w)::P.zip vs) m p=_;unfold bindL;rw[tm fun v hv=>(dN.mp nd).1 (qP hv).1,ab hk];simp
 |p::P,w::vs,i+1,m,nd,h1,h2,hk=>by
  show bindL kindOf ((p,w)::P.zip vs) m x=_;unfold bindL;exact tD (i:=i) (dN.mp nd).2 (by simpa using h1) (by simpa using h2) hk
theorem tK{kindOf:Str->Option NameKind}{x:Str}{v:Value}:∀{P:List Str} {vs:List Value} {i:Nat} {m:Str->Option Value},P.Nodup->P[i]?=some x->vs[i]?=some v->kindOf x≠some .local->
  bindC kindOf (P.zip vs) m x=some v
 |[],_,_,_,_,h,_,_=>by simp at h
 |_::_,[],_,_,_,_,h,_=>by simp at h
 |p::P,w::vs,0,m,nd,h1,h2,hk=>by
  simp at h1 h2;subst h1;subst h2;show bindC kindOf ((p,w)::P.zip vs) m p=_;unfold bindC;rw[tw fun v hv=>(dN.mp nd).1 (qP hv).1,ae hk];simp
 |p::P,w::vs,i+1,m,nd,h1,h2,hk=>by
  show bindC kindOf ((p,w)::P.zip vs) m x=_;unfold bindC;exact tK (i:=i) (dN.mp nd).2 (by simpa using h1) (by simpa using h2) hk
def start(N:List Str)(vs:List V):St:=vs.map some++List.replicate (N.length - vs.length) none
def jz(CX:x6)(P:Program)(w:World)(K:PySem.W.Frag)(mg:Str->Option Value)(base:Heap)(N:List Str)(qual:Str)(scope:Scope)(f:Addr)(cd:Value)(A:Around)(outer:List Env)(s:Shared)(H:Hp)(E:XK):Cx where
 prog:=P
 w:=w
 K:=K
 mg:=mg
 base:=base
 A:=A.deeper (envOfC qual scope s.heap.objs.size f cd)
 N:=N
 eZ:=s
 vW:=H
 env:=envOfC qual scope s.heap.objs.size f cd
 outer:=outer
 stack:=envOfC qual scope s.heap.objs.size f cd::outer
 ex:=[]
 calm:=true
 fn:=fun _=>true
 pn:=[]
 xe:=fun e s'=>wpAny (model P w) (A.deeper (envOfC qual scope s.heap.objs.size f cd)) (leaving (envOfC qual scope s.heap.objs.size f cd) e) (fun _ Ex=>CX outer H s E e Ex) (fun e' Ex=>CX outer H s E e' Ex) s'
theorem v7{sc:Scope}{n:Nat}{x:Str}(h:sc.names.lookup x=some .cell):∃c,(cellsFrom n sc.names []).lookup x=some c:=by
 have q:=PySem.W.cellsFrom_some sc.names n [] (.inl h);exact qa.mp q
theorem AQ{CX:x6}{P:Program}{w:World}{K:PySem.W.Frag}{mg:Str->Option Value}{base:Heap}{N ps:List Str}{qual:Str}{scope:Scope}{f:Addr}{cd:Value}{A:Around}{outer:List Env}{s s1:Shared}{H:Hp}{E:XK}{us:List Value}{vs:List V}
  (S:dR N ps scope) (hd:A.handled=none) (e0:ER P w K mg base A outer s H) (hl:vs.length=ps.length) (r:Vals vs us)
  (x:InCallC s s.heap.objs.size (bindL (envOfC qual scope s.heap.objs.size f cd).kindOf (ps.zip us) fun _=>none) (cellsFrom (s.heap.objs.size+1) scope.names []) (bindC (envOfC qual scope s.heap.objs.size f cd).kindOf (ps.zip us) fun _=>none) s1):
  Inv (jz CX P w K mg base N qual scope f cd A outer s H E) [] (start N vs) H s1:=by
 have o8:ps.length<=N.length:=by have:=bT List.length S.pre;rw[qM]at this;omega
 obtain⟨h1,tk,rfl,hk⟩:=x.done;have K5:∀b:Addr,b∉(jz CX P w K mg base N qual scope f cd A outer s H E).ex:=fun b z=>absurd (show b∈([]:List Addr)from z) (by simp);refine⟨⟨e0.mod,S.kind,rfl,rfl,aA _,fun y z c h1 h2=>?_,fun y hy=>?_,fun y c _ h=>?_,fun _=>hd,Around.frames_deeper e0.frames,.inr ⟨rfl,rfl⟩,fun b z=>absurd z (K5 b),e0.bs,e0.GI,fun b _ _=>K5 b,fun b z=>absurd z (K5 b),e0.q_,e0.KU⟩,
  rfl,e0.bare,Un.kept hk,⟨_,x.toInCall.ns,fun i y v h1 h2 h3=>?_⟩,fun y c h=>⟨_,x.cell y c h⟩,e0.bQ.fresh (aA _),fun y c h=>?_,fun p hp=>absurd (show p∈([]:List (Addr×Obj))from hp) (by simp),e0.bQ.kept hk,?_⟩
 ·exact name_of_addr x.apart (gw h1) (gw h2)
 ·have hy:scope.names.lookup y=some .cell\/scope.names.lookup y=some .free:=hy;rcases hy with hy|hy
  ·exact v7 hy
  ·exact absurd rfl (S.Iv _ (gw hy))
 ·exact fU (x.above y c (gw h))
 ·have hi:i<vs.length:=by
   unfold start at h2;by_cases hi:i<vs.length
   ·exact hi
   ·rw[dJ (by simpa using hi)]at h2;rw[lY]at h2;split at h2<;>cases h2
  have ha:vs[i]?=some v:=by
   unfold start at h2;rw[bZ (by simpa using hi),aJ]at h2;cases e:vs[i]? with
   |none=>rw[e]at h2;cases h2
   |some a=>rw[e]at h2;cases h2;rfl
  obtain⟨u,hu,rv⟩:=r.get ha;have hp:ps[i]?=some y:=by
   rw[<-S.pre,List.getElem?_take_of_lt (by omega)];exact h1
  have Tu:ps.Nodup:=by rw[<-S.pre];exact S.nd.sublist (List.take_sublist _ _)
  refine⟨u,rv,?_⟩;rcases S.par y (bM hp)with k|k
  ·exact .inl ⟨k,tD Tu hp hu k⟩
  ·obtain⟨c,e⟩:=v7 (n:=s.heap.objs.size+1) k;refine .inr ⟨.inl k,c,e,?_⟩;have q:=x.cell y c e;rw[tK Tu hp hu (by show scope.names.lookup y≠_;rw[k];decide)]at q;exact q
 ·exact e0.bQ.fresh (fU (x.above y c (gw h)))
 ·unfold start;show _=N.length;rw[bc,aj,l5];omega
theorem Cw{CX:x6}{P:Program}{w:World}{K:PySem.W.Frag}{mg:Str->Option Value}{base:Heap}{k:Nat}{f:Addr}{name qual:Str}{params:Arguments}{body:List Stmt}{scope:Scope}{dV kV doc pm cX ct oc:Value}{an od:Option Addr}
  {y9:Array (Option Value)} {N ps:List Str} {sp:Sp} (lk:K.lookup f=some ⟨oc,od,.func (PySem.W.fnOf name qual params body scope dV kV doc pm an cX ct),y9⟩) (o7:PySem.W.codeIn K cX qual=true) (S:dR N ps scope)
  (len:∀vs H Q E,sp vs H Q E->vs.length=ps.length)
  (g7:∀(A:Around) (outer:List Env) (s:Shared) (H:Hp) (vs:List V) (Q:VK) (E:XK),dA k (A.deeper (envOfC qual scope s.heap.objs.size f cX))->sp vs H Q E->
   ∃t,jW (jz CX P w K mg base N qual scope f cX A outer s H E) body t/\t {nx:=fun _ H'=>Q .cq H',rt:=Q} (start N vs) H):
  f6 P w K mg base CX (k+1) f (PySem.W.fnOf name qual params body scope dV kV doc pm an cX ct) ps sp:=by
 refine⟨len,fun A outer s H args us vs Q E hr e0 hb r GP=>?_⟩;have hl:=len _ _ _ _ GP;have KX:K.In s.heap:=e0.mod.LA.keeps fun b o e=>(e0.bs b o e).1;have lim:s.heap.NoLimit:=e0.mod.nolimit.keeps fun b o e=>(e0.bs b o e).1;have LV:∀y∈ps.zip us,scope.names.lookup y.1=some .local\/(scope.names.lookup y.1=some .cell/\((cellsFrom (s.heap.objs.size+1) scope.names []).lookup y.1).isSome=true):=fun⟨n,v⟩ hy=>by
  rcases S.par n (qP hy).1 with q|q
  ·exact .inl q
  ·exact .inr ⟨q,PySem.W.cellsFrom_some _ _ _ (.inl q)⟩
 refine codeAny_call_function hr.depth (KX _ _ lk) rfl S.co S.gen rfl (PySem.W.codeRec_of KX o7) (hb _ _ _ _ ?_);refine wpAny_newFunctionEnv_cells S.kind LV fun env he s1 x=>?_
 subst he;refine⟨lim.keeps x.toInCall.keep,codeAny_func ?_⟩;obtain⟨t,ht,hq⟩:=g7 A outer s H vs Q E (hr.deeper _) GP;have I:Inv (jz CX P w K mg base N qual scope f cX A outer s H E) [] (start N vs) H s1:=AQ S hr.hd e0 hl r x;refine dQ (ht [] s1 (start N vs) H _ I hq) (fun fl s' hs=>?_) fun e s' hs=>hs;have fin:∀{bK:St} {H':Hp} {v:V} {u:Value},Inv (jz CX P w K mg base N qual scope f cX A outer s H E) [] bK H' s'->RelV v u->Q v H'->CE outer P w H s Q u s':=
  fun{bK H' v u} J rv q=>⟨v,H',J.os,J.bare,J.base,J.bQ,rv,q⟩
 cases fl with
 |ret u=>
  obtain⟨v,bK,H',J,rv,q⟩:=hs;exact fin J rv q
 |next=>
  obtain⟨bK,H',J,q⟩:=hs;exact fin (v:=V.cq) (u:=Value.none) J rfl q
 |brk=>
  obtain⟨_,_,_,q⟩:=hs;exact False.elim q
 |cont=>
  obtain⟨_,_,_,q⟩:=hs;exact False.elim q
end L2
namespace L2
open PySem PySem.Spec PyProof.Rows
section
variable {X:Cx}{x:Str}{p pos:Pos}{e:Expr}{es:List Expr}{t:TA}{id T:String}{r:List V->Hp->VK->Prop}
def O7(r:List V->Hp->VK->Prop)(t:TA):TE:=fun σ H Q=>t σ H fun vs H1=>r vs H1 Q
theorem v8(hc:e8 X (.builtin id) r)(hg:Gl X x)(hm:X.mg x=none)(hv:bootBuiltins x=some (.builtin id))(ha:PA X (e::es) t)(hn:x≠"__name__":=by decide) (ji:(x==("__debug__":Str))=false:=by decide)
  (he:starEach (e::es) X.env=(false,eval e X.env)::starEach es X.env:=by rfl) (o8:(backTo pos (starEach es X.env)).any (·.1)=false:=by rfl):PE X (.Call (.Name x p) (e::es) [] pos) (O7 r t):=by
 intro pins s σ H Q I h;refine mh (nQ I hg hm hv ?_ hn ji);exact PyProof.Rows.callWith_builtin1 (dY (ha pos pins s σ H _ I h) fun us s1 ⟨vs,H1,I1,r1,q1⟩=>hc pins s1 σ H1 vs us Q I1 r1 q1) he o8
theorem iP(hc:e8 X (.type T) r)(hg:Gl X x)(hm:X.mg x=none)(hv:bootBuiltins x=some (.type T))(ha:PA X (e::es) t)(hn:x≠"__name__":=by decide) (ji:(x==("__debug__":Str))=false:=by decide)
  (he:starEach (e::es) X.env=(false,eval e X.env)::starEach es X.env:=by rfl) (o8:(backTo pos (starEach es X.env)).any (·.1)=false:=by rfl):PE X (.Call (.Name x p) (e::es) [] pos) (O7 r t):=by
 intro pins s σ H Q I h;refine mh (nQ I hg hm hv ?_ hn ji);exact p8 (dY (ha pos pins s σ H _ I h) fun us s1 ⟨vs,H1,I1,r1,q1⟩=>hc pins s1 σ H1 vs us Q I1 r1 q1) he o8
end
end L2
namespace HT
open PySem PyProof.Rows
def lexLt:List Int->List Int->Bool
 |[],[]=>false
 |[],_::_=>true
 |_::_,[]=>false
 |x::xs,y::ys=>if x=y then lexLt xs ys else decide (x<y)
theorem x8(x y:Int)(xs ys:List Int):lexLt (x::xs) (y::ys)=if x=y then lexLt xs ys else decide (x<y):=rfl
theorem sP:lexLt [] []=false:=rfl
theorem ri(y:Int)(ys:List Int):lexLt [] (y::ys)=true:=rfl
theorem rj(x:Int)(xs:List Int):lexLt (x::xs) []=false:=rfl
theorem Cy(A:Around)(s:Shared)(a:Int)(t:Tok)(c:Int)(u:Tok):∃e,SeqAt.EqAt A s (.int a t) (.int c u) e/\(e=true↔a=c):=
 ⟨(a==c),SeqAt.EqAt.int_int a t c u,by simp⟩
theorem Cz(A:Around)(s:Shared)(a:Int)(t:Tok)(c:Int)(u:Tok)(prog:Program)(w:World)(E:Value->Shared->Prop)(Q:Value->Shared->Prop)(h:Q (.bool (decide (a<c))) s):
  wpAny (model prog w) A (richCompare .Lt (.int a t) (.int c u)) Q E s:=
 (PyProof.Rows.lt_int h:wpAny (model prog w) A (compareOp .Lt (.int a t) (.int c u)) Q E s)
section
open PySem.SeqAt
open PySem.AutoSeq1 (wpAny_loadPart')
open PySem.MeetsSeq PySem.MeetsSeq2 PySem.MeetsSeq3
theorem sQ(l b:Addr)(items ik:Array Value)(n n2:Nat)(dd Ey:Option Addr)(sl GQ:Array (Option Value))(ns ms:List Int)(hi:IntsAre items.toList ns)(hj:IntsAre ik.toList ms):
  Meets (Builtin.«tuple.__lt__» ⟨[.ref l,.ref b],[]⟩)
   (fun _ R s=>s.heap.get? l=some {cls:=.type "tuple",dict:=dd,data:=.seq items n,slots:=sl}/\s.heap.get? b=some {cls:=.type "tuple",dict:=Ey,data:=.seq ik n2,slots:=GQ}/\
    R (.ok (.ret (.bool (lexLt ns ms)))) s):=
 .of_wp fun prog w A R s h=>by
  obtain⟨hp,g,d,tk,os⟩:=s;obtain⟨hl,hb,h⟩:=h;have f2:=AutoSeq1.sub_tuple_tuple;have z1:items.size=ns.length:=by rw[<-hi.length];simp
  have z2:ik.size=ms.length:=by rw[<-hj.length];simp
  wp_walk using wpAny_loadPart' hl,wpAny_loadPart' hb,jM _ (fun rest b s'=>b.1=none/\s'=⟨hp,g,d,tk,os⟩/\∃(vs ws:List Value) (K6 K7:List Int),rest=vs.zip ws/\
   IntsAre vs K6/\IntsAre ws K7/\K6.length+ik.size=K7.length+items.size/\R (.ok (.ret (.bool (lexLt K6 K7)))) ⟨hp,g,d,tk,os⟩) _
  case turn=>
   rintro ⟨y,x⟩ rest b s' ⟨jC,rfl,vs,ws,K6,K7,hz,QR,O8,hlen,hR⟩
   cases QR with
   |nil=>rw[List.zip_nil_left]at hz;cases hz
   |cons a t QU=>
    cases O8 with
    |nil=>rw[List.zip_nil_right]at hz;cases hz
    |cons c u QV=>
     rw[List.zip_cons_cons]at hz;injection hz with UR LW
     injection UR with hy hx
     subst hy hx;rw[x8]at hR;simp only[a_]at hlen;obtain⟨e,he,LX⟩:=Cy A.in1 ⟨hp,g,d,tk,os⟩ a t c u;refine aa (he prog w _ _ ?_);cases e with
     |true=>
      rw[ab (LX.mp rfl)]at hR
      wp_walk
      exact⟨rfl,rfl,_,_,_,_,LW,QU,QV,by omega,hR⟩
     |false=>
      rw[ae (fun q=>absurd (LX.mpr q) cR)]at hR;have US:=Cz A.in1 ⟨hp,g,d,tk,os⟩ a t c u prog w
      wp_walk using US
      exact⟨_,rfl,by simpa using hR⟩
  case fin=>
   rintro ⟨b1,b2⟩ s' ⟨jC,rfl,vs,ws,K6,K7,hz,QR,O8,hlen,hR⟩
   simp only at jC;subst jC;have hv:lexLt K6 K7=decide (items.size<ik.size):=by
    cases QR with
    |nil=>
     cases O8 with
     |nil=>
      simp only[dz]at hlen;rw[sP];exact(aX (by omega)).symm
     |cons c u hw=>
      simp only[dz,a_]at hlen;rw[ri];exact(bt (by omega)).symm
    |cons a t hv=>
     cases O8 with
     |nil=>
      simp only[dz,a_]at hlen;rw[rj];exact(aX (by omega)).symm
     |cons c u hw=>
      rw[List.zip_cons_cons]at hz;cases hz
   rw[hv]at hR
   wp_walk
   exact⟨_,rfl,by simpa[Builtin.Tuple.tupleCompareSizes]using hR⟩
  case h=>
   exact⟨rfl,rfl,items.toList,ik.toList,ns,ms,rfl,hi,hj,by omega,h⟩
end
section
variable {prog:Program}{w:World}{A:Around}{E:Value->Shared->Prop}{s:Shared}
theorem x9{l b:Addr}{items ik:Array Value}{ns ms:List Int}{Q:Value->Shared->Prop}(hl:IsTup s.heap l items)(hb:IsTup s.heap b ik)(hi:IntsAre items.toList ns)(hj:IntsAre ik.toList ms)
  (hu:A.units<cLine) (h:Q (.bool (lexLt ns ms)) s):wpAny (model prog w) A (compareOp .Lt (.ref l) (.ref b)) Q E s:=by
 obtain⟨⟨cls,dd,data,sl⟩,ho,hc,n,hd⟩:=id hl;obtain⟨⟨QX,Ey,data2,GQ⟩,Iw,LY,n2,hd2⟩:=id hb;simp only at hc hd LY hd2;subst hc hd LY hd2;exact richCompare_meets_room (op:=.Lt) ⟨_,ho,rfl⟩ ⟨_,Iw,rfl⟩ PySem.F.slot_tuple_lt PySem.F.entry_tuple_lt (PySem.F.args_tuple_lt_2 _ _) (sQ l b items ik n n2 dd Ey sl GQ ns ms hi hj)
  ⟨ho,Iw,show Value.bool (lexLt ns ms)≠Value.notImplemented/\Q (.bool (lexLt ns ms)) s from⟨(fun x=>nomatch x),h⟩⟩ hu
theorem ES{t b:Addr}{vs ws:List Value}{Q:Value->Shared->Prop}(ht:IsTup s.heap t vs.toArray)(hb:IsTup s.heap b ws.toArray)(hv:vs≠[])
  (h1:ws=[]->Q (.ref t) s) (h2:ws≠[]->Q (.ref s.heap.objs.size) {s with heap:=s.heap.push {cls:=.type "tuple",data:=.seq (vs++ws).toArray}})
  (hsz:vs.length+ws.length<=sizeLine):wpAny (model prog w) A (binaryOp .Add (.ref t) (.ref b)) Q E s:=by
 obtain⟨⟨cls,dd,data,sl⟩,ho,hc,n,hd⟩:=id ht;obtain⟨⟨QX,Ey,data2,GQ⟩,Iw,LY,n2,hd2⟩:=id hb;simp only at hc hd LY hd2;subst hc hd LY hd2;have e:vs.toArray++ws.toArray=(vs++ws).toArray:=by simp
 by_cases hw:ws=[]
 ·exact concat_meets ⟨_,ho,rfl⟩ ⟨_,Iw,rfl⟩ noFill_tuple_add seq_tuple_add qf qe (qd _ _)
   (tuple_addW1 t b vs.toArray ws.toArray n n2 dd Ey sl GQ (by simpa using hv) (by simp[hw])) ⟨ho,Iw,h1 hw⟩
 ·refine concat_meets ⟨_,ho,rfl⟩ ⟨_,Iw,rfl⟩ noFill_tuple_add seq_tuple_add qf qe (qd _ _)
   (tuple_addW2 t b vs.toArray ws.toArray n n2 dd Ey sl GQ (by simpa using hv) (by simpa using hw) (by rw[bf,bf];exact hsz)) ⟨ho,Iw,?_⟩
  rw[e];exact h2 hw
end
end HT
namespace L2
open PySem PySem.Spec PyProof.Rows
section
variable {X:Cx}{e:Expr}{te:TE}{lo hi:Option Expr}{tl th:TO}{pos p2:Pos}
def L0(K:PySem.W.Frag):R2:=fun x y H Q=>∃a b xs ys,x=.ref a/\y=.ref b/\hZ K H a xs/\hZ K H b ys/\xs≠[]/\xs.length+ys.length<=sizeLine/\
 (ys=[]->Q (.ref a) H)/\(ys≠[]->∀p,H p=none->Q (.ref p) (upd H p (.tup (xs++ys))))
theorem Vals.uM {xs:List V}{us:List Value}(r:Vals xs us):us=[]↔xs=[]:=by
 cases r with
 |nil=>simp
 |cons _ _=>simp
theorem ET:oP X (binaryOp .Add) (L0 X.K):=by
 intro pins s σ H x y v u Q I rx ry h;obtain⟨a,b,xs,ys,rfl,rfl,ha,hb,hx,hz,q1,q2⟩:=h;cases rx;cases ry;obtain⟨aY,r1,p1,_⟩:=I.tuple ha;obtain⟨v9,r2,p2,_⟩:=I.tuple hb;refine HT.ES p1 p2 (fun z=>hx (r1.uM.mp z)) (fun z=>⟨.ref a,H,I,rfl,q1 (r2.uM.mp z)⟩) (fun z=>?_) (by rw[<-r1.length,<-r2.length];exact hz);refine⟨.ref s.heap.objs.size,_,I.laid (t':=s.toks) (o:=.tup (xs++ys)) (fun b ob q=>aD _ q) (aA _) ?_,rfl,q2 (fun w=>z (r2.uM.mpr w)) _ (I.bQ.fresh (aA _))⟩;exact⟨by rw[bc];exact hz,_,r1.append r2,jU.new _ _⟩
end
end L2
namespace L2
open PySem PySem.Spec PyProof.Rows
def GR(n:Nat)(i:Int):Option Nat:=if 0<=i then(if i<n then some i.toNat else none)else if-(n:Int)<=i then some (i+n).toNat else none
def sJ{α:Type}(xs:List α)(i:Int):Option α:=(GR xs.length i).bind fun j=>xs[j]?
theorem EU{n:Nat}{i:Int}{j:Nat}(h:GR n i=some j):seqIndex? i n=some j/\j<n/\-(n:Int)<=i/\i<n:=by
 unfold GR at h;by_cases h0:0<=i
 ·rw[ab h0]at h;by_cases h1:i<n
  ·rw[ab h1]at h;have e:i.toNat=j:=Option.some.inj h;exact⟨by rw[seqIndex_of h0 h1,e],by omega,by omega,h1⟩
  ·rw[ae h1]at h;cases h
 ·rw[ae h0]at h;by_cases h1:-(n:Int)<=i
  ·rw[ab h1]at h;have e:(i+n).toNat=j:=Option.some.inj h;exact⟨by rw[seqIndex_neg (by omega) h1,e],by omega,h1,by omega⟩
  ·rw[ae h1]at h;cases h
theorem uN{α:Type}{xs:List α}{i:Int}{v:α}(h:sJ xs i=some v):∃j,seqIndex? i xs.length=some j/\xs[j]?=some v/\j<xs.length/\-(xs.length:Int)<=i/\i<xs.length:=by
 unfold sJ at h;cases e:GR xs.length i with
 |none=>rw[e]at h;cases h
 |some j=>
  rw[e]at h;obtain⟨h1,h2,h3,h4⟩:=EU e;exact⟨j,h1,h,h2,h3,h4⟩
theorem EV{α:Type}{xs:List α}{j:Nat}{v:α}(h:xs[j]?=some v):sJ xs (j:Int)=some v:=by
 have hj:j<xs.length:=(dt.mp h).1;have e:GR xs.length (j:Int)=some j:=by
  unfold GR;rw[ab (by omega),ab (by omega)];simp
 unfold sJ;rw[e];exact h
def pM(b:Expr):Prop:=∀o i,subscripted b false o i=operate [o,i] (getItem o i)
def Ez(X:Cx)(r:R2):Prop:=
 ∀(value slice:Expr) (pins:List (Addr×Obj)) (s:Shared) (σ:St) (H:Hp) (x y:V) (v u:Value) (Q:VK),Inv X pins σ H s->RelV x v->RelV y u->r x y H Q->
  subscripted slice false v u=operate [v,u] (getItem v u)->wpAny (model X.prog X.w) X.A (subscriptTail value slice v u) (EP X pins σ Q) X.xe s
def L1(X:Cx)(id:String)(r:V->List V->Hp->VK->Prop):Prop:=
 ∀(pins:List (Addr×Obj)) (s:Shared) (σ:St) (H:Hp) (x:V) (xs:List V) (v:Value) (us:List Value) (Q:VK),Inv X pins σ H s->RelV x v->Vals xs us->r x xs H Q->
  wpAny (model X.prog X.w) X.A (call (.builtin id) (v::us)) (EP X pins σ Q) X.xe s
section
variable {X:Cx}{a b:Expr}{ta tb:TE}{pos:Pos}
theorem Ez.or {r r':R2}(h:Ez X r)(h':Ez X r'):Ez X (fun x y H Q=>r x y H Q\/r' x y H Q):=by
 intro value slice pins s σ H x y v u Q I rx ry q hs;rcases q with q|q
 ·exact h value slice pins s σ H x y v u Q I rx ry q hs
 ·exact h' value slice pins s σ H x y v u Q I rx ry q hs
theorem L1.or {id:String}{r r':V->List V->Hp->VK->Prop}(h:L1 X id r)(h':L1 X id r'):L1 X id (fun x xs H Q=>r x xs H Q\/r' x xs H Q):=by
 intro pins s σ H x xs v us Q I rx rs q;rcases q with q|q
 ·exact h pins s σ H x xs v us Q I rx rs q
 ·exact h' pins s σ H x xs v us Q I rx rs q
theorem GS{r:R2}(hr:Ez X r)(ha:PE X a ta)(hb:PE X b tb)(hs:pM b):PE X (.Subscript a b pos) (K3 r ta tb):=by
 intro pins s σ H Q I h;exact Subscript_ (Ih ha hb I h fun v u s2 x y H2 I2 rx ry q=>hr a b pins s2 σ H2 x y v u Q I2 rx ry q (hs _ _))
def QY(K:PySem.W.Frag):R2:=fun x y H Q=>∃p xs i v,x=.ref p/\y=.int i/\iN K H p xs/\sJ xs i=some v/\Q v H
def QZ(K:PySem.W.Frag):R2:=fun x y H Q=>∃p xs i v,x=.ref p/\y=.int i/\hZ K H p xs/\sJ xs i=some v/\Q v H
def Q0:R2:=fun x y H Q=>∃z i c,x=.str z/\y=.int i/\z.length<=sizeLine/\sJ z.cps.toList i=some c/\Q (.str ⟨#[c]⟩) H
theorem y_:Ez X (QY X.K):=by
 intro value slice pins s σ H x y v u Q I rx ry h hs;obtain⟨p,xs,i,z,rfl,rfl,hq,he,q⟩:=h;cases rx;obtain⟨t,rfl⟩:=ry;obtain⟨aY,r,pl,hz⟩:=I.list hq;obtain⟨j,h1,h2,h3,h4,h5⟩:=uN he;obtain⟨w,ew,kY⟩:=r.get h2;have hl:=r.length;have hn:=rh;have fin:EP X pins σ Q w s:=⟨z,H,I,kY,q⟩;by_cases h0:0<=i
 ·have hj:i.toNat=j:=by
   rw[seqIndex_of h0 h5]at h1;exact Option.some.inj h1
  exact item_listR pl.isList h0 (by omega) (by rw[hj];simpa using ew) fin hs
 ·have hj:(i+(aY.toArray.size:Int)).toNat=j:=by
   rw[seqIndex_neg (by omega) h4]at h1;rw[bf,<-hl];exact Option.some.inj h1
  exact subscriptTail_builtinR (x:=w) pl.isList.typeIs slot_list_getitem.lookup
   (wpAny_getItem_list_neg (Q:=fun r s'=>r=w/\EP X pins σ Q r s') pl.isList (by omega) (by rw[bf]<;>omega) (by omega) (by rw[hj];simpa using ew) ⟨rfl,fin⟩) hs
theorem Iy:Ez X (QZ X.K):=by
 intro value slice pins s σ H x y v u Q I rx ry h hs;obtain⟨p,xs,i,z,rfl,rfl,hq,he,q⟩:=h;cases rx;obtain⟨t,rfl⟩:=ry;obtain⟨aY,r,pl,hz⟩:=I.tuple hq;obtain⟨j,h1,h2,h3,h4,h5⟩:=uN he;obtain⟨w,ew,kY⟩:=r.get h2;have hl:=r.length;have hn:=rh;have fin:EP X pins σ Q w s:=⟨z,H,I,kY,q⟩;exact subscriptTail_builtinR (x:=w) pl.typeIs slot_tuple_getitem.lookup
  (getItem_tuple (j:=j) (Q:=fun r s'=>r=w/\EP X pins σ Q r s') pl (by omega) (by omega) (by rw[bf,<-hl];exact h1) (by simpa using ew) ⟨rfl,fin⟩) hs
theorem Iz:Ez X Q0:=by
 intro value slice pins s σ H x y v u Q I rx ry h hs;obtain⟨z,i,c,rfl,rfl,hz,he,q⟩:=h;obtain⟨t,rfl⟩:=rx;obtain⟨t',rfl⟩:=ry;obtain⟨j,h1,h2,h3,h4,h5⟩:=uN he;have hl:z.cps.toList.length=z.length:=by simp[Str.length]
 rw[hl]at h1 h4 h5;have hn:=rh;exact tail_any (typeIs_str s z t) slot_str_getitem.lookup (getItem_str (c:=c) (by
  have e1:decide (i< -(2 ^63:Int))=false:=aX (by omega);have e2:decide (i>=2 ^63)=false:=aX (by omega);rw[e1,e2,mB]) (by rw[h1];simpa using h2) ⟨.str ⟨#[c]⟩,H,I.tok _,⟨_,rfl⟩,q⟩) hs
theorem Inv.lst {pins:List (Addr×Obj)}{σ:St}{H:Hp}{s:Shared}{p:Addr}{xs:List V}(I:Inv X pins σ H s)(h:H p=some (.lst xs)):
  ∃(aY:List Value) (n:Nat),Vals xs aY/\s.heap.get? p=some {cls:=.type "list",data:=.seq aY.toArray n}/\xs.length<=sizeLine:=by
 obtain⟨z,aY,n,r,e⟩:=I.bQ p _ h;exact⟨aY,n,r,e,z⟩
def GU:V->Bool
 |.cq=>true
 |.bl _=>true
 |.int _=>true
 |.str _=>true
 |_=>false
theorem e8.or {f:Value}{r r':List V->Hp->VK->Prop}(h:e8 X f r)(h':e8 X f r'):e8 X f (fun xs H Q=>r xs H Q\/r' xs H Q):=by
 intro pins s σ H xs us Q I rs q;rcases q with q|q
 ·exact h pins s σ H xs us Q I rs q
 ·exact h' pins s σ H xs us Q I rs q
theorem mO:e8 X (.type "list") (fun xs H Q=>∃p ys,xs=[.ref p]/\(iN X.K H p ys\/hZ X.K H p ys)/\∀l,H l=none->Q (.ref l) (upd H l (.lst ys))):=by
 intro pins s σ H xs us Q I r h;obtain⟨p,ys,rfl,hq,q⟩:=h;obtain⟨u,rfl,rx⟩:=vals1 r;cases rx;have fin:∀(aY:List Value),Vals ys aY->ys.length<=sizeLine->∀(h':Heap) (c':Nat),(∀b o',s.heap.get? b=some o'->h'.get? b=some o')->
   h'.get? s.heap.objs.size=some {cls:=.type "list",dict:=none,data:=.seq aY.toArray c',slots:=#[]}->EP X pins σ Q (.ref s.heap.objs.size) {s with heap:=h'}:=fun aY r' hz h' c' kp e=>
  ⟨.ref s.heap.objs.size,_,I.laid (t':=s.toks) kp (aA _) (show bu X.prog X.w _ h' _ (.lst ys)from⟨hz,aY,c',r',e⟩),rfl,q _ (I.bQ.fresh (aA _))⟩
 rcases hq with hq|hq
 ·obtain⟨aY,r',pl,hz⟩:=I.list hq;have hlen:=r'.length;obtain⟨o,ho,hc,n,hd⟩:=pl.isList;exact call_list_seq p (.inl rfl) ho hc hd (fun h' c' kp e=>fin aY r' hz h' c' kp e) (by simp only[bf]<;>omega)
 ·obtain⟨aY,r',pl,hz⟩:=I.tuple hq;have hlen:=r'.length;obtain⟨o,ho,hc,n,hd⟩:=pl;exact call_list_seq p (.inr rfl) ho hc hd (fun h' c' kp e=>fin aY r' hz h' c' kp e) (by simp only[bf]<;>omega)
theorem lb:e8 X (.type "tuple") (fun xs H Q=>∃p ys,xs=[.ref p]/\((iN X.K H p ys/\∀l,H l=none->Q (.ref l) (upd H l (.tup ys)))\/(hZ X.K H p ys/\Q (.ref p) H))):=by
 intro pins s σ H xs us Q I r h;obtain⟨p,ys,rfl,h⟩:=h;obtain⟨u,rfl,rx⟩:=vals1 r;cases rx;rcases h with⟨hq,q⟩|⟨hq,q⟩
 ·obtain⟨aY,r',pl,hz⟩:=I.list hq;have hlen:=r'.length;refine call_tuple_list pl.isList (fun h' kp=>?_) (by simp only[bf]<;>omega);have I1:Inv X pins σ H {s with heap:=h'}:=I.kept (t':=s.toks) kp;have I2:Inv X pins σ (upd H h'.objs.size (.tup ys)) {s with heap:=h'.push {cls:=.type "tuple",data:=.seq aY.toArray}}:=
   I1.laid (t':=s.toks) (fun b o e=>aD _ e) (aA _) (show bu X.prog X.w _ _ _ (.tup ys)from⟨hz,aY,r',jU.new _ _⟩)
  exact⟨.ref h'.objs.size,_,I2,rfl,q _ (I1.bQ.fresh (aA _))⟩
 ·obtain⟨aY,r',pl,hz⟩:=I.tuple hq;exact call_tuple_same pl ⟨.ref p,H,I,rfl,q⟩
def Tv(K:PySem.W.Frag)(T:String)(x:V)(H:Hp):Prop:=match x with
 |.str _=>T="str"
 |.int _=>T="int"
 |.ref p=>(T="list"/\∃xs,iN K H p xs)\/(T="tuple"/\∃o,K.lookup p=some o/\o.cls=.type "tuple"/\o.dict=none)\/
   (T="dict"/\((∃aw,H p=some (.dK aw))\/∃aw,H p=some (.dT aw)))\/(T="set"/\∃S n,H p=some (.set S n))
 |_=>False
theorem IA{pins:List (Addr×Obj)}{σ:St}{H:Hp}{s:Shared}{T:String}{x:V}{v:Value}(I:Inv X pins σ H s)(r:RelV x v)(ty:Tv X.K T x H):
  s.TypeIs v T/\∀a,v=.ref a->∃ob,s.heap.get? a=some ob/\ob.dict=none:=by
 cases x with
 |str z=>
  obtain⟨t,rfl⟩:=r;cases(show T="str"from ty);exact⟨typeIs_str s z t,fun _ e=>nomatch e⟩
 |int i=>
  obtain⟨t,rfl⟩:=r;cases(show T="int"from ty);exact⟨typeIs_int s i t,fun _ e=>nomatch e⟩
 |ref p=>
  cases r;rcases ty with⟨rfl,xs,hq⟩|⟨rfl,o,hk,hc,hd⟩|⟨rfl,hk⟩|⟨rfl,S,n,hk⟩
  ·obtain⟨aY,_,pl,_⟩:=I.list hq;refine⟨pl.isList.typeIs,fun a e=>?_⟩;cases e;obtain⟨o,n,e,c,hd,_⟩:=pl;exact⟨o,e,hd⟩
  ·refine⟨⟨o,I.o6 p o hk,hc⟩,fun a e=>?_⟩;cases e;exact⟨o,I.o6 _ o hk,hd⟩
  ·have z:∃o,s.heap.get? p=some o/\o.ExactDict:=by
    rcases hk with⟨aw,hk⟩|⟨aw,hk⟩
    ·obtain⟨_,_,_,_,o,_,_,e,ex,_⟩:=I.bQ p _ hk;exact⟨o,e,ex⟩
    ·obtain⟨_,_,_,_,o,_,_,e,ex,_⟩:=I.bQ p _ hk;exact⟨o,e,ex⟩
   obtain⟨o,e,ex⟩:=z;refine⟨⟨o,e,ex.1⟩,fun a e2=>?_⟩;cases e2;exact⟨o,e,ex.2.1⟩
  ·obtain⟨o,_,_,_,e,ex,_⟩:=I.bQ p _ hk;refine⟨⟨o,e,ex.1⟩,fun a e2=>?_⟩;cases e2;exact⟨o,e,ex.2.1⟩
 |_=>exact False.elim ty
def UT(K:PySem.W.Frag)(T:String)(r:V->List V->Hp->VK->Prop)(to:TE)(t:TA):TE:=fun σ H Q=>to σ H fun x H1=>Tv K T x H1/\t σ H1 fun xs H2=>r x xs H2 Q
variable {o e:Expr}{es:List Expr}{to:TE}{t:TA}{name:Str}{apos jj:Pos}{T id:String}{r:V->List V->Hp->VK->Prop}
theorem L3(pa:PlainAttrs T)(slot:Slot T name id)(L4:typeOf (.builtin id)=pure (.type "method_descriptor"))(hm:L1 X id r)(ho:PE X o to)(ha:PA X (e::es) t)
  (v_:attributeBase o name X.env (eval o X.env)=eval o X.env:=by rfl)
  (Q1:((backTo jj (starEach (e::es) X.env)).all (fun x=>!x.1)&&(backToKw jj (keywordEach [] X.env)).all (fun x=>x.1.isSome)
   &&decide ((e::es).length+([]:List Keyword).length+(if([]:List Keyword).isEmpty then 0 else 1)<30))=true:=by rfl)
  (wa:(apos.endLine==jj.line)=true:=by rfl) (hs:starEach (e::es) X.env=(false,eval e X.env)::starEach es X.env:=by rfl) (IB:(backTo jj (starEach es X.env)).any (·.1)=false:=by rfl):
  PE X (.Call (.Attribute o name apos) (e::es) [] jj) (UT X.K T r to t):=by
 intro pins s σ H Q I h;refine wpAny_Call_method_late v_ Q1 wa rfl (dY (ho pins s σ H _ I h) fun v s1 ⟨x,H1,I1,r1,ty,q1⟩=>?_);obtain⟨h1,h2⟩:=IA I1 r1 ty;refine⟨T,id,pa,slot,L4,h1,h2,?_⟩;have hA:=ha jj pins s1 σ H1 _ I1 q1;rw[hs]at hA⊢;refine Calls.callWith_builtin (by show(false||(backTo jj (starEach es X.env)).any (·.1))=false;rw[IB]<;>rfl) (Calls.evalArgs_plain ?_);exact dY hA fun us s2 ⟨vs,H2,I2,r2,q2⟩=>hm pins s2 σ H2 x vs v us Q I2 r1 r2 q2
end
end L2
namespace L2
open PySem PySem.Spec PyProof.Rows
def O9(X:Cx)(id:String)(r:V->List V->Hp->VK->Prop):Prop:=
 ∀(pins:List (Addr×Obj)) (s:Shared) (σ:St) (H:Hp) (x:V) (xs:List V) (v:Value) (us:List Value) (Q:VK),Inv X pins σ H s->RelV x v->Vals xs us->r x xs H Q->
  wpAny (model X.prog X.w) X.A (call (.builtin id) (v::us)) (EP X pins σ Q) X.xe s
theorem Vals.one:∀{x:V} {us:List Value},Vals [x] us->∃u,us=[u]/\RelV x u
 |_,_,.cons r .nil=>⟨_,rfl,r⟩
theorem Vals.eraseIdx:∀{xs:List V} {us:List Value} (i:Nat),Vals xs us->Vals (xs.eraseIdx i) (us.eraseIdx i)
 |_,_,_,.nil=>.nil
 |_,_,0,.cons _ t=>t
 |_,_,i+1,.cons r t=>.cons r (Vals.eraseIdx i t)
theorem Vals.rep {xs:List V}{us:List Value}(h:Vals xs us):∀k:Nat,Vals (List.replicate k xs).flatten (List.replicate k us).flatten
 |0=>.nil
 |k+1=>by
  rw[je,je,iy,iy];exact Vals.append h (Vals.rep h k)
theorem tL{α:Type}:∀(l:List α) (i:Nat),(l.eraseIdx i).length<=l.length
 |[],_=>aA _
 |_::_,0=>iJ _
 |_::r,i+1=>Nat.succ_le_succ (tL r i)
theorem foldl_rep(aY:List Value):∀(k:Nat) (acc:List Value),
  List.foldl (fun x1 x2=>x1++x2) acc.toArray (List.replicate k aY.toArray)=(acc++(List.replicate k aY).flatten).toArray
 |0,acc=>by simp
 |k+1,acc=>by
  have e:acc.toArray++aY.toArray=(acc++aY).toArray:=by simp
  have e2:(acc++aY)++(List.replicate k aY).flatten=acc++(List.replicate (k+1) aY).flatten:=by
   rw[je,iy,ib]
  rw[<-e2,<-foldl_rep aY k (acc++aY),<-e,je,List.foldl_cons]
section
variable {X:Cx}{pins:List (Addr×Obj)}{σ:St}{H:Hp}{s:Shared}{l b:Addr}{xs ys zs:List V}
theorem Inv.L5 {aY uI:List Value}{n:Nat}{f:Array Value->Array Value}{t':Nat}(I:Inv X pins σ H s)(hH:H l=some (.lst xs))
  (e:s.heap.get? l=some {cls:=.type "list",data:=.seq aY.toArray n}) (hf:f aY.toArray=uI.toArray) (hv:Vals ys uI) (hz:ys.length<=sizeLine):
  Inv X pins σ (upd H l (.lst ys)) {s with heap:=s.heap.update l (Obj.mapSeq f),toks:=t'}:=by
 have q:=PySem.IsL.update e f;rw[hf]at q;refine I.write (x:=l) (e:=l) (by rw[hH];exact trivial) (.inl rfl) (fun b' u hb hu=>(jE s.heap (Obj.mapSeq f) (bY hb)).trans hu) ⟨_,q⟩ ?_
 exact⟨hz,uI,_,hv,q⟩
theorem Inv.IC {aY:List Value}{t':Nat}(I:Inv X pins σ H s)(hv:Vals ys aY)(hz:ys.length<=sizeLine):
  Inv X pins σ (upd H s.heap.objs.size (.lst ys)) {s with heap:=s.heap.push {cls:=.type "list",data:=.seq aY.toArray},toks:=t'}:=
 I.laid (fun _ _ q=>aD _ q) (aA _) ⟨hz,aY,0,hv,aU _ rfl⟩
theorem Inv.fresh (I:Inv X pins σ H s):H s.heap.objs.size=none:=I.bQ.fresh (aA _)
theorem Inv.CA (I:Inv X pins σ H s)(hH:H l=some (.lst xs)):xs.length<=sizeLine/\∃(aY:List Value) (n:Nat),Vals xs aY/\xs.length=aY.length/\s.heap.get? l=some {cls:=.type "list",data:=.seq aY.toArray n}:=by
 obtain⟨z,aY,n,r,e⟩:=I.bQ l _ hH;exact⟨z,aY,n,r,r.length,e⟩
theorem CB{n:Nat}(h:n<=sizeLine):Builtin.List.listTooLong n=false:=by
 unfold Builtin.List.listTooLong;exact aX (by omega)
end
section
variable {X:Cx}
def zc:V->List V->Hp->VK->Prop:=fun x vs H Q=>∃l xs y,x=.ref l/\vs=[y]/\H l=some (.lst xs)/\xs.length<sizeLine/\Q .cq (upd H l (.lst (xs++[y])))
theorem fI:O9 X "list.append" zc:=by
 intro pins s σ H x vs v us Q I rx rv h;obtain⟨l,xs,y,rfl,rfl,hH,hz,q⟩:=h;cases rx;obtain⟨u,rfl,ru⟩:=rv.one;obtain⟨z,aY,n,r,hl,e⟩:=I.CA hH;refine iM jc ⟨_,e,rfl⟩ F.entry_list_append (F.args_list_append_2 _ _) (PySem.list_append l aY.toArray n u (by rw[bf];omega)) ⟨e,?_⟩;refine⟨.cq,_,I.L5 (uI:=aY++[u]) hH e (by simp) (r.append (.cons ru .nil)) ?_,rfl,q⟩;rw[bc,kI];omega
def CC:V->List V->Hp->VK->Prop:=fun x vs H Q=>∃l xs i k y,x=.ref l/\vs=[.int i]/\H l=some (.lst xs)/\-(2 ^63)<=i/\i<2 ^63/\seqIndex? i xs.length=some k/\xs[k]?=some y/\Q y (upd H l (.lst (xs.eraseIdx k)))
theorem CD:O9 X "list.pop" CC:=by
 intro pins s σ H x vs v us Q I rx rv h;obtain⟨l,xs,i,k,y,rfl,rfl,hH,h1,h2,hk,hy,q⟩:=h;cases rx;obtain⟨u,rfl,ru⟩:=rv.one;obtain⟨t,rfl⟩:=ru;obtain⟨z,aY,n,r,hl,e⟩:=I.CA hH;obtain⟨w,hw,kY⟩:=r.get hy;refine iM F.slot_list_pop ⟨_,e,rfl⟩ F.entry_list_pop (F.args_list_pop_2 _ _)
  (MeetsSeq.list_pop_at l aY.toArray n i t k w (fitsIndex_both h1 h2) (by rw[bf,<-hl];exact hk) (by rw[<-cQ];exact hw) (by rw[bf];omega)) ⟨e,?_⟩
 refine⟨y,_,I.L5 (uI:=aY.eraseIdx k) hH e ?_ (r.eraseIdx k) ?_,kY,q⟩
 ·show aY.toArray.eraseIdxIfInBounds k=(aY.eraseIdx k).toArray;rw[List.eraseIdxIfInBounds_toArray]
 ·have:=tL xs k;omega
def Q2:R2:=fun x y H Q=>∃l b xs zs,x=.ref l/\y=.ref b/\H l=some (.lst xs)/\H b=some (.lst zs)/\xs.length+zs.length<=sizeLine/\∀p,H p=none->Q (.ref p) (upd H p (.lst (xs++zs)))
theorem ID:oP X (binaryOp .Add) Q2:=by
 intro pins s σ H x y v u Q I rx ry h;obtain⟨l,b,xs,zs,rfl,rfl,hH,hB,hz,q⟩:=h;cases rx;cases ry;obtain⟨z,aY,n,r,hl,e⟩:=I.CA hH;obtain⟨z2,v9,n2,r2,EW,e2⟩:=I.CA hB;refine PySem.P.add_list e e2 ?_ (by rw[bf,bf];omega)
 have ea:aY.toArray++v9.toArray=(aY++v9).toArray:=by simp
 rw[ea];exact⟨.ref _,_,I.IC (t':=s.toks) (r.append r2) (by rw[bc];omega),rfl,q _ I.fresh⟩
def Q3:R2:=fun x y H Q=>∃l k xs,x=.ref l/\y=.int k/\H l=some (.lst xs)/\-(2 ^63)<=k/\k<2 ^63/\xs.length*k.toNat<=sizeLine/\
 ∀p,H p=none->Q (.ref p) (upd H p (.lst (List.replicate k.toNat xs).flatten))
theorem len_rep{α:Type}(xs:List α)(k:Nat):(List.replicate k xs).flatten.length=k*xs.length:=by
 induction k with
 |zero=>simp
 |succ k ih=>rw[je,iy,bc,ih,Nat.succ_mul,Nat.add_comm]
theorem IE:oP X (binaryOp .Mult) Q3:=by
 intro pins s σ H x y v u Q I rx ry h;obtain⟨l,k,xs,rfl,rfl,hH,h1,h2,hz,q⟩:=h;cases rx;obtain⟨t,rfl⟩:=ry;obtain⟨z,aY,n,r,hl,e⟩:=I.CA hH;have hlen:aY.toArray.size*k.toNat<=sizeLine:=by rw[bf,<-hl];exact hz
 have Q4:¬aY.toArray.size*k.toNat>(2 ^63 - 1)/8:=by
  have:(sizeLine:Nat)<=(2 ^63 - 1)/8:=by decide
  omega
 have Q5:¬(!Builtin.List.listFitsIndex k)=true:=by
  rw[fitsIndex_both h1 h2];exact cR
 have L6:¬Builtin.List.listTooLong (aY.toArray.size*k.toNat)=true:=by
  rw[CB hlen];exact cR
 have EY:List.foldl (fun x1 x2=>x1++x2) #[] (List.replicate (if aY.toArray.isEmpty=true then 0 else k.toNat) aY.toArray)=(List.replicate k.toNat aY).flatten.toArray:=by
  have f0:∀m:Nat,List.foldl (fun x1 x2=>x1++x2) #[] (List.replicate m aY.toArray)=(List.replicate m aY).flatten.toArray:=fun m=>by
   have:=foldl_rep aY m [];rw[mn]at this;exact this
  rw[f0];cases aY with
  |nil=>simp
  |cons a r'=>rw[ae (by simp)]
 refine wpAny_binaryOp_repeat_ref (T:="list") (U:="int") (by decide) ⟨_,e,rfl⟩ (fun s'=>typeIs_int s' k t) noFill_list_mul F.fills_int_mul F.slot_int_rmul repeat_list F.slot_int_index.lookup
  (iM F.slot_int_rmul (typeIs_int s k t) F.entry_int_rmul (F.args_int_rmul_2 _ _) (int___rmul___int_list k t l aY.toArray n)
   ⟨e,rfl,⟨_,e,rfl⟩,iM F.slot_list_mul ⟨_,e,rfl⟩ F.entry_list_mul (F.args_list_mul_2 _ _) (AutoListH.list___mul___list_int_3 l aY.toArray n k t Q5 Q4 L6) ⟨e,?_⟩⟩)
 rw[EY];exact⟨.ref _,_,I.IC (t':=s.toks) (r.rep k.toNat) (by rw[len_rep,Nat.mul_comm];exact hz),rfl,q _ I.fresh⟩
end
end L2
namespace L2
open PySem PySem.Spec PyProof.Rows
section
variable {κ:Type}[DecidableEq κ]
def kZ(aw:List (κ×V))(k:κ):Option V:=(aw.find? fun kv=>decide (kv.1=k)).map (·.2)
def putK(aw:List (κ×V))(k:κ)(v:V):List (κ×V):=
 if(aw.any fun kv=>decide (kv.1=k))=true then aw.map (fun kv=>if kv.1=k then(kv.1,v)else kv)else aw++[(k,v)]
theorem jZ{p:κ×V}{r:List (κ×V)}{k:κ}(e:p.1=k):kZ (p::r) k=some p.2:=by simp[kZ,dO,e]
theorem j1{p:κ×V}{r:List (κ×V)}{k:κ}(e:¬p.1=k):kZ (p::r) k=kZ r k:=by simp[kZ,dO,e]
theorem wb(k:κ):∀aw:List (κ×V),(aw.any fun kv=>decide (kv.1=k))=(kZ aw k).isSome
 |[]=>rfl
 |p::r=>by
  rw[gV];by_cases e:p.1=k
  ·simp only[jZ e,bt e,jQ,Option.isSome_some]
  ·rw[j1 e,aX e,mC];exact wb k r
theorem j2(aw:List (κ×V))(k:κ)(v:V):(putK aw k v).length<=aw.length+1:=by
 unfold putK;split
 ·rw[aj];omega
 ·rw[bc,a_,dz];omega
theorem nO.iQ {o:Option V}{u:Option Value}(r:nO o u):o.isSome=u.isSome:=by
 cases o with
 |none=>cases u with
  |none=>rfl
  |some _=>exact(show False from r).elim
 |some _=>cases u with
  |none=>exact(show False from r).elim
  |some _=>rfl
theorem nO.getD {o:Option V}{u:Option Value}{d:V}{d':Value}(r:nO o u)(rd:RelV d d'):RelV (o.getD d) (u.getD d'):=by
 cases o with
 |none=>cases u with
  |none=>exact rd
  |some _=>exact(show False from r).elim
 |some _=>cases u with
  |none=>exact(show False from r).elim
  |some _=>exact r
theorem KV.val {aw:List (κ×V)}{vs:List (κ×Value)}(r:KV aw vs)(k:κ):nO (kZ aw k) (valueAt vs k):=by
 unfold KV at r
 induction r with
 |nil=>exact True.intro
 |@cons p q ps qs h t ih=>
  obtain⟨h1,h2⟩:=h;by_cases e:p.1=k
  ·have e':q.1=k:=h1.symm.trans e;have b:valueAt (q::qs) k=some q.2:=by simp[valueAt,dO,e']
   rw[jZ e,b];exact h2
  ·have e':¬q.1=k:=fun z=>e (h1.trans z);have b:valueAt (q::qs) k=valueAt qs k:=by simp[valueAt,dO,e']
   rw[j1 e,b];exact ih
theorem KV.any {aw:List (κ×V)}{vs:List (κ×Value)}(r:KV aw vs)(k:κ):(aw.any fun kv=>decide (kv.1=k))=vs.any fun kv=>decide (kv.1=k):=by
 unfold KV at r
 induction r with
 |nil=>rfl
 |cons h t ih=>rw[gV,gV,ih,h.1]
theorem KV.IF {aw:List (κ×V)}{vs:List (κ×Value)}(r:KV aw vs)(k:κ){y:V}{u:Value}(ry:RelV y u):
  KV (aw.map fun kv=>if kv.1=k then(kv.1,y)else kv) (vs.map fun kv=>if kv.1=k then(kv.1,u)else kv):=by
 unfold KV at r⊢
 induction r with
 |nil=>exact .nil
 |@cons p q ps qs h t ih=>
  rw[ay,ay];refine .cons ?_ ih
  obtain⟨h1,h2⟩:=h;by_cases e:p.1=k
  ·rw[ab e,ab (h1.symm.trans e)];exact⟨h1,ry⟩
  ·rw[ae e,ae (fun z=>e (h1.trans z))];exact⟨h1,h2⟩
theorem KV.put {aw:List (κ×V)}{vs:List (κ×Value)}(r:KV aw vs)(k:κ){y:V}{u:Value}(ry:RelV y u):KV (putK aw k y) (stored vs k u):=by
 unfold putK stored;rw[r.any k];by_cases e:(vs.any fun kv=>decide (kv.1=k))=true
 ·rw[ab e,ab e];exact r.IF k ry
 ·rw[ae e,ae e];exact Paired.snoc r ⟨rfl,ry⟩
theorem KV.keys {aw:List (κ×V)}{vs:List (κ×Value)}(r:KV aw vs):aw.map (·.1)=vs.map (·.1):=by
 unfold KV at r
 induction r with
 |nil=>rfl
 |cons h t ih=>rw[ay,ay,ih,h.1]
theorem KV.length {aw:List (κ×V)}{vs:List (κ×Value)}(r:KV aw vs):aw.length=vs.length:=Paired.length r
end
theorem wc{P:Program}{w:World}{k:Key}{u:Value}(r:RelV (kV k) u):(az P w).is k u=true:=by
 cases k with
 |inl i=>obtain⟨t,e⟩:=(show∃t,u=Value.int i t from r);subst e;exact vU P w i t
 |inr x=>obtain⟨t,e⟩:=(show∃t,u=Value.str x t from r);subst e;exact vV P w x t
theorem tN{P:Program}{w:World}:∀{ks:List Key} {us:List Value},Vals (ks.map kV) us->ItemsAre (az P w) ks us
 |[],_,r=>by rw[List.map_nil]at r;cases r;exact .nil
 |k::ks,_,r=>by
  rw[ay]at r;cases r with
  |cons h t=>exact .cons (wc h) (tN t)
abbrev KT(H:Hp):List (List Key×V)->List (List Key×Addr×Value)->Prop:=Paired fun p q=>p.1=q.1/\H q.2.1=some (.tup (p.1.map kV))/\RelV p.2 q.2.2
theorem KT.val {H:Hp}{aw:List (List Key×V)}{xs:List (List Key×Addr×Value)}(r:KT H aw xs)(k:List Key):nO (kZ aw k) ((atKey xs k).map (·.2)):=by
 induction r with
 |nil=>exact True.intro
 |@cons p q ps qs h t ih=>
  obtain⟨h1,_,h2⟩:=h;by_cases e:p.1=k
  ·have e':q.1=k:=h1.symm.trans e;have b:atKey (q::qs) k=some q.2:=by simp[atKey,dO,e']
   rw[jZ e,b];exact h2
  ·have e':¬q.1=k:=fun z=>e (h1.trans z);have b:atKey (q::qs) k=atKey qs k:=by simp[atKey,dO,e']
   rw[j1 e,b];exact ih
theorem KT.IF {H:Hp}{aw:List (List Key×V)}{xs:List (List Key×Addr×Value)}(r:KT H aw xs)(k:List Key){y:V}{u:Value}(ry:RelV y u):
  KT H (aw.map fun kv=>if kv.1=k then(kv.1,y)else kv) (xs.map (putAt k u)):=by
 induction r with
 |nil=>exact .nil
 |@cons p q ps qs h t ih=>
  rw[ay,ay];refine .cons ?_ ih
  obtain⟨h1,h2,h3⟩:=h;unfold putAt;by_cases e:p.1=k
  ·rw[ab e,ab (h1.symm.trans e)];exact⟨h1,h2,ry⟩
  ·rw[ae e,ae (fun z=>e (h1.trans z))];exact⟨h1,h2,h3⟩
theorem KT.put {H:Hp}{aw:List (List Key×V)}{xs:List (List Key×Addr×Value)}(r:KT H aw xs)(k:List Key){b:Addr}{y:V}{u:Value}(hb:H b=some (.tup (k.map kV)))(ry:RelV y u):
  KT H (putK aw k y) (storedH xs k b u):=by
 have e:(aw.any fun kv=>decide (kv.1=k))=(atKey xs k).isSome:=by
  rw[wb,(r.val k).iQ,qG]
 unfold putK storedH;rw[e];by_cases q:(atKey xs k).isSome=true
 ·rw[ab q,ab q];exact r.IF k ry
 ·rw[ae q,ae q];exact Paired.snoc r ⟨rfl,hb,ry⟩
theorem KT.keeps {H H':Hp}{aw:List (List Key×V)}{xs:List (List Key×Addr×Value)}(r:KT H aw xs)(ht:∀b ys,H b=some (.tup ys)->H' b=some (.tup ys)):KT H' aw xs:=
 Paired.HV r fun _ _ z=>⟨z.1,ht _ _ z.2.1,z.2.2⟩
section
variable {P:Program}{w:World}{H:Hp}{h:Heap}{a:Addr}
theorem CF{u:HO}(ok:la P w H h)(e:Rd H a u):bu P w H h a u:=e.ok ok
theorem tO{aw:List (Key×V)}(ok:la P w H h)(e:Rd H a (.dK aw)):aw.length<=sizeLine/\(a==sysModules)=false/\∃vs,KV aw vs/\h.DictOf (az P w) a vs:=
 show bu P w H h a (.dK aw)from CF ok e
theorem L7{aw:List (Key×V)}(ok:la P w H h)(e:H a=some (.dK aw)):aw.length<=sizeLine/\(a==sysModules)=false/\∃vs,KV aw vs/\h.DictOf (az P w) a vs:=tO ok (.inl e)
theorem j3{ks:List Key}(ok:la P w H h)(e:H a=some (.tup (ks.map kV))):(tupleKind (az P w)).is h ks a:=by
 obtain⟨_,aY,r,o,h1,h2,n,h3,_⟩:=(show bu P w H h a (.tup (ks.map kV))from ok a _ e);exact⟨o,aY.toArray,n,h1,h2,h3,by simpa using tN r⟩
theorem tR{aw:List (List Key×V)}(ok:la P w H h)(e:Rd H a (.dT aw)):aw.length<=sizeLine/\(a==sysModules)=false/\
  ∃xs,KT H aw xs/\h.DictOfH (tupleKind (az P w)) a xs:=by
 obtain⟨z,y,xs,r,o,es,ep,h1,h2,h3,h4,h5⟩:=(show bu P w H h a (.dT aw)from CF ok e);refine⟨z,y,xs,r,o,es,ep,h1,h2,h3,h4,fun x hx=>?_,h5⟩;have all:∀{l:List (List Key×V)} {m:List (List Key×Addr×Value)},KT H l m->∀x∈m,(tupleKind (az P w)).is h x.1 x.2.1:=by
  intro l m q
  induction q with
  |nil=>intro x hx;exact nomatch hx
  |@cons p q ps qs hq t ih=>
   intro x hx;rcases aR.mp hx with e|hx
   ·subst e;exact j3 ok (by rw[<-hq.1];exact hq.2.1)
   ·exact ih x hx
 exact all r x hx
theorem L8{aw:List (List Key×V)}(ok:la P w H h)(e:H a=some (.dT aw)):aw.length<=sizeLine/\(a==sysModules)=false/\
  ∃xs,KT H aw xs/\h.DictOfH (tupleKind (az P w)) a xs:=tR ok (.inl e)
end
def o9(H:Hp)(a:Addr)(y:V)(r:Option V):Prop:=
 (∃aw k,Rd H a (.dK aw)/\y=kV k/\r=kZ aw k)\/∃aw k b,Rd H a (.dT aw)/\y=.ref b/\H b=some (.tup (k.map kV))/\r=kZ aw k
def uO(H:Hp)(a:Addr)(y v:V)(H':Hp):Prop:=
 (∃aw k,H a=some (.dK aw)/\y=kV k/\aw.length<sizeLine/\H'=upd H a (.dK (putK aw k v)))\/
 ∃aw k b,H a=some (.dT aw)/\y=.ref b/\H b=some (.tup (k.map kV))/\aw.length<sizeLine/\H'=upd H a (.dT (putK aw k v))
theorem o9.k {H:Hp}{a:Addr}{aw:List (Key×V)}{k:Key}(e:H a=some (.dK aw)):o9 H a (kV k) (kZ aw k):=.inl ⟨aw,k,.inl e,rfl,rfl⟩
theorem o9.t {H:Hp}{a b:Addr}{aw:List (List Key×V)}{k:List Key}(e:H a=some (.dT aw))(eb:H b=some (.tup (k.map kV))):o9 H a (.ref b) (kZ aw k):=.inr ⟨aw,k,b,.inl e,rfl,eb,rfl⟩
theorem uO.k {H:Hp}{a:Addr}{aw:List (Key×V)}{k:Key}{v:V}(e:H a=some (.dK aw))(hl:aw.length<sizeLine):uO H a (kV k) v (upd H a (.dK (putK aw k v))):=.inl ⟨aw,k,e,rfl,hl,rfl⟩
theorem uO.t {H:Hp}{a b:Addr}{aw:List (List Key×V)}{k:List Key}{v:V}(e:H a=some (.dT aw))(eb:H b=some (.tup (k.map kV)))(hl:aw.length<sizeLine):
  uO H a (.ref b) v (upd H a (.dT (putK aw k v))):=.inr ⟨aw,k,b,e,rfl,eb,hl,rfl⟩
section
variable {X:Cx}{pins:List (Addr×Obj)}{σ:St}{H:Hp}{s:Shared}{a:Addr}{y v:V}{u r:Value}{o:Option V}{A:Around}{E:Value->Shared->Prop}
theorem Inv.big (I:Inv X pins σ H s):sysModules<s.heap.objs.size:=by
 have h:mainGlobals<s.heap.objs.size:=(I.mod.glob.keeps I.bk).lt;exact Nat.lt_trans (by decide) h
theorem nU{Q:Value->Shared->Prop}(hu:A.units+1<cLine)(I:Inv X pins σ H s)(g:o9 H a y (some v))(ry:RelV y u)(h:∀w' s',Inv X pins σ H s'->RelV v w'->Q w' s'):
  wpAny (model X.prog X.w) A (getItem (.ref a) u) Q E s:=by
 rcases g with⟨aw,k,e,ey,l⟩|⟨aw,k,b,e,ey,eb,l⟩
 ·subst ey;obtain⟨z,hd,vs,rel,dd⟩:=tO I.bQ e;obtain⟨w',hw,kY⟩:=nO.some_of (v:=v) (o:=valueAt vs k) (by rw[l];exact rel.val k);exact wpAny_getItem_of (wc ry) dd.mapOf hw (h w' _ (I.tok _) kY)
 ·subst ey;cases(show u=Value.ref b from ry);obtain⟨z,hd,xs,rel,dd⟩:=tR I.bQ e;obtain⟨w',hw,kY⟩:=nO.some_of (v:=v) (o:=(atKey xs k).map (·.2)) (by rw[l];exact rel.val k);obtain⟨p,hp,IG⟩:=Option.map_eq_some_iff.mp hw;refine wpAny_getItem_heap (jf hu) (j3 I.bQ eb) dd hp ?_
  rw[IG];exact h w' _ (I.tok _) kY
theorem Q6{Q:Value->Shared->Prop}(hu:A.units+1<cLine)(I:Inv X pins σ H s)(g:o9 H a y o)(ry:RelV y u)(h:∀s',Inv X pins σ H s'->Q (.bool o.isSome) s'):
  wpAny (model X.prog X.w) A (compareOp .In u (.ref a)) Q E s:=by
 rcases g with⟨aw,k,e,ey,l⟩|⟨aw,k,b,e,ey,eb,l⟩
 ·subst ey;obtain⟨z,hd,vs,rel,dd⟩:=tO I.bQ e;refine wpAny_in_of (wc ry) hd dd.mapOf ?_
  rw[<-(rel.val k).iQ,<-l];exact h _ (I.tok _)
 ·subst ey;cases(show u=Value.ref b from ry);obtain⟨z,hd,xs,rel,dd⟩:=tR I.bQ e;refine wpAny_in_heap (jf hu) (j3 I.bQ eb) hd dd ?_
  have q:=(rel.val k).iQ;rw[qG]at q;rw[<-q,<-l];exact h _ (I.tok _)
theorem EZ{Q:Value->Shared->Prop}(hu:A.units+1<cLine)(I:Inv X pins σ H s)(g:o9 H a y o)(ry:RelV y u)(h:∀s',Inv X pins σ H s'->Q (.bool (!o.isSome)) s'):
  wpAny (model X.prog X.w) A (compareOp .NotIn u (.ref a)) Q E s:=by
 rcases g with⟨aw,k,e,ey,l⟩|⟨aw,k,b,e,ey,eb,l⟩
 ·subst ey;obtain⟨z,hd,vs,rel,dd⟩:=tO I.bQ e;refine wpAny_notIn_of (wc ry) hd dd.mapOf ?_
  rw[<-(rel.val k).iQ,<-l];exact h _ (I.tok _)
 ·subst ey;cases(show u=Value.ref b from ry);obtain⟨z,hd,xs,rel,dd⟩:=tR I.bQ e;refine wpAny_notIn_heap (jf hu) (j3 I.bQ eb) hd dd ?_
  have q:=(rel.val k).iQ;rw[qG]at q;rw[<-q,<-l];exact h _ (I.tok _)
theorem ze{h':Heap}{t':Nat}{ob:HO}(I:Inv X pins σ H s)(mu:Ly (H a))(hs:Heap.SameBut a s.heap h')(he:∃q,h'.get? a=some q)(new:bu X.prog X.w (upd H a ob) h' a ob):
  Inv X pins σ (upd H a ob) {s with heap:=h',toks:=t'}:=
 I.write (x:=a) (e:=a) mu (.inl rfl) (fun b q hb z=>(hs.2 b hb).trans z) he new
theorem IH{P:Program}{w:World}{H':Hp}{h':Heap}{aw:List (Key×V)}{vs:List (Key×Value)}(z:aw.length<=sizeLine)(hd:(a==sysModules)=false)(rel:KV aw vs)(dd:h'.DictOf (az P w) a vs):
  bu P w H' h' a (.dK aw):=⟨z,hd,vs,rel,dd⟩
theorem tU{H':Hp}{Q:Unit->Shared->Prop}(hu:A.units+1<cLine)(I:Inv X pins σ H s)(g:uO H a y v H')(ry:RelV y u)(rv:RelV v r)(h:∀s',Inv X pins σ H' s'->Q () s'):
  wpAny (model X.prog X.w) A (setItem (.ref a) u r) Q E s:=by
 rcases g with⟨aw,k,e,ey,l,eH⟩|⟨aw,k,b,e,ey,eb,l,eH⟩
 ·subst ey eH;obtain⟨z,hd,vs,rel,dd⟩:=L7 I.bQ e;have hz:vs.length<=sizeLine:=by rw[<-rel.length];exact z
  have hl:(putK aw k v).length<=sizeLine:=by have:=j2 aw k v;omega
  refine wpAny_setItem_pairs (hsz:=hz) (wc ry) dd fun h' GV hs=>h _ ?_
  have he:∃q,h'.get? a=some q:=let⟨q,_,_,hq,_⟩:=GV;⟨q,hq⟩
  exact ze I (by rw[e];exact True.intro) hs he (IH hl hd (rel.put k rv) GV)
 ·subst ey eH;cases(show u=Value.ref b from ry);obtain⟨z,hd,xs,rel,dd⟩:=L8 I.bQ e;have hz:xs.length<=sizeLine:=by rw[<-Paired.length rel];exact z
  have hl:(putK aw k v).length<=sizeLine:=by have:=j2 aw k v;omega
  refine wpAny_setItem_heap (hsz:=hz) (jf hu) (j3 I.bQ eb) dd fun h' GV hs=>h _ ?_
  obtain⟨q,es,ep,hq,h2,h3,h4,_,h5⟩:=GV;refine ze I (by rw[e];exact True.intro) hs ⟨q,hq⟩ ⟨hl,hd,_,(rel.put k eb rv).keeps fun c ys ec=>?_,q,es,ep,hq,h2,h3,h4,h5⟩;rw[ak (Lw ec e (fun z=>nomatch z))];exact ec
end
section
variable {X:Cx}{pins:List (Addr×Obj)}{σ:St}{H:Hp}{s:Shared}{a:Addr}{aw:List (Key×V)}{k:Key}{u:Value}{A:Around}{E:Value->Shared->Prop}
theorem L9{Q:Value->Shared->Prop}(I:Inv X pins σ H s)(e:Rd H a (.dK aw))(h:∀t s',Inv X pins σ H s'->Q (.int aw.length t) s'):wpAny (model X.prog X.w) A (call (.builtin "len") [.ref a]) Q E s:=by
 obtain⟨z,hd,vs,rel,dd⟩:=tO I.bQ e;refine call_len_dict hd dd (by rw[<-rel.length];rw[bS]at z;omega) ?_
 rw[<-rel.length];exact h _ _ (I.tok _)
end
theorem oQ{X:Cx}{pins:List (Addr×Obj)}{σ:St}{H:Hp}{s:Shared}{a:Addr}{y:V}{o:Option V}(I:Inv X pins σ H s)(g:o9 H a y o):s.TypeIs (.ref a) "dict":=by
 rcases g with⟨aw,k,e,_,_⟩|⟨aw,k,b,e,_,_,_⟩
 ·obtain⟨_,_,vs,_,dd⟩:=tO I.bQ e;exact dd.typeIs
 ·obtain⟨_,_,xs,_,dd⟩:=tR I.bQ e;exact dd.typeIs
def L_(td ty tv:TE):TS:=fun D σ H=>tv σ H fun v H1=>td σ H1 fun x H2=>ty σ H2 fun y H3=>∃a H4,x=.ref a/\uO H3 a y v H4/\D.nx σ H4
def Ma(td ty tv:TE)(rd:V->V->Hp->VK->Prop):TS:=fun D σ H=>td σ H fun x H1=>ty σ H1 fun y H2=>∃a v,x=.ref a/\o9 H2 a y (some v)/\
 tv σ H2 fun y2 H3=>rd v y2 H3 fun z H4=>∃H5,uO H4 a y z H5/\D.nx σ H5
section
variable {X:Cx}{o i e value:Expr}{pos pos' v5:Pos}{td ty tv:TE}
theorem E1(hu:X.A.units+1<cLine)(ho:PE X o td)(hi:PE X i ty)(hv:PE X value tv)(hs:swapsWith value (some (.Subscript o i pos')) pos.line X.env=pure false):
  PS X (.Assign [.Subscript o i pos'] value pos) (L_ td ty tv):=by
 intro pins s σ H D I h;refine wpAny_Assign_Subscript (dY (hv pins s σ H _ I h) fun r s1 ⟨v,H1,I1,rv,q1⟩=>dY (ho pins s1 σ H1 _ I1 q1) fun u s2 ⟨x,H2,I2,rx,q2⟩=>dY (hi pins s2 σ H2 _ I2 q2) fun iv s3 ⟨y,H3,I3,ry,a,H4,ex,g,q3⟩=>?_) hs;subst ex;obtain rfl:u=Value.ref a:=rx;exact tU hu I3 g ry rv fun s4 I4=>⟨σ,H4,I4,q3⟩
theorem E2{op:Operator}{rd:V->V->Hp->VK->Prop}(hu:X.A.units+1<cLine)(ho:PE X o td)(hi:PE X i ty)(hv:PE X value tv)(UU:Ip X op rd)
  (ha:∀ov iv new,augStore i ov iv new=(do holding [new,ov,iv] (setItem ov iv new);release [new,ov,iv] [];pure .next)):PS X (.AugAssign (.Subscript o i v5) op value pos) (Ma td ty tv rd):=by
 intro pins s σ H D I h;refine wpAny_AugAssign_SubscriptAny (dY (ho pins s σ H _ I h) fun u s1 ⟨x,H1,I1,rx,q1⟩=>dY (hi pins s1 σ H1 _ I1 q1) fun iv s2 ⟨y,H2,I2,ry,a,v,ex,g,q2⟩=>?_) ha;subst ex;obtain rfl:u=Value.ref a:=rx;refine nU hu I2 g ry fun w' s3 I3 kY=>dY (hv pins s3 σ H2 _ I3 q2) fun w2 s4 ⟨y2,H3,I4,UW,q3⟩=>dY (UU pins s4 σ H3 v y2 w' w2 _ I4 kY UW q3) fun w3 s5 ⟨z,H4,I5,rz,H5,g5,q4⟩=>?_
 exact tU hu I5 g5 ry rz fun s6 I6=>⟨σ,H5,I6,q4⟩
end
theorem CG{P:Program}{w:World}{H:Hp}(h:Heap)(hb:sysModules<h.objs.size):bu P w H (h.push {cls:=.type "dict",data:=.dict #[]}) h.objs.size (.dT []):=
 ⟨bG _,beq_eq_false_iff_ne.mpr (bY (aS hb)),[],.nil,_,#[],0,aU _ rfl,⟨rfl,rfl,rfl⟩,rfl,rfl,en⟩
def II:TE:=fun _ H Q=>∀p,H p=none->Q (.ref p) (upd H p (.dT []))
section
variable {X:Cx}{pos:Pos}
theorem CH:PE X (.Dict [] [] pos) II:=fun pins s σ H Q I h=>
 wpAny_Dict_empty ⟨.ref s.heap.objs.size,_,I.laid (a:=s.heap.objs.size) (o:=.dT []) (t':=s.toks) (fun _ _ q=>aD _ q) (aA _) (CG s.heap I.big),rfl,h _ (I.bQ.fresh (aA _))⟩
end
end L2
namespace Tw
open PySem PySem.W PySem.Calls PyProof.Rows
theorem o_{P:Params}{h:Heap}:∀(ns:List Int) (vs:List Value),WellAll P h vs (ns.map WData.int)->IntsAre vs ns:=by
 intro ns
 induction ns with
 |nil=>
  intro vs w;rw[List.map_nil]at w;cases w;exact .nil
 |cons n ns ih=>
  intro vs w;rw[ay]at w;cases w with
  |cons a b=>
   cases a;exact .cons _ _ (ih _ b)
theorem AR{l:OpenLaw}{n:Nat}(hn:l.most=some n){P:Params}{h:Heap}{args:List WData}{vals:List Value}
  (E3:l.row.toRowW.claim.pre args=true) (Q7:WellAll P h vals args):
  ∃a vs ns,vals=[Value.ref a]/\args=[WData.list (ns.map WData.int)]/\h.get? a=some {cls:=.type "list",data:=.seq vs.toArray}/\IntsAre vs ns/\ns.length<=n:=by
 have UX:WShape.hasAll [] args [.list .int]=true:=(pre_splitW E3).1;have hc:l.pre.holds [] {args:=args}=true:=(pre_splitW E3).2;obtain⟨d,r,rfl,h1,h2⟩:=hasAllW_cons UX;obtain rfl:=hasAllW_nil h2;obtain⟨xs,rfl,h3⟩:=hasW_list h1;obtain⟨ns,rfl⟩:=items_int h3;have hlen:ns.length<=n:=by
  unfold OpenLaw.pre at hc;have h4:(WTm.not (.lt (.lit (.int (n:Int))) (.len (.arg 0)))).holds [] {args:=[.list (ns.map .int)]}=true:=by
   have h4:=(holds_andW hc).1;rw[hn]at h4;exact h4
  have h5:=condW_of h4 (w_not (w_lt w_lit (w_len_list (w_arg rfl))));rw[aj]at h5;refine qN fun q=>?_
  have q':(n:Int)<((ns.length:Nat):Int):=by omega
  first
   |(rw[bt q']at h5;exact absurd h5 (by decide))
   |(simp at h5;omega)
 cases Q7 with
 |cons w1 w2=>
  cases w2;cases w1 with
  |list ho sR=>exact⟨_,_,ns,rfl,rfl,ho,o_ ns _ sR,hlen⟩
theorem AS(l:OpenLaw)(args:List WData):l.row.toRowW.claim.post args (.bool true) args=true:=
 postW_of (r:=l.row.toRowW) (X:=(true==true))
  (show WShape.has [] (.bool true) .bool=true by first|rfl|decide|simp[WShape.has,WShape.arms,WShape.armsAll])
  (show(WTm.eq .res (.lit (.bool true))).value [] {args:=args,res:=some (.bool true),after:=args}=some (.bool (true==true))from w_eq_bool (w_res rfl) w_lit) rfl
theorem wd{l:OpenLaw}{n:Nat}{q:Program}{loose:List Str}{XP:(Str->Option Value)->Heap->Prop}{YP:World->Heap->Prop}{d:DefRec}
  (hn:l.most=some n) (Mb:d.params.defaults=[])
  (call:∀(w:World) (eZ bV:Shared) (mg mb:Str->Option Value) (fa:Addr) (o:Obj) (pm cd doc:Value) (a:Addr) (vs:List Value) (ns:List Int),
   Ground q loose [] XP w eZ mg mb bV.heap->YP w bV.heap->
   bV.heap.get? fa=some o->o.data=.func (docDef d.name d.params d.body d.scope pm cd doc)->bV.heap.CodeRec cd d.name->mg d.name=some (.ref fa)->
   bV.heap.get? a=some {cls:=.type "list",data:=.seq vs.toArray}->IntsAre vs ns->ns.length<=n->bV.gens=#[]->
   codeAny (model l.prog w) callerA (.call (.ref fa) ⟨[.ref a],[]⟩) (fun r s'=>r=.ok (.ret (.bool true))/\OldK bV.heap s'.heap/\s'.os=bV.os/\AllBare s'.gens) bV):
  WalkO q loose XP YP l.row.toRowW d [] (fun f vs=>PySem.call f vs):=by
 intro w eZ bV mg mb G Y fa o pm cd doc dV kV ho hd o7 hD Mc hg args vals as E3 UY Xm Q7 Xn;obtain rfl:dV=.none:=Dflts.none hD Mb;obtain rfl:kV=.none:=Dflts.noKw hD;obtain⟨a,vs,ns,rfl,rfl,IJ,hints,hlen⟩:=AR hn E3 Q7;refine enter_call (fV (call w eZ bV mg mb fa o pm cd doc a vs ns G Y ho (fd_plain hd) o7 Mc IJ hints hlen hg) fun r s' hq=>?_);obtain⟨rfl,h2,h3,h4⟩:=hq;exact⟨.inl ⟨.bool true,.bool true,[],rfl,fun _=>rfl,.bool true,AS l _,fun _=>⟨List.Pairwise.nil,fun _ hm=>(nomatch hm)⟩⟩,h2,h3,h4⟩
end Tw
namespace L2
open PySem PySem.Spec PyProof.Rows
theorem tV:∀{vs:List Value} {ns:List Int},IntsAre vs ns->Vals (ns.map V.int) vs
 |_,_,.nil=>.nil
 |_,_,.cons n t h=>.cons ⟨t,rfl⟩ (tV h)
theorem CI{P:Program}{w:World}{K:PySem.W.Frag}{mg mb:Str->Option Value}{CX:x6}{k:Nat}{fa a:Addr}{fd:FuncData}{x:Str}{sp:Sp}{bV:Shared}{vs:List Value}{ns:List Int}{tc tP:Addr}{tq:Str}
  (KX:K.In bV.heap) (AU:bV.heap.Ns mainGlobals mg) (hb:bV.heap.Ns builtinsNs mb) (Q8:∀x:Str,x≠"__name__"->mb x=bootBuiltins x) (IK:bV.heap.NoLimit) (hg:bV.gens=#[])
  (Md:∃bm ob,mg "__builtins__"=some (.ref bm)/\bm≠builtinsNs/\bm≠mainGlobals/\bV.heap.get? bm=some ob/\ob.cls=.type "module"/\ob.dict=some builtinsNs/\ob.data=.plain) (hC:PySem.W.CodeHd bV.heap tc tP) (hP:bV.heap.get? tP=some (PySem.W.tabObj #[])) (IL:K.lookup tP=none)
  (ha:bV.heap.get? a=some {cls:=.type "list",data:=.seq vs.toArray}) (hi:IntsAre vs ns) (hl:ns.length<=sizeLine) (hr:dA k callerA)
  (F:∀base:Heap,K.In base->base.Ns mainGlobals mg->f6 P w K mg base CX k fa fd [x] sp) (we:∀(s:Shared) (u:Value),BindsTo s fd ⟨[u],[]⟩ [(x,u)])
  (GP:∀H:Hp,H tP=some (.vK #[.str tq 0])->iN K H a (ns.map V.int)->sp [.ref a] H (fun v _=>v=.bl true) fun _ _ _=>False)
  (Q9:∀H e s',CX [] H bV (fun _ _ _=>False) e s'->False):
  codeAny (model P w) callerA (.call (.ref fa) ⟨[.ref a],[]⟩) (fun r s'=>r=.ok (.ret (.bool true))/\OldK bV.heap s'.heap/\s'.os=bV.os/\AllBare s'.gens) bV:=by
 have rv:=tV hi;have Q_:=hi.length;have Ra:a≠tP:=fun z=>by rw[z,hP]at ha;cases ha
 have Me:∀H:Hp,bu P w H bV.heap tP (.vK #[.str tq 0]):=fun H=>⟨#[],hP,trivial,fun pos v e=>by cases e⟩;have core:∀H:Hp,H tP=some (.vK #[.str tq 0])->iN K H a (ns.map V.int)->la P w H bV.heap->(∀b,H b≠none->b=a\/b=tP)->(H a≠none->K.lookup a=none)->(∀u,H a=some u->∃o xs,u=.fZ o (.lst xs))->
   codeAny (model P w) callerA (.call (.ref fa) ⟨[.ref a],[]⟩) (fun r s'=>r=.ok (.ret (.bool true))/\OldK bV.heap s'.heap/\s'.os=bV.os/\AllBare s'.gens) bV:=by
  intro H hT hS bQ hA hK hF;have uP:∀{b:Addr} {o:Obj},bV.heap.get? b=some o->H b=none->(uG bV.heap H).get? b=some o:=fun e n=>Ca e n;have K5:∀{b:Addr} {o:Obj},bV.heap.get? b=some o->(∀xs n,o.data≠ .seq xs n)->(∀xs,o.data≠ .fields xs)->H b=none:=fun{b o} e d1 d2=>by
   cases q:H b with
   |none=>rfl
   |some u=>
    rcases hA b (by rw[q];simp)with e'|e'
    ·subst e';rw[ha]at e;cases e;exact absurd rfl (d1 _ _)
    ·subst e';rw[hP]at e;cases e;exact absurd rfl (d2 _)
  have O_:∀{b:Addr} {m:Str->Option Value},bV.heap.Ns b m->(uG bV.heap H).Ns b m:=fun{b m} ⟨o,es,ep,e,d,r⟩=>⟨o,es,ep,uP e (K5 e (fun _ _ z=>by rw[d]at z;cases z) fun _ z=>by rw[d]at z;cases z),d,r⟩;have Tx:K.In (uG bV.heap H):=fun b o e=>uP (KX b o e) (by
   cases q:H b with
   |none=>rfl
   |some u=>
    rcases hA b (by rw[q];simp)with e'|e'
    ·subst e';rw[hK (by rw[q];simp)]at e;cases e
    ·subst e';rw[IL]at e;cases e)
  have hM:Mod K mg (uG bV.heap H):=⟨Tx,O_ AU,⟨mb,O_ hb,Q8⟩,(let⟨mc,h1,h2⟩:=IK;⟨mc,O_ h1,h2⟩),(let⟨bm,ob,b1,b2,b3,b4,b5,b6,b7⟩:=Md;⟨bm,ob,b1,b2,b3,uP b4 (K5 b4 (fun _ _ z=>by rw[b7]at z;cases z) fun _ z=>by rw[b7]at z;cases z),b5,b6,b7⟩)⟩;have e0:ER P w K mg (uG bV.heap H) callerA [] bV H:=⟨rfl,hM,fun b o e=>EE e,Nat.le_of_eq (AI _ _),trivial,fun b hb=>absurd (show b∈([]:List Addr)from hb) (by simp),bQ,.of_eq hg⟩;refine fV ((F _ Tx (O_ AU)).run callerA [] bV H ⟨[.ref a],[]⟩ [.ref a] [.ref a] _ _ hr e0 (we bV (.ref a)) (.cons rfl .nil) (GP H hT hS)) fun r s' h=>?_
  cases r with
  |error e=>exact(Q9 H e s' h).elim
  |ok fl=>
   cases fl with
   |next=>exact False.elim h
   |brk=>exact False.elim h
   |cont=>exact False.elim h
   |ret u=>
    obtain⟨v,H',os,bare,un,Mf,r',q⟩:=h;have q':v=.bl true:=q;subst q';obtain rfl:u=Value.bool true:=r';have keep:∀b o,b≠tP->bV.heap.get? b=some o->s'.heap.get? b=some o:=fun b o nb e=>by
     cases q:H b with
     |none=>exact un.keep b o e q (by intro z;exact absurd (show b∈([]:List Addr)from z) (by simp)) (by simp)
     |some u=>
      rcases hA b (by rw[q];simp)with e'|e'
      ·subst e';obtain⟨ob,xs,z⟩:=hF u q;subst z;have z2:=un.jx b ob _ q;obtain⟨e1,_⟩:=bQ b _ q;obtain⟨e2,_⟩:=Mf b _ z2;rw[e]at e1;cases e1;exact e2
      ·exact absurd e' nb
    obtain⟨more,UZ⟩:=un.jV tP _ hT;obtain⟨qs,hq,_⟩:=Mf tP _ UZ;refine⟨rfl,⟨fun b o e=>?_,fun b o e=>?_⟩,os,bare⟩
    ·by_cases nb:b=tP
     ·subst nb;rw[hP]at e;cases e;exact .inr (.inl ⟨(hC.tab hP).isCodeTable,rfl,#[],qs,rfl,by rw[Array.empty_append];exact hq⟩)
     ·exact .inl (keep b o nb e)
    ·by_cases nb:b=tP
     ·subst nb;exact⟨_,hq⟩
     ·exact⟨o,keep b o nb e⟩
 cases hk:K.lookup a with
 |some o=>
  have e:=KX a o hk;rw[ha]at e;cases e;refine core (fun b=>if b=tP then some (.vK #[.str tq 0])else none) (ab rfl) (.inr ⟨_,vs.toArray,_,hk,rfl,rfl,rfl,by rw[bf,Q_];exact hl,by simpa using rv⟩) (fun b u z=>?_) (fun b z=>?_) (fun z=>absurd (ae Ra) z) fun u z=>by rw[ae Ra]at z;cases z
  ·by_cases hb:b=tP
   ·have z':=(ab hb).symm.trans z;cases z';rw[hb];exact Me _
   ·have z':=(ae hb).symm.trans z;cases z'
  ·by_cases hb:b=tP
   ·exact .inr hb
   ·exact absurd (ae hb) z
 |none=>
  refine core (fun b=>if b=a then some (.fZ {cls:=.type "list",data:=.seq vs.toArray} (.lst (ns.map V.int)))else if b=tP then some (.vK #[.str tq 0])else none) ((ae (bY Ra)).trans (ab rfl)) (.inl (.inr ⟨{cls:=.type "list",data:=.seq vs.toArray},ab rfl⟩)) (fun b u z=>?_) (fun b z=>?_) (fun _=>hk) fun u z=>?_
  ·by_cases hb:b=a
   ·have z':=(ab hb).symm.trans z;cases z';subst hb;exact⟨ha,by rw[aj];exact hl,vs,_,rv,ha⟩
   ·have z':=(ae hb).symm.trans z;by_cases E4:b=tP
    ·have z2:=(ab E4).symm.trans z';cases z2;rw[E4];exact Me _
    ·have z2:=(ae E4).symm.trans z';cases z2
  ·by_cases hb:b=a
   ·exact .inl hb
   ·by_cases E4:b=tP
    ·exact .inr E4
    ·exact absurd ((ae hb).trans (ae E4)) z
  ·have z':=(ab rfl).symm.trans z;cases z';exact⟨_,_,rfl⟩
end L2
namespace L2
open PySem PySem.Spec PyProof.Rows
theorem E5{l:PySem.W.OpenLaw}{n k:Nat}{q:Program}{loose:List Str}{XP:(Str->Option Value)->Heap->Prop}{YP:World->Heap->Prop}{d:DefRec}{K:Params->PySem.W.Frag}{CX:World->x6}{sp:World->Sp}{x:Str}{tc tP:Addr}{tq:Str}
  (hn:l.most=some n) (O':n<=sizeLine) (Mb:d.params.defaults=[]) (hr:dA k callerA)
  (hY:∀(w:World) (h:Heap),YP w h->(K w.params).In h) (hC:∀(w:World) (h:Heap),YP w h->PySem.W.CodeHd h tc tP) (hP:∀(w:World) (h:Heap),YP w h->h.get? tP=some (PySem.W.tabObj #[])) (IL:∀w:World,(K w.params).lookup tP=none)
  (F:∀(w:World) (mg:Str->Option Value) (fa:Addr) (h:Heap),(K w.params).In h->h.Ns mainGlobals mg->mg d.name=some (.ref fa)->
   ∃fd:FuncData,(∀(s:Shared) (u:Value),BindsTo s fd ⟨[u],[]⟩ [(x,u)])/\
    ∀base:Heap,(K w.params).In base->base.Ns mainGlobals mg->f6 l.prog w (K w.params) mg base (CX w) k fa fd [x] (sp w))
  (GP:∀(w:World) (H:Hp) (a:Addr) (ns:List Int),ns.length<=n->H tP=some (.vK #[.str tq 0])->iN (K w.params) H a (ns.map V.int)->sp w [.ref a] H (fun v _=>v=.bl true) fun _ _ _=>False)
  (Q9:∀(w:World) (H:Hp) (s:Shared) (e:Value) (s':Shared),CX w [] H s (fun _ _ _=>False) e s'->False):
  PySem.W.WalkO q loose XP YP l.row.toRowW d [] (fun f vs=>PySem.call f vs):=by
 refine Tw.wd hn Mb fun w eZ bV mg mb fa o pm cd doc a vs ns G Y ho hd o7 Mc IJ hints hlen hg=>?_
 have KX:=hY w _ Y;obtain⟨fd,hb,hF⟩:=F w mg fa _ KX G.T.g Mc;have Md:∃bm ob,mg "__builtins__"=some (.ref bm)/\bm≠builtinsNs/\bm≠mainGlobals/\bV.heap.get? bm=some ob/\ob.cls=.type "module"/\ob.dict=some builtinsNs/\ob.data=.plain:=by
  obtain⟨bm,ob,b1,b2,b3,b4,b5,b6⟩:=G.T.bmain;refine⟨bm,ob,b1,b2,fun z=>?_,b3,b4,b5,b6⟩;obtain⟨o,es,ep,e,hd,_⟩:=G.T.g;rw[z,e]at b3;cases b3;rw[hd]at b6;cases b6
 exact CI KX G.T.g G.T.b G.T.builtins G.T.nolimit hg Md (hC w _ Y) (hP w _ Y) (IL w) IJ hints (bp hlen O') hr hF hb (fun H hO hS=>GP w H a ns hlen hO hS) fun H e s'=>Q9 w H bV e s'
end L2
namespace L2
open PySem PySem.Spec PyProof.Rows
def pN(s:Stmt):Arguments:=match s with
 |.FunctionDef _ a _ _ _ _ _ _ _ _=>a
 |_=>{posonlyargs:=[],args:=[],vararg:=none,kwonlyargs:=[],kw_defaults:=[],kwarg:=none,defaults:=[]}
def cY(s:Stmt):List Stmt:=match s with
 |.FunctionDef _ _ b _ _ _ _ _ _ _=>b
 |_=>[]
def aF(s:Stmt):Scope:=match s with
 |.FunctionDef _ _ _ _ _ _ sc _ _ _=>sc
 |_=>{kind:=.function,names:=[],isGenerator:=false,isCoroutine:=false}
abbrev lz:x6:=fun _ _ _ _ _ _=>False
abbrev E0:XK:=fun _ _ _=>False
theorem Mg{X:Cx}:Passes lz X E0:=fun _ _ _ _ _ _ _ h=>h.elim
structure sS(K:PySem.W.Frag)(x qual:Str)(st:Stmt)(f:Addr)(fd:FuncData):Prop where
 ex:∃(oc:Value) (od:Option Addr) (kV doc pm:Value) (an:Option Addr) (cX ct:Value) (y9:Array (Option Value)),
  fd=PySem.W.fnOf x qual (pN st) (cY st) (aF st) .none kV doc pm an cX ct/\K.lookup f=some ⟨oc,od,.func fd,y9⟩/\PySem.W.codeIn K cX qual=true
 kp:PySem.W.keepIn K (.ref f)=true
section
variable {P:Program}{w:World}{K:PySem.W.Frag}{mg:Str->Option Value}{base:Heap}
theorem sS.ok {x qual:Str}{st:Stmt}{f:Addr}{fd:FuncData}{N ps:List Str}{k:Nat}{sp:Sp}(F:sS K x qual st f fd)(S:dR N ps (aF st))(len:∀vs H Q E,sp vs H Q E->vs.length=ps.length)
  (g7:∀(cX:Value) (A:Around) (outer:List Env) (s:Shared) (H:Hp) (vs:List V) (Q:VK) (E:XK),dA k (A.deeper (envOfC qual (aF st) s.heap.objs.size f cX))->sp vs H Q E->
   ∃t,jW (jz lz P w K mg base N qual (aF st) f cX A outer s H E).B5 (cY st) t/\t {nx:=fun _ H'=>Q .cq H',rt:=Q} (start N vs) H):f6 P w K mg base lz (k+1) f fd ps sp:=by
 obtain⟨oc,od,kV,doc,pm,an,cX,ct,y9,rfl,lk,o7⟩:=F.ex;refine Cw lk o7 S len fun A outer s H vs Q E hr GP=>?_
 obtain⟨t,h,q⟩:=g7 cX A outer s H vs Q E hr GP;exact⟨t,h.B5,q⟩
theorem sS.binds {x qual:Str}{st:Stmt}{f:Addr}{fd:FuncData}{ps:List Str}(F:sS K x qual st f fd)
  (h:∀(kV doc pm:Value) (an:Option Addr) (cX ct:Value) (us:List Value),us.length=ps.length->bindArgs (PySem.W.fnOf x qual (pN st) (cY st) (aF st) .none kV doc pm an cX ct) ⟨us,[]⟩=pure (ps.zip us)):Binds K fd ps []:=by
 obtain⟨oc,od,kV,doc,pm,an,cX,ct,y9,rfl,lk,o7⟩:=F.ex;exact .all (h kV doc pm an cX ct)
end
theorem dg{A:Around}{k:Nat}(hr:dA k A):A.units+1<cLine:=Nat.lt_of_le_of_lt (Nat.add_le_add_left (by decide:1<=64) _) hr.units
theorem IM{A B:Prop}(h:B):if false=true then A else B:=by
 rw[ae cR];exact h
theorem IP{A B:Prop}(h:A):if true=true then A else B:=by
 rw[ab rfl];exact h
def au(H H':Hp):Prop:=∀b o,H b=some o->H' b=some o
theorem au.refl (H:Hp):au H H:=fun _ _ h=>h
theorem au.trans {H H1 H2:Hp}(a:au H H1)(b:au H1 H2):au H H2:=fun c o h=>b c o (a c o h)
theorem au.free {H H':Hp}(e:au H H'){l:Addr}(h:H' l=Option.none):H l=Option.none:=by
 cases q:H l with
 |none=>rfl
 |some o=>
  rw[e l o q]at h;cases h
theorem au.seq {K:PySem.W.Frag}{H H':Hp}{a:Addr}{xs:List V}(e:au H H')(h:iN K H a xs):iN K H' a xs:=by
 rcases h with(h|⟨o,h⟩)|h
 ·exact .inl (.inl (e _ _ h))
 ·exact .inl (.inr ⟨o,e _ _ h⟩)
 ·exact .inr h
end L2
namespace L2
open PySem PySem.Spec PyProof.Rows
theorem rl{α β:Type}{f:α->β->Sem (ForInStep β)}{g:β->α->β}:∀(l:List α) (c:β),(∀x∈l,∀c,f x c=pure (.yield (g c x)))->forIn l c f=(pure (l.foldl g c):Sem β)
 |[],c,_=>rfl
 |x::l,c,h=>by
  rw[qQ,h x aW,pure_bind];exact rl l _ fun y hy=>h y (aV _ hy)
def il(env:Env)(cs:List (Str×Addr))(x:Str×NameKind):List (Str×Addr):=if x.2== .free then(x.1,(env.cells.lookup x.1).getD 0)::cs else cs
def uQ(scope:Scope)(env:Env):List (Str×Addr):=scope.names.foldl (il env) []
theorem jk{scope:Scope}{env:Env}(h:∀x∈scope.names,x.2=.free->∃c,env.cells.lookup x.1=some c):closureFor scope env=pure (uQ scope env):=by
 simp only[closureFor];rw[rl (g:=il env) scope.names [] (fun x hx c=>by
  obtain⟨n,k⟩:=x;by_cases hk:k=.free
  ·subst hk;obtain⟨a,ha⟩:=h _ hx rfl;have dB:env.cells.lookup n=some a:=ha;simp[cellOf,dB,il]
  ·have e:(k==NameKind.free)=false:=by simpa using hk
   simp[e,il])]
 rfl
theorem lA{env:Env}:∀(names:List (Str×NameKind)) (acc:List (Str×Addr)),(∀x∈names,x.2=.free->∃c,env.cells.lookup x.1=some c)->(∀x c,acc.lookup x=some c->env.cells.lookup x=some c)->
  ∀x c,(names.foldl (il env) acc).lookup x=some c->env.cells.lookup x=some c
 |[],_,_,ha,x,c,e=>ha x c e
 |(n,k)::r,acc,hf,ha,x,c,e=>by
  refine lA r (il env acc (n,k)) (fun y hy=>hf y (aV _ hy)) (fun y d ed=>?_) x c e;unfold il at ed;by_cases hk:k=.free
  ·subst hk;obtain⟨a,hn⟩:=hf (n,.free) aW rfl;have KW:env.cells.lookup n=some a:=hn;simp only[bD,fY,KW,Option.getD_some,cS]at ed;split at ed
   ·rename_i hy;have:y=n:=by simpa using hy
    subst this;rw[KW];exact ed
   ·exact ha y d ed
  ·have e:(k==NameKind.free)=false:=by simpa using hk
   simp only[e,bX,bB]at ed;exact ha y d ed
theorem lB{env:Env}:∀(names:List (Str×NameKind)) (acc:List (Str×Addr)) (x:Str),((acc.lookup x).isSome=true\/(x,NameKind.free)∈names)->((names.foldl (il env) acc).lookup x).isSome=true
 |[],_,_,h=>h.elim (fun z=>z) fun z=>absurd z (by simp)
 |(n,k)::r,acc,x,h=>by
  refine lB r (il env acc (n,k)) x ?_
  unfold il;rcases h with h|h
  ·left;split
   ·rw[cS];split<;>simp_all
   ·exact h
  ·rcases aR.mp h with h|h
   ·left;cases h;simp[cS]
   ·exact .inr h
theorem lC{env:Env}:∀{names:List (Str×NameKind)} {x:Str} {k:NameKind},(names.map fun(n,k)=>if(k==NameKind.free&&env.scope.kind== .function&&env.kindOf n==some .cell)then(n,NameKind.cell)else(n,k)).lookup x=some k->
  names.lookup x=some k\/names.lookup x=some .free
 |[],_,_,h=>by simp at h
 |(n,j)::r,x,k,h=>by
  simp only[ay]at h;by_cases hx:x=n
  ·subst hx;by_cases hc:(j==NameKind.free&&env.scope.kind== .function&&env.kindOf x==some .cell)=true
   ·rw[ab hc]at h;simp only[aM,iL]at hc;right;rw[cS,bD,hc.1.1]
   ·rw[ae hc]at h;left;rw[cS,bD]at h⊢;exact h
  ·have e:(x==n)=false:=by simpa using hx
   have h':(r.map fun(n,k)=>if(k==NameKind.free&&env.scope.kind== .function&&env.kindOf n==some .cell)then(n,NameKind.cell)else(n,k)).lookup x=some k:=by
    split at h<;>(rw[cS,e]at h;exact h)
   rcases lC h' with z|z
   ·left;rw[cS,e];exact z
   ·right;rw[cS,e];exact z
theorem mP{env:Env}:∀{names:List (Str×NameKind)} {x:Str},names.lookup x=some .free->
  (names.map fun(n,k)=>if(k==NameKind.free&&env.scope.kind== .function&&env.kindOf n==some .cell)then(n,NameKind.cell)else(n,k)).lookup x=some .cell\/
  (names.map fun(n,k)=>if(k==NameKind.free&&env.scope.kind== .function&&env.kindOf n==some .cell)then(n,NameKind.cell)else(n,k)).lookup x=some .free
 |[],_,h=>by simp at h
 |(n,j)::r,x,h=>by
  simp only[ay];by_cases hx:x=n
  ·subst hx;rw[cS,bD]at h;have hj:j=.free:=Option.some.inj h;by_cases hc:(j==NameKind.free&&env.scope.kind== .function&&env.kindOf x==some .cell)=true
   ·left;rw[ab hc,cS,bD]
   ·right;rw[ae hc,cS,bD,hj]
  ·have e:(x==n)=false:=by simpa using hx
   rw[cS,e]at h;rcases mP (env:=env) h with z|z
   ·left;split<;>(rw[cS,e];exact z)
   ·right;split<;>(rw[cS,e];exact z)
def lN(X:Cx)(scope:Scope)(N:List Str)(s:Shared)(H:Hp)(ex:List Addr):Cx where
 prog:=X.prog
 w:=X.w
 K:=X.K
 mg:=X.mg
 base:=X.base
 A:=X.A
 N:=N
 eZ:=s
 vW:=H
 env:=compEnvC scope (uQ scope X.env) s.heap.objs.size X.env
 outer:=X.stack
 stack:=X.stack
 ex:=ex
 fn:=fun _=>false
 calm:=X.calm
 pn:=[]
 xe:=fun _ _=>False
def Mh(N N':List Str)(ix:List (Option Nat))(sc scope:Scope):Bool:=
 decide (N'.length=ix.length)&&(N'.zip ix).all (fun p=>match p.2 with
  |none=>true
  |some j=>decide (N[j]?=some p.1)&&decide (scope.names.lookup p.1=some .free))&&
 scope.names.all (fun y=>y.2 != .cell&&(y.2 != .free||decide (sc.names.lookup y.1=some .cell))&&(y.2 != .local||decide (scope.names.lookup y.1=some .local)))&&(scope.kind== .function)
structure e_(X:Cx)(N':List Str)(ix:List (Option Nat))(scope:Scope):Prop where
 len:N'.length=ix.length
 free:∀(i:Nat) (x:Str) (j:Nat),N'[i]?=some x->ix[i]?=some (some j)->X.N[j]?=some x/\scope.names.lookup x=some .free
 uR:∀y∈scope.names,y.2≠ .cell
 cell:∀y∈scope.names,y.2=.free->X.env.scope.names.lookup y.1=some .cell
 loc:∀y∈scope.names,y.2=.local->scope.names.lookup y.1=some .local
 kind:scope.kind=.function
theorem e_.of {X:Cx}{N N':List Str}{ix:List (Option Nat)}{sc scope:Scope}(hN:X.N=N)(hs:X.env.scope=sc)(h:Mh N N' ix sc scope=true):e_ X N' ix scope:=by
 unfold Mh at h;simp only[aM,cH,bw]at h;obtain⟨⟨⟨h1,h2⟩,h3⟩,h4⟩:=h;refine⟨h1,fun i x j e1 e2=>?_,fun y hy z=>?_,fun y hy z=>?_,fun y hy z=>?_,by simpa using h4⟩
 ·have m:(x,some j)∈N'.zip ix:=bM (i:=i) (by rw[List.getElem?_zip_eq_some];exact⟨e1,e2⟩);have q:=h2 _ m;simp only[aM,cH]at q;rw[hN];exact q
 ·have q:=(h3 y hy).1.1;rw[z]at q;simp at q
 ·have q:=(h3 y hy).1.2;rw[z]at q;simp only[iz,mC,cH]at q;rw[hs];exact q
 ·have q:=(h3 y hy).2;rw[z]at q;simp only[iz,mC,cH]at q;exact q
def fb(ix:List (Option Nat))(σ:St):St:=ix.map fun o=>o.bind fun j=>(σ[j]?).join
theorem x_{X:Cx}{N':List Str}{ix:List (Option Nat)}{scope:Scope}{pins:List (Addr×Obj)}{σ:St}{H:Hp}{s:Shared}{dD:Heap}{fp:List Addr}{tk:Nat}(L:e_ X N' ix scope)(I:Inv X pins σ H s)
  (AU:dD.Ns s.heap.objs.size (fun _=>none)) (CJ:∀b o,s.heap.get? b=some o->dD.get? b=some o)
  (hf:∀b∈fp,jy X pins H b) (Mi:∀b∈fp,b<s.heap.objs.size):Inv (lN X scope N' s H fp) [] (fb ix σ) H {s with heap:=dD,toks:=tk}:=by
 have j4:∀y∈scope.names,y.2=.free->∃c,X.env.cells.lookup y.1=some c:=fun y hy z=>I.ok.has y.1 (.inl (L.cell y hy z));have sub:∀x c,(uQ scope X.env).lookup x=some c->X.env.cells.lookup x=some c:=lA scope.names [] j4 (fun x c e=>by simp at e);have has:∀x,scope.names.lookup x=some .free->∃c,(uQ scope X.env).lookup x=some c:=fun x e=>
  qa.mp (lB scope.names [] x (.inr (gw e)))
 have KR:∀b∈fp,b∉mK X.stack:=fun b hb z=>by
  obtain⟨_,f1,f2,_⟩:=hf b hb;rcases aR.mp (I.xR b z)with q|q
  ·exact f1 q
  ·exact f2 q
 refine⟨⟨I.ok.mod,L.kind,I.ok.glob,I.ok.blt,aA _,fun x y c e1 e2=>I.ok.inj x y c (sub x c e1) (sub y c e2),fun x hx=>?_,fun x c z=>absurd (show false=true from z) cR,I.ok.hd,I.ok.frames,.inl rfl,
   fun b hb=>⟨aS (Mi b hb),fun x c e=>(hf b hb).2.2.2.2.1 x c (sub x c e)⟩,I.bs,bp I.ok.GI I.sz,fun b o e hb=>?_,KR,I.stack,I.uH⟩,
  rfl,I.bare,Un.kept CJ,⟨_,AU,fun i x v e1 e2 e3=>?_⟩,fun x c e=>?_,I.fresh,fun x c e=>I.gr x c (sub x c e),fun p hp=>absurd (show p∈([]:List (Addr×Obj))from hp) (by simp),I.bQ.kept CJ,?_⟩
 ·have hx:(relabel scope X.env).names.lookup x=some .cell\/(relabel scope X.env).names.lookup x=some .free:=hx;have y0:scope.names.lookup x=some .free:=by
   rcases hx with z|z
   ·rcases lC z with q|q
    ·exact absurd rfl (L.uR _ (gw q))
    ·exact q
   ·rcases lC z with q|q
    ·exact q
    ·exact q
  exact has x y0
 ·obtain⟨_,_,_,q,_⟩:=hf b hb;rcases q with q|q
  ·exact I.ok.AJ b o e q
  ·exact absurd (bA (ax (I.ok.bs b o e).1) q) (cJ _)
 ·
  unfold fb at e2;rw[aJ]at e2;cases eo:ix[i]? with
  |none=>rw[eo]at e2;cases e2
  |some o=>
   rw[eo]at e2;cases o with
   |none=>exact absurd (show(some none:Option (Option V))=some (some v)from e2) (by simp)
   |some j=>
    obtain⟨n1,n2⟩:=L.free i x j e1 eo;have Pa:(σ[j]?).join=some v:=Option.some.inj (show some ((σ[j]?).join)=some (some v)from e2);have e4:σ[j]?=some (some v):=by
     cases q:σ[j]? with
     |none=>rw[q]at Pa;cases Pa
     |some z=>
      rw[q]at Pa;have:z=some v:=Pa;rw[this]
    have ya:X.env.scope.names.lookup x=some .cell:=L.cell _ (gw n2) rfl;obtain⟨m,hn,hl⟩:=I.loc;obtain⟨u,r,l⟩:=hl j x v n1 e4 (.inr (.inl ya));refine⟨u,r,?_⟩;rcases l with⟨k,_⟩|⟨k,c,ec,z⟩
    ·have k':X.env.scope.names.lookup x=some .local:=k;rw[ya]at k';cases k'
    ·obtain⟨c',LF⟩:=has x n2;have U0:c'=c:=by
      have q:=sub x c' LF;rw[ec]at q;exact(Option.some.inj q).symm
     subst U0;refine .inr ⟨?_,c',LF,?_⟩
     ·exact mP n2
     ·obtain⟨o',AK,Cd⟩:=z;exact⟨o',CJ _ _ AK,Cd⟩
 ·obtain⟨v,o,ho,hd⟩:=I.cell x c (sub x c e);exact⟨v,o,CJ _ _ ho,hd⟩
 ·show(fb ix σ).length=N'.length;unfold fb;rw[aj];exact L.len.symm
end L2
namespace L2
open PySem PySem.Spec PyProof.Rows
abbrev zf(ifs:List Expr)(env:Env):Sem Bool:=forIn ifs true fun c r=>if r=true then do let ok<-isTrue c env (eval c env);pure (ForInStep.yield ok)else pure (ForInStep.yield r)
section
variable {prog:Program}{w:World}{A:Around}{R:Result->Shared->Prop}{s:Shared}
theorem E6{elt target iter:Expr}{ifs:List Expr}{scope:Scope}{pos:Pos}{it acc:Value}{env:Env}(I:Nat->Shared->Prop)
  (turn:∀n s,I n s->wpAny (model prog w) A (pyNext it) (fun r bV=>match r with
   |none=>R (.ok .next) bV
   |some v=>wpAny (model prog w) A (letOwnedTupleGo target it v) (fun _ GW=>wpAny (model prog w) A (assign target env v) (fun _ nR=>
     wpAny (model prog w) A (zf ifs env) (fun ok xT=>
      if ok=true then wpAny (model prog w) A (eval elt env) (fun x E7=>
       wpAny (model prog w) A (call (.builtin "list.append") [acc,x]) (fun _ Mj=>∃m,m<n/\I m Mj) (fun _ _=>False) E7) (fun _ _=>False) xT
      else∃m,m<n/\I m xT) (fun _ _=>False) nR) (fun _ _=>False) GW) (fun _ _=>False) bV) (fun _ _=>False) s)
  (n:Nat) (h:I n s):codeAny (model prog w) A (.compLoop (.ListComp elt [⟨target,iter,ifs,0⟩] scope pos) 0 it acc env) R s:=by
 refine codeAny_loop rfl I (fun n s hI=>?_) n h;show wpAny _ A ((compTurn (.ListComp elt [⟨target,iter,ifs,0⟩] scope pos) 0 it acc env).onRaise (fun x=>do noteFrame x env;theTreesLotGoes x)) _ _ s;refine wpAny_noted ?_
 rw[compTurn_list];refine aa (wpAny_standAt (aa (dQ (turn n s hI) (fun r bV dD=>?_) fun _ _ f=>f.elim)));cases r with
 |none=>exact af dD
 |some v=>
  refine aa (dQ dD (fun _ GW Ml=>?_) fun _ _ f=>f.elim);refine aa (dQ Ml (fun _ nR nV=>aa (dQ nV (fun ok xT wg=>?_) fun _ _ f=>f.elim)) fun _ _ f=>f.elim);cases ok with
  |false=>exact af ⟨rfl,wg⟩
  |true=>exact aa (aa (dQ wg (fun x E7 IQ=>aa (dQ IQ (fun _ Mj k_=>af (af ⟨rfl,k_⟩)) fun _ _ f=>f.elim)) fun _ _ f=>f.elim))
end
def PF(X:Cx)(ifs:List Expr)(t:TT):Prop:=
 ∀(pins:List (Addr×Obj)) (s:Shared) (σ:St) (H:Hp) (Q:Bool->Hp->Prop),Inv X pins σ H s->t σ H Q->wpAny (model X.prog X.w) X.A (zf ifs X.env) (TP X pins σ Q) X.xe s
theorem CK{X:Cx}:PF X [] (fun _ H Q=>Q true H):=fun _ _ _ H _ I h=>wpAny_tests_nil ⟨H,I,h⟩
theorem IS{X:Cx}{c:Expr}{t:TT}(h:PT X c t):PF X [c] t:=fun pins s σ H Q I q=>wpAny_tests_one (h pins s σ H Q I q)
def Rb(J:It)(D:Addr)(Pb:St)(H0:Hp)(g:TG)(tc:TT)(te:TE)(Q:Hp->Prop):Prop:=
 ∃W:Nat->Nat->St->Hp->Prop,(∃m,W 0 m Pb H0)/\∀i m σ H,W i m σ H->(J.stop i H/\Q H)\/
  (J.go i H/\∃N:St->Hp->Prop,(∀bK H',N bK H'->∃m',m'<m/\W (i+1) m' bK H')/\∀x H',J.xU i H x H'->g x σ H' fun pL H2=>tc pL H2 fun b H3=>
    if b=true then te pL H3 fun y H4=>∃ys,H4 D=some (.lst ys)/\ys.length<sizeLine/\N pL (upd H4 D (.lst (ys++[y])))else N pL H3)
def IT(wi:TI)(ix:List (Option Nat))(g:TG)(tc:TT)(te:TE):TE:=fun σ H Q=>wi σ H fun J H1=>∀D,H1 D=none->Rb J D (fb ix σ) (upd H1 D (.lst [])) g tc te fun H'=>Q (.ref D) H'
section
variable {X:Cx}{scope:Scope}{N':List Str}{ix:List (Option Nat)}{tg iter elt:Expr}{ifs:List Expr}{pos:Pos}{g:TG}{tc:TT}{te:TE}
theorem zg{use:Option (Value->Sem Unit)}{Qf:Value->Shared->Prop}{QD:Addr->Hp->Prop}{pins:List (Addr×Obj)}{s2:Shared}{σ:St}{H2:Hp}{it:Addr}{fp:List Addr}{tn:Nat->Heap->Prop}{J:It}
  (L:e_ X N' ix scope) (hc:X.calm=true) (j5:∀s H ex,PG (lN X scope N' s H ex) tg g/\PF (lN X scope N' s H ex) ifs tc/\PE (lN X scope N' s H ex) elt te)
  (I2:Inv X pins σ H2 s2) (T:Turn X.prog X.w X.K tg J fp it tn) (EL:tn 0 s2.heap) (f2:∀b∈fp,jy X pins H2 b)
  (hw:∀D,H2 D=none->Rb J D (fb ix σ) (upd H2 D (.lst [])) g tc te (QD D))
  (Rc:∀D C H' s' m,Inv X pins σ H' s'->jy X pins H' C->s'.heap.Ns C m->QD D H'->compPost (model X.prog X.w) X.A X.xe use Qf (.ref D) C (.ok .next) s'):
  wpAny (model X.prog X.w) X.A (newList []) (fun acc xT=>wpAny (model X.prog X.w) X.A (newFunctionEnv scope X.env.globals (uQ scope X.env) [] X.env.qual none .none (some X.env)) (fun Mm E7=>
   codeAny (model X.prog X.w) X.A (.compStart (.ListComp elt [⟨tg,iter,ifs,0⟩] scope pos) 0 (.ref it) acc {Mm with scope:=relabel scope X.env}) (compPost (model X.prog X.w) X.A X.xe use Qf acc Mm.locals) E7) X.xe xT) X.xe s2:=by
 refine eQ (wpAny_newFunctionEnv L.uR (by intro y hy;simp at hy) (fun dD yb yc=>?_) L.kind);dsimp only at yb yc⊢;have hD:H2 s2.heap.objs.size=none:=I2.fresh;have I3:Inv X pins σ (upd H2 s2.heap.objs.size (.lst [])) {s2 with heap:=s2.heap.push {cls:=.type "list",data:=.seq ([]:List Value).toArray},toks:=s2.toks}:=I2.IC (aY:=[]) .nil (bG _);generalize U1:({s2 with heap:=s2.heap.push {cls:=.type "list",data:=.seq ([]:List Value).toArray},toks:=s2.toks}:Shared)=s3 at I3;have e3:({s2 with heap:=s2.heap.push {cls:=.type "list",dict:=none,data:=.seq ([]:List Value).toArray}}:Shared)=s3:=U1;have eh:s2.heap.push {cls:=.type "list",dict:=none,data:=.seq ([]:List Value).toArray}=s3.heap:=bT Shared.heap e3;have U2:s3.os=s2.os:=by rw[<-e3]
 have ek:∀b o,s2.heap.get? b=some o->s3.heap.get? b=some o:=fun b o e=>by rw[<-eh];exact aD _ e
 have IU:s2.heap.objs.size<=s3.heap.objs.size:=by rw[<-eh,gW];exact iJ _
 rw[eh]at yb yc⊢;have f3:∀b∈fp,jy X pins (upd H2 s2.heap.objs.size (.lst [])) b:=fun b hb=>by
  obtain⟨o,eo,_⟩:=T.obj _ _ EL b hb;refine⟨?_,(f2 b hb).2⟩;rw[ak (aS (ax eo))];exact(f2 b hb).1
 have GH:∀b∈fp,b<s3.heap.objs.size:=fun b hb=>by
  obtain⟨o,eo,_⟩:=T.obj _ _ EL b hb;exact bA (ax eo) IU
 have k4:∀b o,s3.heap.get? b=some o->dD.get? b=some o:=fun b o e=>yc.extBut b o (aS (ax e)) (aD _ e);have Tz:tn 0 dD:=T.keep _ _ _ EL fun b _ o e=>k4 b o (ek b o e);obtain⟨W,⟨m0,w0⟩,turn⟩:=hw s2.heap.objs.size hD;have I4:∀tk,Inv (lN X scope N' s3 (upd H2 s2.heap.objs.size (.lst [])) fp) [] (fb ix σ) (upd H2 s2.heap.objs.size (.lst [])) {s3 with heap:=dD,toks:=tk}:=fun tk=>
  x_ L I3 yb k4 f3 GH
 obtain⟨hg,hf,he⟩:=j5 s3 (upd H2 s2.heap.objs.size (.lst [])) fp;have xW:∀{H':Hp},(∀b∈fp,H' b=none)->∀b∈fp,jy (lN X scope N' s3 (upd H2 s2.heap.objs.size (.lst [])) fp) [] H' b:=fun{H'} hn b hb=>by
  have ok:=(I4 0).ok;obtain⟨x1,x2⟩:=ok.Qi b hb;exact⟨hn b hb,x1,ok.Cb b hb,.inl hb,x2,fun p hp=>absurd (show p∈([]:List (Addr×Obj))from hp) (by simp)⟩
 have loop:∀tk,codeAny (model X.prog X.w) X.A (.compLoop (.ListComp elt [⟨tg,iter,ifs,0⟩] scope pos) 0 (.ref it) (.ref s2.heap.objs.size) (compEnvC scope (uQ scope X.env) s3.heap.objs.size X.env))
   (compPost (model X.prog X.w) X.A X.xe use Qf (.ref s2.heap.objs.size) s3.heap.objs.size) {s3 with heap:=dD,toks:=tk}:=fun tk=>by
  refine E6 (fun n s'=>∃i bK H',Inv (lN X scope N' s3 (upd H2 s2.heap.objs.size (.lst [])) fp) [] bK H' s'/\tn i s'.heap/\(∀b∈fp,H' b=none)/\W i n bK H') ?_ m0
   ⟨0,_,_,I4 tk,Tz,fun b hb=>(f3 b hb).1,w0⟩
  rintro n s5 ⟨i,Pc,H5,I5,K2,O6,w5⟩
  rcases turn i n Pc H5 w5 with⟨stop,qn⟩|⟨go,N,hN,step⟩
  ·refine dY (T.done (lN X scope N' s3 (upd H2 s2.heap.objs.size (.lst [])) fp) rfl rfl rfl hc i [] s5 Pc H5 _ I5 (xW O6) K2 stop) fun r s6 ⟨hr,I6⟩=>?_
   subst hr;have u:Un (mK X.stack) fp H2 H5 s2.heap s6.heap:=(Un.laid (o:=.lst []) ek (aA _) hD).trans I6.base;have J6:Inv X pins σ H5 s6:=I2.LG (ch:=fp) (I6.os.trans U2) u I6.bQ I6.bare fun b hb=>by
    obtain⟨_,x1,_,x3,x4,x5⟩:=f2 b hb;exact⟨x3,x1,x4,x5⟩
   obtain⟨m,hm,_⟩:=I6.loc;exact Rc _ _ H5 s6 m J6 (I2.uK IU I6.free) hm qn
  ·refine dY (T.item (lN X scope N' s3 (upd H2 s2.heap.objs.size (.lst [])) fp) rfl rfl rfl hc i [] s5 Pc H5 _ I5 (xW O6) K2 go) fun r s6 ⟨v,hr,h6⟩=>?_
   subst hr;refine dY h6 fun _ s7 ⟨x,H7,I7,r7,y7,Rf,U3⟩=>?_
   have U4:=I7.pinned (xW U3) (T.obj _ _ Rf);refine dY (hg _ s7 Pc H7 x v _ U4 r7 (step x H7 y7)) fun _ s8 ⟨Pd,H8,I8,q8⟩=>?_
   have again:∀{Mn:St} {H9:Hp} {s9:Shared},Inv (lN X scope N' s3 (upd H2 s2.heap.objs.size (.lst [])) fp) ([]++rf fp s7.heap) Mn H9 s9->N Mn H9->
     ∃m,m<n/\∃i bK H',Inv (lN X scope N' s3 (upd H2 s2.heap.objs.size (.lst [])) fp) [] bK H' s9/\tn i s9.heap/\(∀b∈fp,H' b=none)/\W i m bK H':=fun{Mn H9 s9} I9 n9=>by
    obtain⟨m',hm,w9⟩:=hN Mn H9 n9;refine⟨m',hm,i+1,Mn,H9,I9.mL,T.keep _ _ _ Rf fun b hb o e=>(I9.pin (b,o) (eM _ (eM _ (jh hb e)))).1,fun b hb=>?_,w9⟩;obtain⟨o,e,d⟩:=T.obj _ _ Rf b hb;exact(I9.pin (b,o) (eM _ (eM _ (jh hb e)))).2.1
   refine dY (hf _ s8 Pd H8 _ I8 q8) fun ok s9 ⟨H9,I9,q9⟩=>?_
   cases ok with
   |false=>exact again I9 q9
   |true=>
    refine dY (he _ s9 Pd H9 _ I9 q9) fun y Rg ⟨v10,U5,U6,U7,ys,hy,hz,U8⟩=>?_
    refine dY (fI _ Rg Pd U5 (.ref s2.heap.objs.size) [v10] (.ref s2.heap.objs.size) [y] (fun _ H'=>N Pd H') U6 rfl (.cons U7 .nil) ⟨_,ys,v10,rfl,rfl,hy,hz,U8⟩) fun _ Xo ⟨_,Xp,U9,_,U_⟩=>?_
    exact again U9 U_
 have es:∀tk,({s2 with heap:=dD,toks:=tk}:Shared)={s3 with heap:=dD,toks:=tk}:=fun tk=>by rw[<-e3]
 have GX:∀tk,codeAny (model X.prog X.w) X.A (.compLoop (.ListComp elt [⟨tg,iter,ifs,0⟩] scope pos) 0 (.ref it) (.ref s2.heap.objs.size) (compEnvC scope (uQ scope X.env) s3.heap.objs.size X.env))
   (compPost (model X.prog X.w) X.A X.xe use Qf (.ref s2.heap.objs.size) s3.heap.objs.size) {s2 with heap:=dD,toks:=tk}:=fun tk=>by
  rw[es tk];exact loop tk
 exact codeAny_compStart_list (GX _) (T.self _ 0 _ _ _ Tz (GX _))
theorem CL{wi:TI}(L:e_ X N' ix scope)(hc:X.calm=true)(hi:PI X tg iter wi)(j5:∀s H ex,PG (lN X scope N' s H ex) tg g/\PF (lN X scope N' s H ex) ifs tc/\PE (lN X scope N' s H ex) elt te)
  (hs:∀x,foldedSetIterable iter X.env x=pure x:=by intro _;rfl):PE X (.ListComp elt [⟨tg,iter,ifs,0⟩] scope pos) (IT wi ix g tc te):=by
 intro pins s σ H Q I h;have j4:∀y∈scope.names,y.2=.free->∃c,X.env.cells.lookup y.1=some c:=fun y hy z=>I.ok.has y.1 (.inl (L.cell y hy z));rw[eval_ListComp];refine wpAny_comprehension_free (use:=none) rfl hs (jk j4) L.kind L.loc (dY (hi pins s σ H _ I h) fun v s1 h1=>dY h1 fun O3 s2 h2=>?_);obtain⟨it,fp,tn,J,H2,e,I2,T,EL,f2,hw⟩:=h2;subst e;refine zg (QD:=fun D H'=>Q (.ref D) H') L hc j5 I2 T EL f2 hw fun D C H' s' m I' fC hm q=>⟨m,hm,fun h' CJ=>?_⟩;obtain⟨x0,x1,x2,x3,x4,x5⟩:=fC;exact⟨.ref D,H',I'.turned (t':=s'.toks) (fun b o hb e=>(CJ.2 b hb).trans e) x0 x1 x3 x4 x5,rfl,q⟩
theorem mQ{wi:TI}{i:Nat}{x:Str}{px g8:Pos}(L:e_ X N' ix scope)(hc:X.calm=true)(hN:X.N.Nodup)(hi:X.N[i]?=some x)(hx:Loc X.env.scope x)(hit:PI X tg iter wi)
  (j5:∀s H ex,PG (lN X scope N' s H ex) tg g/\PF (lN X scope N' s H ex) ifs tc/\PE (lN X scope N' s H ex) elt te)
  (yd:swapsWith (.ListComp elt [⟨tg,iter,ifs,0⟩] scope pos) (some (.Name x px)) g8.line X.env=pure true:=by rfl)
  (hs:∀x,foldedSetIterable iter X.env x=pure x:=by intro _;rfl) (hf:X.fn x=true\/X.env.scope.names.lookup x=some .local:=by first|exact .inl rfl|exact .inr rfl|assumption):
  PS X (.Assign [.Name x px] (.ListComp elt [⟨tg,iter,ifs,0⟩] scope pos) g8) (fun D σ H=>IT wi ix g tc te σ H fun v H'=>D.nx (σ.set i (some v)) H'):=by
 intro pins s σ H D I h;have j4:∀y∈scope.names,y.2=.free->∃c,X.env.cells.lookup y.1=some c:=fun y hy z=>I.ok.has y.1 (.inl (L.cell y hy z));rw[exec_Assign_Name_used _ _ _ _ yd];refine aa (wpAny_standAt (aa ?_));show wpAny _ X.A (do let _<-comprehension (.ListComp elt [⟨tg,iter,ifs,0⟩] scope pos) scope X.env _ (newList []) false (eval iter X.env) (some (assign (.Name x px) X.env))) _ _ s;refine aa (dQ (wpAny_comprehension_free (use:=some (assign (.Name x px) X.env)) (Q:=fun _ s'=>SP X pins D .next s') rfl hs (jk j4) L.kind L.loc
  (dY (hit pins s σ H _ I h) fun v s1 h1=>dY h1 fun O3 s2 h2=>?_)) (fun _ s' hq=>af (af hq)) fun _ _ e=>e)
 obtain⟨it,fp,tn,J,H2,e,I2,T,EL,f2,hw⟩:=h2;subst e;refine zg (QD:=fun Dd H'=>D.nx (σ.set i (some (.ref Dd))) H') L hc j5 I2 T EL f2 hw fun Dd C H' s' m I' fC hm q=>?_
 obtain⟨x0,x1,x2,x3,x4,x5⟩:=fC;show wpAny _ X.A (assign (.Name x px) X.env (.ref Dd)) _ _ _;refine wpAny_assign_Name (s_ I' hN hi hx (v:=.ref Dd) rfl (fun Ex U' sZ=>?_) hf);obtain⟨a,CJ,ha⟩:=sZ;have Va:C≠a:=by
  rcases ha with ha|ha
  ·rw[ha];exact x1
  ·exact fun z=>x4 _ _ ha z.symm
 refine⟨m,hm.sameBut CJ Va,fun h' Rh=>?_⟩;exact⟨_,H',U'.turned (t':=Ex.toks) (fun b o hb e=>(Rh.2 b hb).trans e) x0 x1 x3 x4 x5,q⟩
end
end L2
namespace L2
open PySem PySem.Spec PyProof.Rows
def Pe(z:Str):It:=⟨fun i _=>i<z.cps.size,fun i H x H'=>H'=H/\∃c,z.cps[i]?=some c/\x=.str ⟨#[c]⟩,fun i _=>i=z.cps.size⟩
theorem wj{P:Program}{w:World}{K:PySem.W.Frag}{tg:Expr}{z:Str}{t:Tok}{it:Addr}{n:String}(hn:["enumerate","zip","dict_itemiterator","dict_reverseitemiterator","odict_iterator","itertools.zip_longest","itertools.pairwise"].contains n=false)
  (W:∀A':Around,A'.handled=none->Walks P w A' it [it] [it] z.cps.size (SignAt z) (fun i h=>h.IsStrIter it n z t i))
  (self:∀(A:Around) (i:Nat) (s:Shared) (Q:Value->Shared->Prop) (E:Value->Shared->Prop),s.heap.IsStrIter it n z t i->Q (.ref it) s->wpAny (model P w) A (pyIter (.ref it)) Q E s):
  Turn P w K tg (Pe z) [it] it (fun i h=>h.IsStrIter it n z t i) where
 mem:=by simp
 obj:=fun i h st b hb=>by
  have e:b=it:=by simpa using hb
  subst e;obtain⟨o,e,c,d⟩:=st;exact⟨o,e,fun v q=>by rw[d]at q;cases q⟩
 keep:=fun i h h' st k=>by
  obtain⟨o,e,c,d⟩:=st;exact⟨o,k it (by simp) o e,c,d⟩
 item:=by
  intro X hP hw hK hc i pins s σ H E I hf st hg;subst hP hw hK;obtain⟨f0,f1,f2,f3,f4,f5⟩:=hf it (by simp);refine(W X.A (I.ok.hd hc)).item i s _ _ hg st fun v h' tk hv sO kk=>?_
  obtain⟨c,u,Vb,rfl⟩:=hv;have I1:Inv X pins σ H {s with heap:=h',toks:=tk}:=I.turned (fun b o hb e=>kk b o (by simpa using hb) e) f0 f1 f3 f4 f5;obtain⟨o,e,cl,d⟩:=id sO;exact⟨_,rfl,vZ (s:={s with heap:=h',toks:=tk}) e cl d hn ⟨.str ⟨#[c]⟩,H,I1,⟨u,rfl⟩,⟨rfl,c,Vb,rfl⟩,sO,fun b hb=>(hf b hb).1⟩⟩
 done:=by
  intro X hP hw hK hc i pins s σ H E I hf st hg;subst hP hw hK;obtain⟨f0,f1,f2,f3,f4,f5⟩:=hf it (by simp);have e:i=z.cps.size:=hg;subst e;exact(W X.A (I.ok.hd hc)).done s _ _ st fun h' tk kk=>⟨rfl,I.turned (fun b o hb e=>kk b o (by simpa using hb) e) f0 f1 f3 f4 f5⟩
 self:=self
theorem iN.upd {K:PySem.W.Frag}{H:Hp}{D a:Addr}{xs:List V}{o:HO}(hD:H D=none)(h:iN K H a xs):iN K (upd H D o) a xs:=by
 rcases h with(h|⟨ob,h⟩)|h
 ·exact .inl (.inl (by rw[ak (aN h hD)];exact h))
 ·exact .inl (.inr ⟨ob,by rw[ak (aN h hD)];exact h⟩)
 ·exact .inr h
theorem hZ.upd {K:PySem.W.Frag}{H:Hp}{D a:Addr}{xs:List V}{o:HO}(hD:H D=none)(h:hZ K H a xs):hZ K (upd H D o) a xs:=by
 rcases h with(h|⟨ob,h⟩)|h
 ·exact .inl (.inl (by rw[ak (aN h hD)];exact h))
 ·exact .inl (.inr ⟨ob,by rw[ak (aN h hD)];exact h⟩)
 ·exact .inr h
section
variable {X:Cx}
theorem IV:oP X (compareOp .Is) (fun x y H Q=>∃c d,x=.bl c/\y=.bl d/\Q (.bl (c==d)) H):=by
 intro pins s σ H x y v u Q I rx ry h;obtain⟨c,d,rfl,rfl,q⟩:=h;cases rx;cases ry;exact is_bool (xX I q rfl)
theorem E8:oP X (binaryOp .Mult) (fun x y H Q=>∃z n,x=.str z/\y=.int n/\MulOk z n/\Q (.str (Txt.mul z n)) H):=by
 intro pins s σ H x y v u Q I rx ry h;obtain⟨z,n,rfl,rfl,bQ,q⟩:=h;obtain⟨t,rfl⟩:=rx;obtain⟨t',rfl⟩:=ry;exact SB.mul bQ fun t' k=>⟨.str _,H,I.tok _,⟨_,rfl⟩,q⟩
theorem CM(hc:X.calm=true):e8 X (.builtin "all") (fun xs H Q=>∃(p:Addr) (bs:List Bool),xs=[.ref p]/\iN X.K H p (bs.map V.bl)/\Q (.bl (bs.all id)) H):=by
 intro pins s σ H xs us Q I r h;obtain⟨p,bs,rfl,hl,q⟩:=h;obtain⟨u,rfl,ru⟩:=vals1 r;cases(show u=Value.ref p from ru);obtain⟨aY,rv,pl,hz⟩:=I.list hl;have hb:aY=bs.map Value.bool:=by
  clear hz pl hl q I
  induction bs generalizing aY with
  |nil=>cases rv;rfl
  |cons b r ih=>
   cases rv with
   |cons r1 r2=>
    rw[ay,<-ih _ (by exact r2)];cases(show _=Value.bool b from r1)
    rfl
 subst hb;have fc:p<s.heap.objs.size:=by obtain⟨o,n,e,_⟩:=pl;exact ax e
 refine call_all_walk (jL pl.isList ?_);refine⟨s.heap.objs.size,[s.heap.objs.size,p],[s.heap.objs.size],(bs.map Value.bool).toArray.size,_,_,fun i=>(bs[i]?).getD true,rfl,Walks.list (A:=X.A.in1) (I.ok.hd hc) _ p (aS fc) _,
  ⟨⟨_,aU _ rfl,rfl,rfl⟩,pl.isList.push _⟩,fun i v s' Q' E' hP hQ=>?_,fun h' tk hk=>?_⟩
 ·have Mo:(bs.map Value.bool)[i]?=some v:=by simpa using hP
  rw[aJ]at Mo;cases eb:bs[i]? with
  |none=>rw[eb]at Mo;cases Mo
  |some b=>
   rw[eb]at Mo;cases Mo;simp only[eb,Option.getD_some]at hQ;exact jK hQ
 ·have e:((List.range (bs.map Value.bool).toArray.size).all fun i=>(bs[i]?).getD true)=bs.all id:=by
   rw[bf,aj];exact LSm.range_all bs
  rw[e];exact⟨.bl _,H,I.kept (LSm.kept_iter hk),rfl,q⟩
end
end L2
namespace L2
open PySem PySem.Spec PyProof.Rows
theorem au.tup {K:PySem.W.Frag}{H H':Hp}{a:Addr}{xs:List V}(e:au H H')(h:hZ K H a xs):hZ K H' a xs:=by
 rcases h with(h|⟨o,h⟩)|h
 ·exact .inl (.inl (e _ _ h))
 ·exact .inl (.inr ⟨o,e _ _ h⟩)
 ·exact .inr h
theorem au.upd {H:Hp}{D:Addr}{o:HO}(hD:H D=none):au H (upd H D o):=fun b u e=>by rw[ak (aN e hD)];exact e
theorem au.IW {H H':Hp}{D:Addr}{o:HO}(s:au H H')(hD:H D=none):au H (L2.upd H' D o):=fun b u e=>by rw[ak (aN e hD)];exact s b u e
structure tW(K:PySem.W.Frag)(mg:Str->Option Value)(x:Str)(st:Stmt)(ps:List Str)(f:Addr)(fd:FuncData):Prop where
 fn:sS K x x st f fd
 bd:Binds K fd ps []
 mg:mg x=some (.ref f)
theorem IX{X:Cx}{x:Str}{st:Stmt}{ps:List Str}{f:Addr}{fd:FuncData}{k:Nat}{sp:Sp}{e:Expr}{es:List Expr}{t:TA}{p pos:Pos}(D:tW X.K X.mg x st ps f fd)(G:f6 X.prog X.w X.K X.mg X.base lz k f fd ps sp)(hr:dA k X.A)
  (ha:PA X (e::es) t) (hg:Gl X x:=by rfl) (ji:(x==("__debug__":Str))=false:=by decide) (he:starEach (e::es) X.env=(false,eval e X.env)::starEach es X.env:=by rfl)
  (o8:(backTo pos (starEach es X.env)).any (·.1)=false:=by rfl):PE X (.Call (.Name x p) (e::es) [] pos) (GN sp [] E0 t):=by
 have q:=y8 (p:=p) (pos:=pos) G hr hg D.mg D.fn.kp D.bd .nil Mg ha (ji:=ji) (he:=he) (o8:=o8);exact q
end L2
namespace L2
open PySem PySem.Spec PyProof.Rows
section
variable {X:Cx}
theorem wk:∀{cs:List String} {us:List Value},Vals (cs.map V.ty) us->us=cs.map Value.type
 |[],_,.nil=>rfl
 |c::cs,_,.cons r t=>by
  rw[wk t];cases(show _=Value.type c from r)
  rfl
theorem nW{h:Heap}{p:Addr}{aY:Array Value}(ht:h.IsTuple p aY):∃dd n sl,h.get? p=some ⟨.type "tuple",dd,.seq aY n,sl⟩:=by
 obtain⟨⟨cls,dd,data,sl⟩,h1,h2,n,h3⟩:=ht;dsimp only at h2 h3;subst h2 h3;exact⟨dd,n,sl,h1⟩
theorem AV:e8 X (.builtin "isinstance") (fun xs H Q=>∃(x:V) (p:Addr) (cs:List String) (t:Value) (b:Bool),xs=[x,.ref p]/\GU x=true/\hZ X.K H p (cs.map V.ty)/\mN X.K H x t/\PySem.W.kitAny X.K t (cs.map Value.type)=some b/\Q (.bl b) H):=by
 intro pins s σ H xs us Q I r h;obtain⟨x,p,cs,t,b,rfl,fx,hp,ty,e,q⟩:=h;obtain⟨u,v,rfl,ru,rv⟩:=vals2 r;cases(show v=Value.ref p from rv);obtain⟨aY,r1,p1,_⟩:=I.tuple hp;obtain⟨dd,n,sl,hg⟩:=nW p1;cases wk r1;have fin:∀tk,EP X pins σ Q (.bool b) {s with toks:=tk}:=fun tk=>⟨.bl b,H,I.tok _,rfl,q⟩;cases ty with
 |cq=>
  cases(show u=Value.none from ru);exact mq PySem.W.kitx_none I.o6 .intro hg e (by simp) fin
 |bl y=>
  cases(show u=Value.bool y from ru);exact mq PySem.W.kitx_bool I.o6 .intro hg e (by simp) fin
 |int i=>
  obtain⟨t,rfl⟩:=(show∃t,u=Value.int i t from ru);exact mq PySem.W.kitx_int I.o6 .intro hg e (by simp) fin
 |str y=>
  obtain⟨t,rfl⟩:=(show∃t,u=Value.str y t from ru);exact mq PySem.W.kitx_str I.o6 .intro hg e (by simp) fin
 |_=>exact absurd (show false=true from fx) cR
end
end L2
namespace L2
open PySem PySem.Spec PyProof.Rows
inductive Tr where
 |cq|bl (b:Bool)|int (i:Int)|str (z:Str)|ty (n:String)
 |f7 (ns:List Int)|tup (ts:List Tr)|lst (ts:List Tr)|j6 (aB:List (Key×Tr))|at(i:Nat)
 |aE (aB:List (List Key×Tr))|ob (x:Str) (fs:List (Str×Tr))|zh (x:Str)
def iR:Nat:=1000000
def clsAt(K:PySem.W.Frag)(x:Str):Addr:=match PySem.W.nsIn K mainGlobals x with
 |some (some (.ref C))=>C
 |_=>0
structure Vw where
 H:Hp
 ix:Addr->Option Nat
instance:Coe Vw Hp:=⟨Vw.H⟩
instance:CoeFun Vw (fun _=>Addr->Option HO):=⟨Vw.H⟩
structure cw(W W':Vw):Prop where
 h:au W.H W'.H
 x:∀a i,W.ix a=some i->W'.ix a=some i
theorem cw.refl (W:Vw):cw W W:=⟨au.refl _,fun _ _ e=>e⟩
theorem cw.trans {W W1 W2:Vw}(a:cw W W1)(b:cw W1 W2):cw W W2:=⟨a.h.trans b.h,fun c i e=>b.x c i (a.x c i e)⟩
mutual
inductive Rep(K:PySem.W.Frag)(H:Vw):V->Tr->Prop where
 |cq:Rep K H .cq .cq
 |bl (b:Bool):Rep K H (.bl b) (.bl b)
 |int (i:Int):Rep K H (.int i) (.int i)
 |str (z:Str) (h:z.length<=iR):Rep K H (.str z) (.str z)
 |ty (n:String):Rep K H (.ty n) (.ty n)
 |f7 {a:Addr} {ns:List Int} (h:iN K H.H a (ns.map V.int)):Rep K H (.ref a) (.f7 ns)
 |tup {a:Addr} {vs:List V} {ts:List Tr} (h:H.H a=some (.tup vs)) (r:aL K H vs ts):Rep K H (.ref a) (.tup ts)
 |lst {a:Addr} {vs:List V} {ts:List Tr} (h:H.H a=some (.lst vs)) (r:aL K H vs ts):Rep K H (.ref a) (.lst ts)
 |j6 {a:Addr} {aw:List (Key×V)} {aB:List (Key×Tr)} (h:Rd H.H a (.dK aw)) (e:aw.map (·.1)=aB.map (·.1)) (r:aL K H (aw.map (·.2)) (aB.map (·.2))):Rep K H (.ref a) (.j6 aB)
 |at{a:Addr} {i:Nat} (h:H.ix a=some i):Rep K H (.ref a) (.at i)
 |aE {a:Addr} {aw:List (List Key×V)} {aB:List (List Key×Tr)} (h:Rd H.H a (.dT aw)) (e:aw.map (·.1)=aB.map (·.1)) (r:aL K H (aw.map (·.2)) (aB.map (·.2))):Rep K H (.ref a) (.aE aB)
 |ob {a dx:Addr} {x:Str} {vL:List (Str×V)} {fs:List (Str×Tr)} (h:H.H a=some (.ins (clsAt K x) dx vL)) (e:vL.map (·.1)=fs.map (·.1)) (r:aL K H (vL.map (·.2)) (fs.map (·.2))):Rep K H (.ref a) (.ob x fs)
 |zh {a:Addr} {oe:Obj} {x:Str} (h:H.H a=some (.ext fun h=>h.get? a=some oe)) (c:oe.cls=.ref (clsAt K x)):Rep K H (.ref a) (.zh x)
inductive aL(K:PySem.W.Frag)(H:Vw):List V->List Tr->Prop where
 |nil:aL K H [] []
 |cons {v:V} {t:Tr} {vs:List V} {ts:List Tr} (h:Rep K H v t) (r:aL K H vs ts):aL K H (v::vs) (t::ts)
end
section
theorem Rd.same {H H':Hp}{a:Addr}{u:HO}(s:au H H')(h:Rd H a u):Rd H' a u:=by
 rcases h with h|⟨o,h⟩
 ·exact .inl (s _ _ h)
 ·exact .inr ⟨o,s _ _ h⟩
variable {K:PySem.W.Frag}{H H':Vw}
theorem Rep.same (s:cw H H'){v:V}{t:Tr}(h:Rep K H v t):Rep K H' v t:=by
 refine Rep.rec (motive_1:=fun v t _=>Rep K H' v t) (motive_2:=fun vs ts _=>aL K H' vs ts) ?_ ?_ ?_ ?_ ?_ ?_ ?_ ?_ ?_ ?_ ?_ ?_ ?_ ?_ ?_ h
 ·exact .cq
 ·exact fun b=>.bl b
 ·exact fun i=>.int i
 ·exact fun z h=>.str z h
 ·exact fun n=>.ty n
 ·exact fun h=>.f7 (s.h.seq h)
 ·exact fun h _ r=>.tup (s.h _ _ h) r
 ·exact fun h _ r=>.lst (s.h _ _ h) r
 ·exact fun h e _ r=>.j6 (Rd.same s.h h) e r
 ·exact fun h=>.at (s.x _ _ h)
 ·exact fun h e _ r=>.aE (Rd.same s.h h) e r
 ·exact fun h e _ r=>.ob (s.h _ _ h) e r
 ·exact fun h c=>.zh (s.h _ _ h) c
 ·exact .nil
 ·exact fun _ _ h r=>.cons h r
theorem aL.same (s:cw H H'):∀{vs:List V} {ts:List Tr},aL K H vs ts->aL K H' vs ts
 |[],_,h=>by cases h;exact .nil
 |_::_,_,h=>by cases h with|cons h r=>exact .cons (h.same s) (aL.same s r)
theorem aL.length:∀{vs:List V} {ts:List Tr},aL K H vs ts->vs.length=ts.length
 |[],_,h=>by cases h;rfl
 |_::_,_,h=>by cases h with|cons h r=>rw[a_,a_,aL.length r]
theorem aL.get:∀{vs:List V} {ts:List Tr} {i:Nat} {t:Tr},aL K H vs ts->ts[i]?=some t->∃v,vs[i]?=some v/\Rep K H v t
 |[],_,i,t,h,e=>by cases h;simp at e
 |_::_,_,0,t,h,e=>by cases h with|cons h r=>simp at e;subst e;exact⟨_,rfl,h⟩
 |_::_,_,i+1,t,h,e=>by
  cases h with
  |cons h r=>
   obtain⟨v,e1,r1⟩:=aL.get (i:=i) (t:=t) r (by simpa using e);exact⟨v,by simpa using e1,r1⟩
theorem aL.ye:∀{vs:List V} {ts:List Tr} {i:Nat} {v:V},aL K H vs ts->vs[i]?=some v->∃t,ts[i]?=some t/\Rep K H v t
 |[],_,i,t,h,e=>by simp at e
 |_::_,_,0,t,h,e=>by cases h with|cons h r=>simp at e;subst e;exact⟨_,rfl,h⟩
 |_::_,_,i+1,t,h,e=>by
  cases h with
  |cons h r=>
   obtain⟨v,e1,r1⟩:=aL.ye (i:=i) r (by simpa using e);exact⟨v,by simpa using e1,r1⟩
theorem aL.append:∀{vs ws:List V} {ts us:List Tr},aL K H vs ts->aL K H ws us->aL K H (vs++ws) (ts++us)
 |[],_,_,_,h,q=>by cases h;exact q
 |_::_,_,_,_,h,q=>by cases h with|cons h r=>exact .cons h (aL.append r q)
theorem aL.rep {vs:List V}{ts:List Tr}(h:aL K H vs ts):∀n:Nat,aL K H (List.replicate n vs).flatten (List.replicate n ts).flatten
 |0=>.nil
 |n+1=>by
  rw[je,je,iy,iy];exact h.append (aL.rep h n)
end
structure bP where
 hd:Addr->Bool
 ix:Addr->Option Nat
instance:CoeFun bP (fun _=>Addr->Bool):=⟨bP.hd⟩
def aQ(B:bP)(H:Hp):Vw:=⟨fun b=>if B.hd b=true then none else H b,B.ix⟩
def HB(B:bP)(H:Hp):Prop:=∀b,B.hd b=true->∃o,H b=some o/\∀vs,o≠ .tup vs
section
variable {B B':bP}{H H':Hp}
theorem cK{b:Addr}(h:B.hd b=false):(aQ B H).H b=H b:=by show(if B.hd b=true then none else H b)=_;rw[h,ae cR]
theorem aG:au (aQ B H).H H:=fun b o (e:(if B.hd b=true then none else H b)=some o)=>by
 split at e
 ·cases e
 ·exact e
theorem ba(s:au H H'):cw (aQ B H) (aQ B H'):=⟨fun b o (e:(if B.hd b=true then none else H b)=some o)=>by
 show(if B.hd b=true then none else H' b)=some o;split at e
 ·cases e
 ·rw[ae (by assumption)];exact s b o e,fun _ _ e=>e⟩
def raw(B:bP)(H:Hp):Vw:=⟨H,B.ix⟩
theorem pO:cw (aQ B H) (raw B H):=⟨aG,fun _ _ e=>e⟩
theorem HB.same (h:HB B H)(s:au H H'):HB B H':=fun b e=>by obtain⟨o,q,n⟩:=h b e;exact⟨o,s b o q,n⟩
theorem HB.free {p:Addr}(h:HB B H)(hp:H p=none):B.hd p=false:=by
 cases e:B.hd p with
 |false=>rfl
 |true=>obtain⟨o,q,_⟩:=h p e;rw[hp]at q;cases q
theorem HB.tup {p:Addr}{vs:List V}(h:HB B H)(hp:H p=some (.tup vs)):(aQ B H).H p=some (.tup vs):=by
 cases e:B.hd p with
 |false=>rw[cK e];exact hp
 |true=>obtain⟨o,q,n⟩:=h p e;rw[hp]at q;cases q;exact absurd rfl (n _)
theorem HB.new {p:Addr}{o:HO}(h:HB B H)(hp:H p=none):(aQ B (upd H p o)).H p=some o:=by rw[cK (h.free hp)];exact aH
structure oR(B B':bP):Prop where
 hd:∀b,B.hd b=true->B'.hd b=true
 ix:∀b i,B'.ix b=some i->B.ix b=some i
theorem rm(h:oR B B'):cw (aQ B' H) (aQ B H):=⟨fun b o (e:(if B'.hd b=true then none else H b)=some o)=>by
 show(if B.hd b=true then none else H b)=some o;split at e
 ·cases e
 ·rename_i n;rw[ae fun z=>n (h.hd b z)];exact e,h.ix⟩
end
inductive Rs(α:Type) where
 |bad|ok (a:α)|exc (c:Tr)
def Rs.bind {α β:Type}(r:Rs α)(f:α->Rs β):Rs β:=match r with
 |.ok a=>f a
 |.exc c=>.exc c
 |.bad=>.bad
def XA(X:Cx)(c:Tr)(H:Hp):Prop:=False
def lO(xc:Tr->Prop){α:Type}(r:Rs α)(k:α->Prop):Prop:=match r with
 |.ok a=>k a
 |.exc c=>xc c
 |.bad=>False
def xP(X:Cx)(H:Hp):Tr->Prop:=fun c=>∀H',au H H'->XA X c H'
def Fi(X:Cx)(H:Hp){α:Type}(r:Rs α)(k:α->Prop):Prop:=lO (xP X H) r k
section
variable {X:Cx}{H H':Hp}{α β:Type}{r:Rs α}{k k':α->Prop}{xc Mp:Tr->Prop}
theorem lO.mono (h:lO xc r k)(w:∀a,k a->k' a):lO xc r k':=by
 cases r with
 |ok a=>exact w a h
 |_=>exact h
theorem lO.imp (h:lO xc r k)(w:∀c,xc c->Mp c):lO Mp r k:=by
 cases r with
 |ok a=>exact h
 |exc c=>exact w c h
 |bad=>exact h
theorem lO.bind {f:α->Rs β}{k:β->Prop}(h:lO xc (r.bind f) k):lO xc r fun a=>lO xc (f a) k:=by
 cases r with
 |_=>exact h
theorem Fi.mono (h:Fi X H r k)(w:∀a,k a->k' a):Fi X H r k':=lO.mono h w
theorem Fi.same (h:Fi X H r k)(s:au H H'):Fi X H' r k:=lO.imp h fun _ q H2 s2=>q H2 (s.trans s2)
theorem Fi.bind {f:α->Rs β}{k:β->Prop}(h:Fi X H (r.bind f) k):Fi X H r fun a=>Fi X H (f a) k:=lO.bind h
end
inductive Cell where
 |no|sh (t:Tr)|ow (ts:List Tr)
abbrev av:=List Cell
structure bb(K:PySem.W.Frag)(B:bP)(H:Hp)(σ:St)(ρ:av):Prop where
 len:ρ.length=σ.length
 sh:∀(i:Nat) (t:Tr),ρ[i]?=some (.sh t)->∃v,σ[i]?=some (some v)/\Rep K (aQ B H) v t
 ow:∀(i:Nat) (ts:List Tr),ρ[i]?=some (.ow ts)->∃D ys,σ[i]?=some (some (.ref D))/\B D=true/\H D=some (.lst ys)/\aL K (aQ B H) ys ts
 ap:∀(i j:Nat) (ts us:List Tr) (D:Addr),i≠j->ρ[i]?=some (.ow ts)->ρ[j]?=some (.ow us)->σ[i]?=some (some (.ref D))->σ[j]? ≠some (some (.ref D))
section
variable {K:PySem.W.Frag}{B B':bP}{H H':Hp}{σ:St}{ρ:av}
theorem bb.same (h:bb K B H σ ρ)(s:au H H'):bb K B H' σ ρ:=
 ⟨h.len,fun i t e=>by obtain⟨v,e1,r⟩:=h.sh i t e;exact⟨v,e1,r.same (ba s)⟩,
   fun i ts e=>by obtain⟨D,ys,e1,e2,e3,r⟩:=h.ow i ts e;exact⟨D,ys,e1,e2,s _ _ e3,r.same (ba s)⟩,h.ap⟩
theorem gJ{α:Type}{l:List α}{i j:Nat}{x y:α}(e:(l.set i x)[j]?=some y):(i=j/\i<l.length/\y=x)\/(i≠j/\l[j]?=some y):=by
 rw[iA]at e;by_cases sL:i=j
 ·rw[ab sL]at e;by_cases hl:i<l.length
  ·rw[ab hl]at e;exact .inl ⟨sL,hl,(Option.some.inj e).symm⟩
  ·rw[ae hl]at e;cases e
 ·rw[ae sL]at e;exact .inr ⟨sL,e⟩
theorem bb.set {v:V}{t:Tr}(h:bb K B H σ ρ)(i:Nat)(r:Rep K (aQ B H) v t):bb K B H (σ.set i (some v)) (ρ.set i (.sh t)):=by
 refine⟨by rw[gQ,gQ];exact h.len,fun j u e=>?_,fun j us e=>?_,fun j k us ws D Vc e1 e2 e3=>?_⟩
 ·rcases gJ e with⟨rfl,hl,q⟩|⟨sL,q⟩
  ·cases q;exact⟨v,by rw[iA,ab rfl,ab (by rw[<-h.len];exact hl)],r⟩
  ·obtain⟨w,e1,r1⟩:=h.sh j u q;exact⟨w,by rw[iA,ae sL];exact e1,r1⟩
 ·rcases gJ e with⟨rfl,hl,q⟩|⟨sL,q⟩
  ·cases q
  ·obtain⟨D,ys,e1,r1⟩:=h.ow j us q;exact⟨D,ys,by rw[iA,ae sL];exact e1,r1⟩
 ·rcases gJ e1 with⟨rfl,hl,q⟩|⟨sL,q⟩
  ·cases q
  ·rcases gJ e2 with⟨rfl,hl,q2⟩|⟨Pf,q2⟩
   ·cases q2
   ·rw[iA,ae sL]at e3;rw[iA,ae Pf];exact h.ap j k us ws D Vc q q2 e3
end
def startT(n:Nat)(ts:List Tr):av:=ts.map Cell.sh++List.replicate (n - ts.length) .no
theorem kO{n i:Nat}{ts:List Tr}{c:Cell}(e:(startT n ts)[i]?=some c):c=.no\/∃t,ts[i]?=some t/\c=.sh t:=by
 unfold startT at e;by_cases hi:i<ts.length
 ·rw[bZ (by rw[aj];exact hi),aJ]at e;cases q:ts[i]? with
  |none=>rw[q]at e;cases e
  |some u=>rw[q]at e;exact .inr ⟨u,rfl,(Option.some.inj e).symm⟩
 ·rw[dJ (by rw[aj];omega),lY]at e;split at e
  ·exact .inl (Option.some.inj e).symm
  ·cases e
theorem bb.start {K:PySem.W.Frag}{B:bP}{H:Hp}{N:List Str}{vs:List V}{ts:List Tr}(h:aL K (aQ B H) vs ts):bb K B H (start N vs) (startT N.length ts):=by
 have hl:=h.length;refine⟨by unfold L2.start startT;simp only[bc,aj,l5];omega,fun i t e=>?_,fun i us e=>?_,fun i j us ws D _ e _ _=>?_⟩
 ·rcases kO e with q|⟨u,q,q2⟩
  ·cases q
  ·cases q2;obtain⟨v,e1,r⟩:=h.get q;have hi:i<vs.length:=(dt.mp e1).1;refine⟨v,?_,r⟩;unfold L2.start;rw[bZ (by rw[aj];exact hi),aJ,e1]
   rfl
 ·rcases kO e with q|⟨u,q,q2⟩
  ·cases q
  ·cases q2
 ·rcases kO e with q|⟨u,q,q2⟩
  ·cases q
  ·cases q2
def isStar:Expr->Bool
 |.Starred .. =>true
 |_=>false
theorem br{e:Expr}(es:List Expr)(env:Env)(h:isStar e=false):starEach (e::es) env=(false,eval e env)::starEach es env:=by
 cases e<;>first|rfl|cases h
def bq(es:List Expr):Bool:=es.all fun e=>!isStar e
theorem cy{pos:Pos}{env:Env}:∀{es:List Expr},bq es=true->(backTo pos (starEach es env)).any (·.1)=false
 |[],_=>by rw[starEach];rfl
 |e::es,h=>by
  unfold bq at h;rw[eV,aM]at h;have h1:isStar e=false:=by simpa using h.1
  rw[br es env h1];exact cy (es:=es) h.2
theorem wm{pos:Pos}{env:Env}:∀{es:List Expr},bq es=true->(backTo pos (starEach es env)).all (fun x=>!x.1)=true
 |[],_=>by rw[starEach];rfl
 |e::es,h=>by
  unfold bq at h;rw[eV,aM]at h;have h1:isStar e=false:=by simpa using h.1
  rw[br es env h1];exact wm (es:=es) h.2
theorem aO{e:Expr}{es:List Expr}(h:bq (e::es)=true):isStar e=false/\bq es=true:=by
 unfold bq at h;rw[eV,aM]at h;exact⟨by simpa using h.1,h.2⟩
def lD:Expr->Bool
 |.ListComp .. =>true
 |.SetComp .. =>true
 |.DictComp .. =>true
 |_=>false
theorem rn{e:Expr}{t:Option Expr}{n:Nat}{env:Env}(h:lD e=false):swapsWith e t n env=pure false:=by
 cases e<;>first|rfl|cases h
def iS:Expr->Bool
 |.UnaryOp .. =>false
 |.BoolOp .. =>false
 |.IfExp .. =>false
 |.Compare .. =>false
 |_=>true
theorem ro{e:Expr}{env:Env}(h:iS e=true):∀whole,isTrue e env whole=(do let v<-whole;standAt e.pos;holding [v] (truthy v)):=by
 intro whole;cases e<;>first|rfl|cases h
def isSet:Expr->Bool
 |.Set .. =>true
 |_=>false
theorem cL{e:Expr}{env:Env}(h:isSet e=false):∀x,foldedSetIterable e env x=pure x:=by
 intro x;cases e<;>first|rfl|cases h
def isCall:Expr->Bool
 |.Call .. =>true
 |_=>false
theorem E9{o:Expr}{x:Str}{env:Env}{w:Sem Value}(h:isCall o=false):attributeBase o x env w=w:=by
 cases o<;>first|rfl|cases h
inductive tP(X:Cx)(F:av->Rs Tr)(σ:St)(H:Hp)(Q:VK):Prop
 |mk (B:bP) (ρ:av):HB B H->bb X.K B H σ ρ->(Fi X H (F ρ) fun t=>∀v H',au H H'->Rep X.K (aQ B H') v t->Q v H')->tP X F σ H Q
inductive tQ(X:Cx)(F:av->Rs Bool)(σ:St)(H:Hp)(Q:Bool->Hp->Prop):Prop
 |mk (B:bP) (ρ:av):HB B H->bb X.K B H σ ρ->(Fi X H (F ρ) fun b=>∀H',au H H'->Q b H')->tQ X F σ H Q
inductive zi(X:Cx)(F:av->Rs (List Tr))(σ:St)(H:Hp)(Q:List V->Hp->Prop):Prop
 |mk (B:bP) (ρ:av):HB B H->bb X.K B H σ ρ->(Fi X H (F ρ) fun ts=>∀vs H',au H H'->aL X.K (aQ B H') vs ts->Q vs H')->zi X F σ H Q
inductive Out where
 |nx (ρ:av)|ret (t:Tr)|bk (ρ:av)|ct (ρ:av)
structure cP(C B0:bP)(H0:Hp)(B:bP)(H:Hp):Prop where
 kp:∀b o,C b=true->H0 b=some o->H b=some o
 fH:cw (aQ B0 H0) (aQ B H)
 sub:oR C B
 hb:HB B H
section
variable {C B0 B B1 B2:bP}{H0 H H' H1 H2:Hp}
theorem cP.go (h:cP C B0 H0 B H)(s:au H H'):cP C B0 H0 B H':=⟨fun b o c e=>s _ _ (h.kp b o c e),h.fH.trans (ba s),h.sub,h.hb.same s⟩
theorem oR.refl:oR B B:=⟨fun _ e=>e,fun _ _ e=>e⟩
theorem cP.refl (h:HB B H)(c:oR C B):cP C B H B H:=⟨fun _ _ _ e=>e,cw.refl _,c,h⟩
theorem cP.trans (h:cP C B0 H0 B1 H1)(q:cP C B1 H1 B2 H2):cP C B0 H0 B2 H2:=⟨fun b o c e=>q.kp b o c (h.kp b o c e),h.fH.trans q.fH,q.sub,q.hb⟩
theorem cP.same (h:cP C C H0 B H):au H0 H:=fun b o e=>by
 cases q:C b with
 |true=>exact h.kp b o q e
 |false=>exact aG _ _ (h.fH.h b o (by rw[cK q];exact e))
end
def IY(X:Cx)(D:Ends)(C B0:bP)(H0:Hp):Out->Prop
 |.nx ρ=>∀bK B' H',cP C B0 H0 B' H'->bb X.K B' H' bK ρ->D.nx bK H'
 |.ret t=>∀v B' H',cP C B0 H0 B' H'->Rep X.K (aQ C H') v t->D.rt v H'
 |.bk ρ=>∀bK B' H',cP C B0 H0 B' H'->bb X.K B' H' bK ρ->D.bk bK H'
 |.ct ρ=>∀bK B' H',cP C B0 H0 B' H'->bb X.K B' H' bK ρ->D.ct bK H'
def xS(X:Cx)(C B0:bP)(H0:Hp):Tr->Prop:=fun c=>∀B' H',cP C B0 H0 B' H'->XA X c H'
inductive tS(X:Cx)(G:av->Rs Out)(D:Ends)(σ:St)(H:Hp):Prop
 |mk (C:bP) (B0:bP) (H0:Hp) (B:bP) (ρ:av):cP C B0 H0 B H->bb X.K B H σ ρ->lO (xS X C B0 H0) (G ρ) (IY X D C B0 H0)->tS X G D σ H
theorem PE.weak {X:Cx}{e:Expr}{t t':TE}(h:PE X e t)(w:∀σ H Q,t' σ H Q->t σ H Q):PE X e t':=fun pins s σ H Q I q=>h pins s σ H Q I (w σ H Q q)
theorem PT.weak {X:Cx}{e:Expr}{t t':TT}(h:PT X e t)(w:∀σ H Q,t' σ H Q->t σ H Q):PT X e t':=fun pins s σ H Q I q=>h pins s σ H Q I (w σ H Q q)
theorem PW.weak {X:Cx}{e:Expr}{t t':TT}(h:PW X e t)(w:∀σ H Q,t' σ H Q->t σ H Q):PW X e t':=fun wh pins s σ H Q I q=>h wh pins s σ H Q I (w σ H Q q)
theorem PA.weak {X:Cx}{es:List Expr}{t t':TA}(h:PA X es t)(w:∀σ H Q,t' σ H Q->t σ H Q):PA X es t':=fun pos pins s σ H Q I q=>h pos pins s σ H Q I (w σ H Q q)
theorem PS.weak {X:Cx}{st:Stmt}{t t':TS}(h:PS X st t)(w:∀D σ H,t' D σ H->t D σ H):PS X st t':=fun pins s σ H D I q=>h pins s σ H D I (w D σ H q)
theorem jW.weak {X:Cx}{st:List Stmt}{t t':TS}(h:jW X st t)(w:∀D σ H,t' D σ H->t D σ H):jW X st t':=fun pins s σ H D I q=>h pins s σ H D I (w D σ H q)
def ar(ρ:av)(i:Nat):Rs Tr:=match ρ[i]? with
 |some (.sh t)=>.ok t
 |_=>.bad
theorem wo{X:Cx}{B:bP}{σ:St}{H:Hp}{ρ:av}{i:Nat}{k:Tr->Prop}(r:bb X.K B H σ ρ)(h:Fi X H (ar ρ i) k):∃v t,σ[i]?=some (some v)/\Rep X.K (aQ B H) v t/\k t:=by
 unfold ar at h;split at h
 ·rename_i t e;obtain⟨v,e1,r1⟩:=r.sh i t e;exact⟨v,t,e1,r1,h⟩
 ·exact h.elim
section
variable {X:Cx}{a b c:Expr}{pos:Pos}{F G E:av->Rs Tr}
theorem Mq(i:Nat){x:Str}{pos:Pos}(hN:X.N[i]?=some x:=by rfl) (hv:HX X.env.scope x:=by first|exact Or.inl rfl|exact Or.inr (Or.inl rfl)|exact Or.inr (Or.inr rfl)) (hd:(x==("__debug__":Str))=false:=by decide)
  (o7:(x==("__classdict__":Str))=false:=by decide):PE X (.Name x pos) (tP X fun ρ=>ar ρ i):=
 (Cf hN hv hd o7).weak fun σ H Q ⟨B,ρ,hb,r,q⟩=>by
  obtain⟨v,t,e,r1,k⟩:=wo r q;exact⟨v,e,k v H (au.refl H) r1⟩
theorem zj{v:V}{t:Tr}{e:Expr}(h:PE X e (tC v))(r:∀H,Rep X.K H v t):PE X e (tP X fun _=>.ok t):=
 h.weak fun σ H Q ⟨B,ρ,_,_,q⟩=>q v H (au.refl H) (r _)
theorem Mr{i:Int}{j pos}:PE X (.Constant (.int i) j pos) (tP X fun _=>.ok (.int i)):=zj HZ fun H=>.int i
theorem Ri{b:Bool}{j pos}:PE X (.Constant (.bool b) j pos) (tP X fun _=>.ok (.bl b)):=zj LH fun H=>.bl b
theorem Ms{j pos}:PE X (.Constant .none j pos) (tP X fun _=>.ok .cq):=zj H_ fun H=>.cq
theorem Rj{x:Str}{n:String}(hm:X.mg x=none)(hv:bootBuiltins x=some (.type n):=by rfl) (hg:Gl X x:=by rfl) (hn:x≠"__name__":=by decide) (hd:(x==("__debug__":Str))=false:=by decide):PE X (.Name x pos) (tP X fun _=>.ok (.ty n)):=
 zj (EH (v:=.ty n) hg hm hv rfl hn hd) fun H=>.ty n
def cx(h:Tr->Tr->Rs Tr)(a b:Rs Tr):Rs Tr:=a.bind fun x=>b.bind fun y=>h x y
inductive rT(X:Cx)(h:Tr->Tr->Rs Tr)(x:V)(y:V)(H:Hp)(Q:VK):Prop
 |mk (B:bP) (tx:Tr) (ty:Tr):HB B H->Rep X.K (aQ B H) x tx->Rep X.K (aQ B H) y ty->(Fi X H (h tx ty) fun t=>∀v H',au H H'->Rep X.K (aQ B H') v t->Q v H')->rT X h x y H Q
abbrev tX(X:Cx)(f:Value->Value->Sem Value)(h:Tr->Tr->Rs Tr):Prop:=oP X f (rT X h)
theorem j7{h:Tr->Tr->Rs Tr}{σ:St}{H:Hp}{Q:VK}(q:tP X (fun ρ=>cx h (F ρ) (G ρ)) σ H Q):K3 (rT X h) (tP X F) (tP X G) σ H Q:=by
 obtain⟨B,ρ,hb,r,q⟩:=q;refine⟨B,ρ,hb,r,q.bind.mono fun x qx v H1 s1 r1=>⟨B,ρ,hb.same s1,r.same s1,(qx.bind.same s1).mono fun y qy u H2 s2 r2=>⟨B,x,y,(hb.same s1).same s2,r1.same (ba s2),r2,?_⟩⟩⟩;exact(qy.same (s1.trans s2)).mono fun t qt w H3 s3 r3=>qt w H3 ((s1.trans s2).trans s3) r3
theorem Mt{op:Operator}{h:Tr->Tr->Rs Tr}(ho:tX X (binaryOp op) h)(ha:PE X a (tP X F))(hb:PE X b (tP X G)):PE X (.BinOp a op b pos) (tP X fun ρ=>cx h (F ρ) (G ρ)):=
 (LO ho ha hb).weak fun _ _ _ q=>j7 q
theorem Mu{op:CmpOp}{h:Tr->Tr->Rs Tr}(ho:tX X (compareOp op) h)(ha:PE X a (tP X F))(hb:PE X b (tP X G))(hm:behindInMarks op b=false:=by first|exact jY _|rfl|with_unfolding_all rfl):PE X (.Compare a [op] [b] pos) (tP X fun ρ=>cx h (F ρ) (G ρ)):=
 (y4 ho ha hb hm).weak fun _ _ _ q=>j7 q
def jA(r:Rs Tr):Rs Bool:=r.bind fun t=>match t with
 |.bl b=>.ok b
 |_=>.bad
theorem Rep.rq {K:PySem.W.Frag}{H:Vw}{v:V}{b:Bool}(h:Rep K H v (.bl b)):v=.bl b:=by cases h;rfl
theorem gs{K:PySem.W.Frag}{W:Vw}{xs:List V}{t:Tr}(r:aL K W xs [t]):∃x,xs=[x]/\Rep K W x t:=by
 cases r with
 |cons a r=>cases r;exact⟨_,rfl,a⟩
theorem rA{K:PySem.W.Frag}{W:Vw}{xs:List V}{t u:Tr}(r:aL K W xs [t,u]):∃x y,xs=[x,y]/\Rep K W x t/\Rep K W y u:=by
 cases r with
 |cons a r=>
  obtain⟨y,rfl,b⟩:=gs r;exact⟨_,_,rfl,a,b⟩
theorem Rep.zk {K:PySem.W.Frag}{H:Vw}{v:V}{ns:List Int}(h:Rep K H v (.f7 ns)):∃a,v=.ref a/\iN K H.H a (ns.map V.int):=by cases h;exact⟨_,rfl,by assumption⟩
theorem Rep.E_ {K:PySem.W.Frag}{H:Vw}{v:V}{aB:List (Key×Tr)}(h:Rep K H v (.j6 aB)):∃a aw,v=.ref a/\Rd H.H a (.dK aw)/\aw.map (·.1)=aB.map (·.1)/\aL K H (aw.map (·.2)) (aB.map (·.2)):=by cases h;exact⟨_,_,rfl,by assumption,by assumption,by assumption⟩
theorem Rep.uS {K:PySem.W.Frag}{H:Vw}{v:V}{i:Nat}(h:Rep K H v (.at i)):∃a,v=.ref a/\H.ix a=some i:=by cases h;exact⟨_,rfl,by assumption⟩
theorem Rep.Fb {K:PySem.W.Frag}{H:Vw}{v:V}(h:Rep K H v .cq):v=.cq:=by cases h;rfl
theorem Rep.int_inv {K:PySem.W.Frag}{H:Vw}{v:V}{i:Int}(h:Rep K H v (.int i)):v=.int i:=by cases h;rfl
theorem Rep.str_inv {K:PySem.W.Frag}{H:Vw}{v:V}{z:Str}(h:Rep K H v (.str z)):v=.str z/\z.length<=iR:=by cases h;exact⟨rfl,by assumption⟩
theorem Rep.cZ {K:PySem.W.Frag}{H:Vw}{v:V}{ts:List Tr}(h:Rep K H v (.tup ts)):∃a vs,v=.ref a/\hZ K H.H a vs/\aL K H vs ts:=by cases h;exact⟨_,_,rfl,.inl (.inl (by assumption)),by assumption⟩
theorem Rep.j8 {K:PySem.W.Frag}{H:Vw}{v:V}{ts:List Tr}(h:Rep K H v (.tup ts)):∃a vs,v=.ref a/\H.H a=some (.tup vs)/\aL K H vs ts:=by cases h;exact⟨_,_,rfl,by assumption,by assumption⟩
theorem Rk{K:PySem.W.Frag}{H:Hp}{a:Addr}{vs:List V}(h:H a=some (.tup vs)):hZ K H a vs:=.inl (.inl h)
theorem Rep.lst_inv {K:PySem.W.Frag}{H:Vw}{v:V}{ts:List Tr}(h:Rep K H v (.lst ts)):∃a vs,v=.ref a/\H.H a=some (.lst vs)/\aL K H vs ts:=by cases h;exact⟨_,_,rfl,by assumption,by assumption⟩
theorem Fc{H:Hp}{r:Rs Tr}{k:Bool->Prop}(h:Fi X H (jA r) k):Fi X H r fun t=>∃b,t=.bl b/\k b:=by
 refine h.bind.mono fun t q=>?_
 cases t with
 |bl b=>exact⟨b,rfl,q⟩
 |_=>exact q.elim
theorem Mv{op:CmpOp}{h:Tr->Tr->Rs Tr}(ho:tX X (compareOp op) h)(ha:PE X a (tP X F))(hb:PE X b (tP X G))(hm:behindInMarks op b=false:=by first|exact jY _|rfl|with_unfolding_all rfl):PT X (.Compare a [op] [b] pos) (tQ X fun ρ=>jA (cx h (F ρ) (G ρ))):=
 (y6 ho ha hb hm).weak fun σ H Q ⟨B,ρ,hb,r,q⟩=>by
  refine j7 (Q:=fun x H'=>∃k,x=.bl k/\Q k H') ⟨B,ρ,hb,r,(Fc q).mono fun t qt v H' s' r'=>?_⟩;obtain⟨b,rfl,k⟩:=qt;exact⟨b,r'.rq,k H' s'⟩
def gz:Tr->Rs Bool
 |.cq=>.ok false
 |.bl b=>.ok b
 |.int i=>.ok (i !=0)
 |.str z=>.ok ((z.length:Int) !=0)
 |.tup ts=>.ok (!ts.isEmpty)
 |.lst ts=>.ok (!ts.isEmpty)
 |.j6 aB=>.ok (!aB.isEmpty)
 |_=>.bad
theorem aL.isEmpty {K:PySem.W.Frag}{H:Vw}{vs:List V}{ts:List Tr}(h:aL K H vs ts):vs.isEmpty=ts.isEmpty:=by cases h<;>rfl
theorem pP:iR<=sizeLine:=by rw[bS];decide
theorem Fd{K:PySem.W.Frag}{H:Vw}{v:V}{t:Tr}{b:Bool}(r:Rep K H v t)(e:gz t=.ok b):EM K v H b:=by
 cases r with
 |cq=>cases e;rfl
 |bl c=>cases e;rfl
 |int i=>cases e;rfl
 |str z h=>cases e;exact⟨bp h pP,rfl⟩
 |ty n=>cases e
 |tup h r=>cases e;exact .inr (.inl ⟨_,.inl (.inl h),by rw[r.isEmpty]⟩)
 |lst h r=>cases e;exact .inl ⟨_,.of h,by rw[r.isEmpty]⟩
 |f7 h=>cases e
 |«at» h=>cases e
 |aE h e1 rr=>cases e
 |ob h e1 rr=>cases e
 |zh h c=>cases e
 |j6 h e1 r=>
  cases e;refine .inr (.inr ⟨_,h,?_⟩);rename_i aw aB;cases aw<;>cases aB<;>first|rfl|cases e1
theorem rB{H:Vw}{v:V}{t:Tr}{k:Bool->Prop}(r:Rep X.K H v t)(h:Fi X H (gz t) k):∃b,EM X.K v H b/\k b:=by
 cases e:gz t with
 |ok b=>rw[e]at h;exact⟨b,Fd r e,h⟩
 |exc c=>cases t<;>cases e
 |bad=>rw[e]at h;exact h.elim
theorem Mw(ha:PE X a (tP X F))(he:iS a=true:=by rfl):PT X a (tQ X fun ρ=>(F ρ).bind gz):=
 (v3 ha (ro he)).weak fun σ H Q ⟨B,ρ,hb,r,q⟩=>⟨B,ρ,hb,r,q.bind.mono fun t qt v H' s' r'=>by
  obtain⟨b,h1,h2⟩:=rB (r'.same pO) (qt.same s');exact⟨b,h1,h2 H' s'⟩⟩
def CN(r:Rs Bool):Rs Bool:=r.bind fun b=>.ok (!b)
variable {A B:av->Rs Bool}{rest:List Expr}
theorem Mx(ha:PT X a (tQ X A)):PT X (.UnaryOp .Not a pos) (tQ X fun ρ=>CN (A ρ)):=
 (Cg ha).weak fun σ H Q ⟨B,ρ,hb,r,q⟩=>⟨B,ρ,hb,r,q.bind⟩
def Pg(a b:Rs Bool):Rs Bool:=a.bind fun c=>if c then .ok true else b
theorem My(ha:PT X a (tQ X A)):PW X (.BoolOp .Or [a] pos) (tQ X A):=pw_or1 ha
theorem w_or(ha:PT X a (tQ X A))(hb:PW X (.BoolOp .Or (b::rest) pos) (tQ X B)):PW X (.BoolOp .Or (a::b::rest) pos) (tQ X fun ρ=>Pg (A ρ) (B ρ)):=
 (pw_or ha hb).weak fun σ H Q ⟨Bb,ρ,hb,r,q⟩=>⟨Bb,ρ,hb,r,q.bind.mono fun c qc H1 s1=>by
  cases c with
  |false=>exact⟨Bb,ρ,hb.same s1,r.same s1,(Fi.same qc s1).mono fun b qb H2 s2=>qb H2 (s1.trans s2)⟩
  |true=>exact qc H1 s1⟩
theorem IZ{op}{es:List Expr}(h:PW X (.BoolOp op es pos) (tQ X A)):PT X (.BoolOp op es pos) (tQ X A):=h.pt
def AW(a b:Rs Tr):Rs Tr:=a.bind fun t=>(gz t).bind fun c=>if c then b else .ok t
theorem Mz(ha:PE X a (tP X F))(hb:PE X (.BoolOp .And (b::rest) pos) (tP X G)):PE X (.BoolOp .And (a::b::rest) pos) (tP X fun ρ=>AW (F ρ) (G ρ)):=by
 intro pins s σ H Q I ⟨B,ρ,hB,r,q⟩;refine BoolOp_and (dY (ha pins s σ H _ I ⟨B,ρ,hB,r,q.bind.mono fun t qt v H1 s1 r1=>(show∃t,Rep X.K (aQ B H1) v t/\au H H1/\Fi X H ((gz t).bind fun c=>if c then G ρ else .ok t) (fun t=>∀v H',au H H'->Rep X.K (aQ B H') v t->Q v H')from⟨t,r1,s1,qt⟩)⟩) fun v s1 ⟨x,H1,I1,r1,t,rt,sm,qt⟩=>?_);obtain⟨c,h1,h2⟩:=rB (rt.same pO) (qt.bind.same sm);refine dY (Ct pins s1 σ H1 x v (fun k H'=>k=c/\H'=H1) I1 r1 ⟨c,h1,rfl,rfl⟩) fun k s2 ⟨H2,I2,e1,e2⟩=>?_
 subst e1 e2;cases k with
 |true=>exact hb pins s2 σ _ Q I2 ⟨B,ρ,hB.same sm,r.same sm,(Fi.same h2 sm).mono fun t q v H' s' r'=>q v H' (sm.trans s') r'⟩
 |false=>exact⟨x,_,I2,r1,h2 x _ sm rt⟩
theorem MA{op}(h:PE X a (tP X F)):PE X (.BoolOp op [a] pos) (tP X F):=Ci h
variable {es:List Expr}{L:av->Rs (List Tr)}
def ag(a:Rs Tr)(l:Rs (List Tr)):Rs (List Tr):=a.bind fun x=>l.bind fun xs=>.ok (x::xs)
theorem MB:PA X [] (zi X fun _=>.ok []):=nT.weak fun σ H Q ⟨B,ρ,hb,r,q⟩=>q [] H (au.refl H) .nil
theorem I0(ha:PE X a (tP X F))(hr:PA X es (zi X L))(hs:isStar a=false:=by rfl):PA X (a::es) (zi X fun ρ=>ag (F ρ) (L ρ)):=
 (kN ha hr (br _ _ hs)).weak fun σ H Q ⟨B,ρ,hb,r,q⟩=>⟨B,ρ,hb,r,q.bind.mono fun x qx v H1 s1 r1=>⟨B,ρ,hb.same s1,r.same s1,(qx.bind.same s1).mono fun xs qs vs H2 s2 r2=>qs _ H2 (s1.trans s2) (.cons (r1.same (ba s2)) r2)⟩⟩
def iT:Nat:=16777216
theorem ip:iT=sizeLine:=bS.symm
def fB(l:Rs (List Tr)):Rs Tr:=l.bind fun ts=>if ts.length<=iT then .ok (.tup ts)else .bad
def yf(l:Rs (List Tr)):Rs Tr:=l.bind fun ts=>if ts.length<=iT then .ok (.lst ts)else .bad
theorem MC{x1}(h:PA X es (zi X L)):PE X (.Tuple es x1 pos) (tP X fun ρ=>fB (L ρ)):=
 (Cu h).weak fun σ H Q ⟨B,ρ,hb,r,q⟩=>⟨B,ρ,hb,r,q.bind.mono fun ts qt vs H1 s1 r1=>by
  by_cases hz:ts.length<=iT
  ·rw[ab hz]at qt;refine⟨by rw[r1.length,<-ip];exact hz,fun p hp=>qt (.ref p) _ (s1.IW (s1.free hp)) (.tup ((hb.same s1).new hp) (r1.same (ba (au.upd hp))))⟩
  ·rw[ae hz]at qt;exact qt.elim⟩
def aC(h:List Tr->Rs Tr)(l:Rs (List Tr)):Rs Tr:=l.bind h
inductive rC(X:Cx)(h:List Tr->Rs Tr)(xs:List V)(H:Hp)(Q:VK):Prop
 |mk (B:bP) (ts:List Tr):HB B H->aL X.K (aQ B H) xs ts->(Fi X H (h ts) fun t=>∀v H',au H H'->Rep X.K (aQ B H') v t->Q v H')->rC X h xs H Q
abbrev g9(X:Cx)(f:Value)(h:List Tr->Rs Tr):Prop:=e8 X f (rC X h)
theorem tY{h:List Tr->Rs Tr}{σ:St}{H:Hp}{Q:VK}(q:tP X (fun ρ=>aC h (L ρ)) σ H Q):O7 (rC X h) (zi X L) σ H Q:=by
 obtain⟨B,ρ,hb,r,q⟩:=q;exact⟨B,ρ,hb,r,q.bind.mono fun ts qt vs H1 s1 r1=>⟨B,ts,hb.same s1,r1,(qt.same s1).mono fun t qt v H2 s2 r2=>qt v H2 (s1.trans s2) r2⟩⟩
theorem Fe{id:String}{x:Str}{p:Pos}{e:Expr}{h:List Tr->Rs Tr}(hc:g9 X (.builtin id) h)(hm:X.mg x=none)(ha:PA X (e::es) (zi X L))(hv:bootBuiltins x=some (.builtin id):=by rfl) (hg:Gl X x:=by rfl) (hn:x≠"__name__":=by decide) (ji:(x==("__debug__":Str))=false:=by decide)
  (eJ:bq (e::es)=true:=by rfl):PE X (.Call (.Name x p) (e::es) [] pos) (tP X fun ρ=>aC h (L ρ)):=
 (v8 hc hg hm hv ha hn ji (br _ _ (aO eJ).1) (cy (aO eJ).2)).weak fun _ _ _ q=>tY q
theorem CO{T:String}{x:Str}{p:Pos}{e:Expr}{h:List Tr->Rs Tr}(hc:g9 X (.type T) h)(hm:X.mg x=none)(ha:PA X (e::es) (zi X L))(hv:bootBuiltins x=some (.type T):=by rfl) (hg:Gl X x:=by rfl) (hn:x≠"__name__":=by decide) (ji:(x==("__debug__":Str))=false:=by decide)
  (eJ:bq (e::es)=true:=by rfl):PE X (.Call (.Name x p) (e::es) [] pos) (tP X fun ρ=>aC h (L ρ)):=
 (iP hc hg hm hv ha hn ji (br _ _ (aO eJ).1) (cy (aO eJ).2)).weak fun _ _ _ q=>tY q
inductive spT(K:PySem.W.Frag)(f:List Tr->Rs Tr)(vs:List V)(H:Hp)(Q:VK)(_w3:XK):Prop
 |mk (B:bP) (ts:List Tr):HB B H->aL K (aQ B H) vs ts->(∃t,f ts=.ok t/\∀v H',au H H'->Rep K (aQ B H') v t->Q v H')->spT K f vs H Q _w3
theorem MD{x:Str}{st:Stmt}{ps:List Str}{f:Addr}{fd:FuncData}{k:Nat}{h:List Tr->Rs Tr}{e:Expr}{p:Pos}(D:tW X.K X.mg x st ps f fd)(G:f6 X.prog X.w X.K X.mg X.base lz k f fd ps (spT X.K h))(hr:dA k X.A)
  (ha:PA X (e::es) (zi X L)) (hg:Gl X x:=by rfl) (ji:(x==("__debug__":Str))=false:=by decide) (eJ:bq (e::es)=true:=by rfl):PE X (.Call (.Name x p) (e::es) [] pos) (tP X fun ρ=>aC h (L ρ)):=
 (IX D G hr ha hg ji (br _ _ (aO eJ).1) (cy (aO eJ).2)).weak fun σ H Q ⟨B,ρ,hb,r,q⟩=>⟨B,ρ,hb,r,q.bind.mono fun ts qt vs H1 s1 r1=>by
  cases e:h ts with
  |ok t=>rw[e]at qt;exact⟨B,ts,hb.same s1,by rw[cU];exact r1,t,e,fun v H2 s2 r2=>qt v H2 (s1.trans s2) r2⟩
  |exc c=>rw[e]at qt;exact(qt _ (au.refl _)).elim
  |bad=>rw[e]at qt;exact qt.elim⟩
end
end L2
namespace L2
open PySem PySem.Spec PyProof.Rows
section
variable {X:Cx}{a b c e:Expr}{pos:Pos}{F:av->Rs Tr}{G G':av->Rs Out}{A:av->Rs Bool}{st:Stmt}{rest ME:List Stmt}
def wq(r:Rs Out)(G:av->Rs Out):Rs Out:=r.bind fun o=>match o with
 |.nx ρ=>G ρ
 |.ret t=>.ok (.ret t)
 |.bk ρ=>.ok (.bk ρ)
 |.ct ρ=>.ok (.ct ρ)
theorem MF:jW X [] (tS X fun ρ=>.ok (.nx ρ)):=y1.weak fun D σ H ⟨C,B0,H0,B,ρ,si,r,q⟩=>q σ B H si r
theorem I_(h1:PS X st (tS X G))(h2:jW X rest (tS X G')):jW X (st::rest) (tS X fun ρ=>wq (G ρ) G'):=
 (vY h1 h2).weak fun D σ H ⟨C,B0,H0,B,ρ,si,r,q⟩=>⟨C,B0,H0,B,ρ,si,r,q.bind.mono fun o qo=>by
  cases o with
  |nx eK=>exact fun bK B' H' Vd r'=>⟨C,B0,H0,B',eK,Vd,r',qo⟩
  |ret t=>exact qo
  |bk eK=>exact qo
  |ct eK=>exact qo⟩
theorem MG(h1:PS X st (tS X G)):jW X [st] (tS X G):=y3 h1
def Ja(i:Nat)(r:Rs Tr)(ρ:av):Rs Out:=r.bind fun t=>.ok (.nx (ρ.set i (.sh t)))
theorem lO.here {α:Type}{C B0 B:bP}{H0 H:Hp}{r:Rs α}{k:α->Prop}(h:lO (xS X C B0 H0) r k)(si:cP C B0 H0 B H):Fi X H r k:=h.imp fun _ q H' s'=>q B H' (si.go s')
theorem GY{C B0 B:bP}{H0 H:Hp}{σ:St}{ρ:av}{k:Tr->Prop}(si:cP C B0 H0 B H)(r:bb X.K B H σ ρ)(q:lO (xS X C B0 H0) (F ρ) k){Q:VK}(hq:∀t v H',k t->au H H'->cP C B0 H0 B H'->bb X.K B H' σ ρ->Rep X.K (aQ B H') v t->Q v H'):tP X F σ H Q:=
 ⟨B,ρ,si.hb,r,(q.here si).mono fun t qt v H' s' r'=>hq t v H' qt s' (si.go s') (r.same s') r'⟩
theorem MH{C B0 B:bP}{H0 H:Hp}{σ:St}{ρ:av}{k:Bool->Prop}(si:cP C B0 H0 B H)(r:bb X.K B H σ ρ)(q:lO (xS X C B0 H0) (A ρ) k){Q:Bool->Hp->Prop}(hq:∀b H',k b->au H H'->cP C B0 H0 B H'->bb X.K B H' σ ρ->Q b H'):tQ X A σ H Q:=
 ⟨B,ρ,si.hb,r,(q.here si).mono fun b qb H' s'=>hq b H' qb s' (si.go s') (r.same s')⟩
theorem Rep.out {K:PySem.W.Frag}{C B0 B:bP}{H0 H:Hp}{v:V}{t:Tr}(r:Rep K (aQ B H) v t)(si:cP C B0 H0 B H):Rep K (aQ C H) v t:=r.same (rm si.sub)
theorem MI{i:Nat}{x:Str}{pos':Pos}(he:PE X e (tP X F))(hN:X.N.Nodup:=by assumption) (hi:X.N[i]?=some x:=by rfl) (hx:Loc X.env.scope x:=by first|exact Or.inl rfl|exact Or.inr rfl) (hs:lD e=false:=by rfl) (hf:X.fn x=true\/X.env.scope.names.lookup x=some .local:=by first|exact .inl rfl|exact .inr rfl|assumption):
  PS X (.Assign [.Name x pos'] e pos) (tS X fun ρ=>Ja i (F ρ) ρ):=
 (Co hN hi hx he (rn hs) hf).weak fun D σ H ⟨C,B0,H0,B,ρ,si,r,q⟩=>GY si r q.bind fun t v H1 qt s1 Jb r1 rv=>qt _ B H1 Jb (r1.set i rv)
def j9(r:Rs Tr):Rs Out:=r.bind fun t=>.ok (.ret t)
theorem MJ(he:PE X e (tP X F)):PS X (.Return (some e) pos) (tS X fun ρ=>j9 (F ρ)):=
 (Ck he).weak fun D σ H ⟨C,B0,H0,B,ρ,si,r,q⟩=>GY si r q.bind fun t v H1 qt s1 Jb r1 rv=>qt v B H1 Jb (rv.out Jb)
def MK(c:Rs Bool)(a b:Rs Out):Rs Out:=c.bind fun k=>if k then a else b
theorem Rl{ys ns:List Stmt}(hc:PT X c (tQ X A))(ha:jW X ys (tS X G))(hb:jW X ns (tS X G')):PS X (.If c ys ns pos) (tS X fun ρ=>MK (A ρ) (G ρ) (G' ρ)):=
 (GK hc ha hb).weak fun D σ H ⟨C,B0,H0,B,ρ,si,r,q⟩=>MH si r q.bind fun k H1 qk s1 Jb r1=>by
  cases k with
  |true=>exact IP ⟨C,B0,H0,B,ρ,Jb,r1,qk⟩
  |false=>exact IM ⟨C,B0,H0,B,ρ,Jb,r1,qk⟩
abbrev j_:=Tr->av->Rs av
inductive tG(X:Cx)(T:j_)(v:V)(σ:St)(H:Hp)(Q:St->Hp->Prop):Prop
 |mk (B:bP) (ρ:av) (t:Tr):HB B H->bb X.K B H σ ρ->Rep X.K (aQ B H) v t->(Fi X H (T t ρ) fun eK=>∀bK H',au H H'->bb X.K B H' bK eK->Q bK H')->tG X T v σ H Q
def gN(i:Nat):j_:=fun t ρ=>.ok (ρ.set i (.sh t))
theorem Jc(i:Nat){x:Str}(hN:X.N.Nodup:=by assumption) (hi:X.N[i]?=some x:=by rfl) (hx:Loc X.env.scope x:=by first|exact Or.inl rfl|exact Or.inr rfl) (hf:X.fn x=true\/X.env.scope.names.lookup x=some .local:=by first|exact .inl rfl|exact .inr rfl|assumption):PG X (.Name x pos) (tG X (gN i)):=by
 intro pins s σ H v u Q I r ⟨B,ρ,t,hb,rs,rt,q⟩;exact uJ hN hi hx hf pins s σ H v u Q I r (q _ H (au.refl H) (rs.set i rt))
def yg:List Nat->List Tr->av->Rs av
 |[],[],ρ=>.ok ρ
 |i::is,t::ts,ρ=>yg is ts (ρ.set i (.sh t))
 |_,_,_=>.bad
inductive K8(X:Cx)(T:List Tr->av->Rs av)(vs:List V)(σ:St)(H:Hp)(Q:St->Hp->Prop):Prop
 |mk (B:bP) (ρ:av) (ts:List Tr):HB B H->bb X.K B H σ ρ->aL X.K (aQ B H) vs ts->(Fi X H (T ts ρ) fun eK=>∀bK H',au H H'->bb X.K B H' bK eK->Q bK H')->K8 X T vs σ H Q
theorem ML:EJ X [] (K8 X (yg [])):=by
 intro pins s σ H vs us Q I r ⟨B,ρ,ts,hb,rs,rt,q⟩
 match ts,rt,q with
 |[],.nil,q=>exact EK pins s σ H [] us Q I r ⟨rfl,q σ H (au.refl H) rs⟩
 |_::_,_,q=>exact q.elim
theorem Jd{es:List Expr}{i:Nat}{is:List Nat}{x:Str}(h2:EJ X es (K8 X (yg is)))(hN:X.N.Nodup:=by assumption) (hi:X.N[i]?=some x:=by rfl) (hx:Loc X.env.scope x:=by first|exact Or.inl rfl|exact Or.inr rfl) (hf:X.fn x=true\/X.env.scope.names.lookup x=some .local:=by first|exact .inl rfl|exact .inr rfl|assumption)
  (hs:(assignEach (.Name x pos::es) X.env).map (·.2)=assign (.Name x pos) X.env::(assignEach es X.env).map (·.2):=by rfl):EJ X (.Name x pos::es) (K8 X (yg (i::is))):=by
 intro pins s σ H vs us Q I r ⟨B,ρ,ts,hb,rs,rt,q⟩
 match ts,rt,q with
 |[],_,q=>exact q.elim
 |t::ts,.cons r1 r2,q=>
  exact Cn (uJ hN hi hx hf) h2 hs pins s σ H _ us Q I r ⟨_,_,rfl,⟨B,_,ts,hb,rs.set i r1,r2,q⟩⟩
def gT(is:List Nat):j_:=fun t ρ=>match t with
 |.tup ts=>yg is ts ρ
 |_=>.bad
theorem zl:∀{is:List Nat} {ts:List Tr} {ρ eK:av},yg is ts ρ=.ok eK->ts.length=is.length
 |[],[],_,_,_=>rfl
 |[],_::_,_,_,h=>by cases h
 |_::_,[],_,_,h=>by cases h
 |_::is,_::ts,_,_,h=>by rw[a_,a_,zl (is:=is) (ts:=ts) h]
theorem t4:∀{is:List Nat} {ts:List Tr} {ρ:av} {c:Tr},yg is ts ρ≠ .exc c
 |[],[],_,_=>fun h=>by cases h
 |[],_::_,_,_=>fun h=>by cases h
 |_::_,[],_,_=>fun h=>by cases h
 |_::is,_::ts,_,_=>t4 (is:=is) (ts:=ts)
theorem MM{es:List Expr}{k:Nat}{is:List Nat}(h:EJ X es (K8 X (yg is)))(hc:X.calm=true:=by rfl) (hn:(assignEach es X.env).length=is.length:=by rfl) (eJ:(assignEach es X.env).findIdx? (·.1)=none:=by rfl):PG X (.Tuple es k pos) (tG X (gT is)):=by
 intro pins s σ H v u Q I r ⟨B,ρ,t,hb,rs,rt,q⟩;cases rt with
 |tup hq rv=>
  have hq:=Rk (K:=X.K) hq;refine Ic hc h hn eJ pins s σ H _ u Q I r ⟨_,_,rfl,(au.tup aG hq),?_,B,ρ,_,hb,rs,rv,q⟩;have q':Fi X H (yg is _ ρ) _:=q;cases e:yg is _ ρ with
  |ok eK=>rw[rv.length];exact zl e
  |exc c=>exact(t4 e).elim
  |bad=>rw[e]at q';exact q'.elim
 |_=>exact q.elim
structure js(K:PySem.W.Frag)(B:bP)(J:It)(H:Hp)(ts:List Tr):Prop where
 go:∀i B' H',i<ts.length->cw (aQ B H) (aQ B' H')->HB B' H'->J.go i H'
 xU:∀i B' H' x Ff,i<ts.length->cw (aQ B H) (aQ B' H')->HB B' H'->J.xU i H' x Ff->au H' Ff/\∃t,ts[i]?=some t/\Rep K (aQ B' Ff) x t
 stop:∀B' H',cw (aQ B H) (aQ B' H')->J.stop ts.length H'
inductive tI(X:Cx)(W:av->Rs (List Tr))(σ:St)(H:Hp)(R:It->Hp->Prop):Prop
 |mk (B:bP) (ρ:av):HB B H->bb X.K B H σ ρ->(Fi X H (W ρ) fun ts=>∀J H',au H H'->js X.K B J H' ts->R J H')->tI X W σ H R
def AX(z:Str):List Tr:=z.cps.toList.map fun c=>Tr.str ⟨#[c]⟩
def iU(r:Rs Tr):Rs (List Tr):=r.bind fun t=>match t with
 |.tup ts=>.ok ts
 |.lst ts=>.ok ts
 |.str z=>.ok (AX z)
 |_=>.bad
theorem yh{K:PySem.W.Frag}{B:bP}{H:Hp}{a:Addr}{vs:List V}{ts:List Tr}(h:aQ B H a=some (.lst vs))(r:aL K (aQ B H) vs ts):js K B (O4 K a) H ts where
 go:=fun i B' H' hi s hb=>by
  have hv:i<vs.length:=by rw[r.length];exact hi
  exact⟨vs,vs[i],iN.of (aG _ _ (s.h _ _ h)),by simp[hv]⟩
 xU:=fun i B' H' x Ff hi s hb ⟨e,y⟩=>by
  subst e;have q:=y vs (iN.of (aG _ _ (s.h _ _ h)));obtain⟨t,e1,r1⟩:=r.ye q;exact⟨au.refl _,t,e1,r1.same s⟩
 stop:=fun B' H' s=>⟨vs,iN.of (aG _ _ (s.h _ _ h)),by rw[r.length];exact aA _⟩
theorem t6{K:PySem.W.Frag}{B:bP}{H:Hp}{a:Addr}{vs:List V}{ts:List Tr}(h:hZ K (aQ B H) a vs)(r:aL K (aQ B H) vs ts):js K B (Qy K a) H ts where
 go:=fun i B' H' hi s hb=>by
  have hv:i<vs.length:=by rw[r.length];exact hi
  exact⟨vs,vs[i],au.tup aG (s.h.tup h),by simp[hv]⟩
 xU:=fun i B' H' x Ff hi s hb ⟨e,y⟩=>by
  subst e;have q:=y vs (au.tup aG (s.h.tup h));obtain⟨t,e1,r1⟩:=r.ye q;exact⟨au.refl _,t,e1,r1.same s⟩
 stop:=fun B' H' s=>⟨vs,au.tup aG (s.h.tup h),by rw[r.length];exact aA _⟩
theorem AY{K:PySem.W.Frag}{B:bP}{H:Hp}(z:Str):js K B (Pe z) H (AX z) where
 go:=fun i B' H' hi _ _=>by
  have h:i<z.cps.size:=by simpa[AX]using hi
  exact h
 xU:=fun i B' H' x Ff hi s hb ⟨e,c,hc,hx⟩=>by
  subst e;subst hx;refine⟨au.refl _,.str ⟨#[c]⟩,?_,.str _ (by show 1<=iR;decide)⟩;unfold AX;rw[aJ,cQ,hc]
  rfl
 stop:=fun B' H' s=>by simp[AX,Pe]
theorem Fg{pins:List (Addr×Obj)}{σ:St}{H1:Hp}{s1:Shared}{R:It->Hp->Prop}{tg:Expr}{z:Str}{t:Tok}(I1:Inv X pins σ H1 s1)(q:R (Pe z) H1):wpAny (model X.prog X.w) X.A (pyIter (.str z t)) (O2 X pins σ tg R) X.xe s1:=by
 have fin:∀b∈[s1.heap.objs.size],jy X pins H1 b:=fun b hb=>by
  have e:b=s1.heap.objs.size:=by simpa using hb
  rw[e];exact I1.uK (aA _) (I1.bQ.fresh (aA _))
 cases ha:z.cps.all (· <128)
 ·exact wpAny_pyIter_wide ha ⟨s1.heap.objs.size,[s1.heap.objs.size],_,_,H1,rfl,I1.kept (t':=s1.toks) fun b o e=>aD _ e,
   wj (n:="str_iterator") (t:=t) (by decide) (fun A' hA=>Walks.strWide hA _ z t) fun _ _ _ _ _ st hq=>wpAny_pyIter_striter_wide st hq,⟨_,aU _ rfl,rfl,rfl⟩,fin,q⟩
 ·exact wpAny_pyIter_ascii ha ⟨s1.heap.objs.size,[s1.heap.objs.size],_,_,H1,rfl,I1.kept (t':=s1.toks) fun b o e=>aD _ e,
   wj (n:="str_ascii_iterator") (t:=t) (by decide) (fun A' hA=>Walks.strAscii hA _ z t) fun _ _ _ _ _ st hq=>wpAny_pyIter_striter_ascii st hq,⟨_,aU _ rfl,rfl,rfl⟩,fin,q⟩
theorem MN{tg l:Expr}(hl:PE X l (tP X F)):PI X tg l (tI X fun ρ=>iU (F ρ)):=by
 intro pins s σ H R I ⟨B,ρ,hb,r,q⟩;refine dY (hl pins s σ H (fun x H1=>∃t,au H H1/\Rep X.K (aQ B H1) x t/\Fi X H (iU (.ok t)) fun ts=>∀J H',au H H'->js X.K B J H' ts->R J H') I ⟨B,ρ,hb,r,q.bind.mono fun t qt v H1 s1 r1=>⟨t,s1,r1,qt⟩⟩) fun v s1 ⟨x,H1,I1,r1,t,sm,rt,k⟩=>?_
 have k:Fi X H (match t with
  |.tup ts=>.ok ts
  |.lst ts=>.ok ts
  |.str z=>.ok (AX z)
  |_=>.bad) _:=k
 have fin:∀b∈[s1.heap.objs.size],jy X pins H1 b:=fun b hb=>by
  rw[cv.mp hb];exact I1.uK (aA _) (I1.bQ.fresh (aA _))
 split at k
 ·obtain⟨a,vs,rfl,h,rr⟩:=rt.cZ;cases r1;obtain⟨aY,rv,p,hz⟩:=I1.tuple (au.tup aG h);exact jH (show s1.heap.IsTuple a aY.toArray from p) ⟨s1.heap.objs.size,[s1.heap.objs.size],_,_,H1,rfl,I1.kept (t':=s1.toks) fun b o e=>aD _ e,rb a _,⟨_,aU _ rfl,rfl,rfl⟩,fin,k _ H1 sm (t6 h rr)⟩
 ·obtain⟨a,vs,rfl,h,rr⟩:=rt.lst_inv;cases r1;obtain⟨aY,rv,p,hz⟩:=I1.list (iN.of (aG _ _ h));exact jL p.isList ⟨s1.heap.objs.size,[s1.heap.objs.size],_,_,H1,rfl,I1.kept (t':=s1.toks) fun b o e=>aD _ e,tj a _,⟨_,aU _ rfl,rfl,rfl⟩,fin,k _ H1 sm (yh h rr)⟩
 ·obtain⟨rfl,_⟩:=rt.str_inv;obtain⟨t,rfl⟩:=(show∃t,v=Value.str _ t from r1);exact Fg I1 (k _ H1 sm (AY _))
 ·exact k.elim
def wt(lo:Int)(n:Nat):List Tr:=(List.range n).map fun k=>Tr.int (lo+(k:Nat))
theorem ka(lo:Int)(n:Nat):(wt lo n).length=n:=by simp[wt]
theorem wu{K:PySem.W.Frag}{B:bP}{H:Hp}(lo:Int)(n:Nat):js K B (O5 lo n) H (wt lo n) where
 go:=fun i B' H' hi _ _=>by rw[ka]at hi;exact hi
 xU:=fun i B' H' x Ff hi s hb ⟨e,y⟩=>by
  subst e;subst y;rw[ka]at hi;refine⟨au.refl _,.int (lo+i),?_,.int _⟩;unfold wt;rw[aJ,List.getElem?_range hi]
  rfl
 stop:=fun B' H' s=>by rw[ka];exact aA _
def rD(l:Rs (List Tr)):Rs (List Tr):=l.bind fun ts=>match ts with
 |[.int j]=>if-4611686018427387904<=j/\j<4611686018427387904 then .ok (wt 0 j.toNat)else .bad
 |_=>.bad
theorem PI.weak {tg iter:Expr}{t t':TI}(h:PI X tg iter t)(w:∀σ H R,t' σ H R->t σ H R):PI X tg iter t':=fun pins s σ H R I q=>h pins s σ H R I (w σ H R q)
variable {L:av->Rs (List Tr)}{tg:Expr}{p:Pos}
theorem CQ(hm:X.mg "range"=none)(ha:PA X [a] (zi X L))(hg:Gl X "range":=by rfl) (hs:bq [a]=true:=by rfl):PI X tg (.Call (.Name "range" p) [a] [] pos) (tI X fun ρ=>rD (L ρ)):=
 (AL hg hm ha (by rw[br _ _ (aO hs).1];rfl)).weak fun σ H R ⟨B,ρ,hb,r,q⟩=>⟨B,ρ,hb,r,q.bind.mono fun ts qt vs H1 s1 r1=>by
  split at qt
  ·rename_i j;cases r1 with
   |cons h1 r1=>
    cases h1;cases r1;split at qt
    ·rename_i hj;exact⟨j,rfl,by omega,by omega,qt _ H1 s1 (wu 0 _)⟩
    ·exact qt.elim
  ·exact qt.elim⟩
def EA{α:Type}(r:Rs α):Rs α:=match r with
 |.ok a=>.ok a
 |_=>.bad
def kb(ix:List (Option Nat))(ρ:av):av:=ix.map fun o=>match o with
 |none=>.no
 |some j=>match ρ[j]? with
  |some (.sh t)=>.sh t
  |_=>.no
theorem bb.comp {K:PySem.W.Frag}{B B':bP}{H H':Hp}{σ:St}{ρ:av}(ix:List (Option Nat))(h:bb K B H σ ρ)(s:cw (aQ B H) (aQ B' H')):bb K B' H' (fb ix σ) (kb ix ρ):=by
 have no:∀(i:Nat) (c:Cell),(kb ix ρ)[i]?=some c->c=.no\/∃j t,ix[i]?=some (some j)/\ρ[j]?=some (.sh t)/\c=.sh t:=fun i c e=>by
  unfold kb at e;rw[aJ]at e;cases q:ix[i]? with
  |none=>rw[q]at e;cases e
  |some o=>
   rw[q]at e;cases o with
   |none=>exact .inl (Option.some.inj e).symm
   |some j=>
    have e':(match ρ[j]? with|some (Cell.sh t)=>Cell.sh t|_=>Cell.no)=c:=Option.some.inj e;split at e'
    ·rename_i t q2;exact .inr ⟨j,t,rfl,q2,e'.symm⟩
    ·exact .inl e'.symm
 refine⟨by unfold kb fb;rw[aj,aj],fun i t e=>?_,fun i ts e=>?_,fun i j ts us D _ e=>?_⟩
 ·rcases no i _ e with q|⟨j,u,q1,q2,q3⟩
  ·cases q
  ·cases q3;obtain⟨v,e1,r1⟩:=h.sh j t q2;refine⟨v,?_,r1.same s⟩;unfold fb;rw[aJ,q1];show some ((σ[j]?).join)=_;rw[e1]
   rfl
 ·rcases no i _ e with q|⟨j,u,q1,q2,q3⟩
  ·cases q
  ·cases q3
 ·rcases no i _ e with q|⟨j,u,q1,q2,q3⟩
  ·cases q
  ·cases q3
def lE(T:j_)(A:av->Rs Bool)(F:av->Rs Tr):List Tr->av->Rs (List Tr)
 |[],_=>.ok []
 |t::ts,ρ=>(EA (T t ρ)).bind fun ρ1=>(EA (A ρ1)).bind fun k=>if k then(EA (F ρ1)).bind fun y=>(lE T A F ts ρ1).bind fun ys=>.ok (y::ys)else lE T A F ts ρ1
def gL(ix:List (Option Nat))(T:j_)(A:av->Rs Bool)(F:av->Rs Tr)(l:Rs (List Tr))(ρ:av):Rs Tr:=l.bind fun ts=>if ts.length<=iT then(lE T A F ts (kb ix ρ)).bind fun ys=>.ok (.lst ys)else .bad
def fg(B:bP)(D:Addr):bP:=⟨fun b=>B.hd b||b==D,B.ix⟩
theorem g_{B:bP}{D:Addr}{H:Hp}{o:HO}(hD:H D=none):cw (aQ B H) (aQ (fg B D) (upd H D o)):=⟨fun b u e=>by
 have e1:=aG b u e;have fA:b≠D:=aN e1 hD;have hB:B.hd b=false:=by
  cases q:B.hd b with
  |false=>rfl
  |true=>
   have e2:(if B.hd b=true then none else H b)=some u:=e;rw[q,ab rfl]at e2;cases e2
 rw[cK (show(B.hd b||b==D)=false by rw[hB,ef fA];rfl),ak fA];exact e1,fun _ _ e=>e⟩
theorem zm{B:bP}{D:Addr}{H:Hp}{o:HO}(h:HB B H)(hD:H D=none)(ho:∀vs,o≠ .tup vs:=by exact fun _ z=>by cases z):HB (fg B D) (upd H D o):=fun b e=>by
 by_cases q:b=D
 ·subst q;exact⟨o,aH,ho⟩
 ·have e':(B.hd b||b==D)=true:=e;rw[ef q,mB]at e';rw[ak q];exact h b e'
theorem t7{B:bP}{D:Addr}:(fg B D).hd D=true:=by show(B.hd D||D==D)=true;rw[bD,Bool.or_true]
theorem iV{B:bP}{D:Addr}{H:Hp}{o:HO}:aQ (fg B D) (upd H D o)=aQ (fg B D) H:=by
 unfold aQ;congr 1;funext b;by_cases q:b=D
 ·subst q;rw[ab t7,ab t7]
 ·rw[ak q]
theorem Fh{B:bP}{D:Addr}:oR B (fg B D):=⟨fun b e=>by show(B.hd b||b==D)=true;rw[e,jQ],fun _ _ e=>e⟩
theorem CT{B:bP}{D:Addr}{H:Hp}:cw (aQ (fg B D) H) (aQ B H):=rm Fh
def dj(ρ:av):Prop:=∀(i:Nat) (ts:List Tr),ρ[i]? ≠some (.ow ts)
def gk(T:j_):Prop:=∀t ρ eK,dj ρ->T t ρ=.ok eK->dj eK
theorem dj.set {ρ:av}(h:dj ρ)(i:Nat)(t:Tr):dj (ρ.set i (.sh t)):=fun j ts e=>by
 rcases gJ e with⟨_,_,q⟩|⟨_,q⟩
 ·cases q
 ·exact h j ts q
theorem c0(i:Nat):gk (gN i):=fun t ρ eK h e=>by cases e;exact h.set i t
theorem zo:∀{is:List Nat} {ts:List Tr} {ρ eK:av},dj ρ->yg is ts ρ=.ok eK->dj eK
 |[],[],_,_,h,e=>by cases e;exact h
 |[],_::_,_,_,_,e=>by cases e
 |_::_,[],_,_,_,e=>by cases e
 |i::is,t::ts,_,_,h,e=>zo (is:=is) (ts:=ts) (h.set i t) e
theorem CU(is:List Nat):gk (gT is):=fun t ρ eK h e=>by
 cases t with
 |tup ts=>exact zo h e
 |_=>cases e
theorem mR(ix:List (Option Nat))(ρ:av):dj (kb ix ρ):=fun i ts e=>by
 unfold kb at e;rw[aJ]at e;cases q:ix[i]? with
 |none=>rw[q]at e;cases e
 |some o=>
  rw[q]at e;cases o with
  |none=>cases e
  |some j=>
   have e':(match ρ[j]? with|some (Cell.sh t)=>Cell.sh t|_=>Cell.no)=.ow ts:=Option.some.inj e;split at e'<;>cases e'
theorem lO.eq {α:Type}{xc:Tr->Prop}{r:Rs α}{k:α->Prop}(h:lO xc r k):lO xc r fun a=>r=.ok a/\k a:=by
 cases r with
 |ok a=>exact⟨rfl,h⟩
 |_=>exact h
theorem yi{α:Type}{xc:Tr->Prop}{r:Rs α}{k:α->Prop}(h:lO xc (EA r) k):∃a,r=.ok a/\k a:=by
 cases r with
 |ok a=>exact⟨a,rfl,h⟩
 |_=>exact h.elim
inductive Fj(K:PySem.W.Frag)(F:av->Rs Tr)(σ:St)(H:Hp)(Q:VK):Prop
 |mk (B:bP) (ρ:av):HB B H->bb K B H σ ρ->(∃t,F ρ=.ok t/\∀v H',au H H'->Rep K (aQ B H') v t->Q v H')->Fj K F σ H Q
inductive Fl(K:PySem.W.Frag)(F:av->Rs Bool)(σ:St)(H:Hp)(Q:Bool->Hp->Prop):Prop
 |mk (B:bP) (ρ:av):HB B H->bb K B H σ ρ->(∃b,F ρ=.ok b/\∀H',au H H'->Q b H')->Fl K F σ H Q
inductive Fm(K:PySem.W.Frag)(T:j_)(v:V)(σ:St)(H:Hp)(Q:St->Hp->Prop):Prop
 |mk (B:bP) (ρ:av) (t:Tr):HB B H->bb K B H σ ρ->Rep K (aQ B H) v t->(∃eK,T t ρ=.ok eK/\∀bK H',au H H'->bb K B H' bK eK->Q bK H')->Fm K T v σ H Q
theorem Je{X:Cx}{F:av->Rs Tr}{σ:St}{H:Hp}{Q:VK}:Fj X.K F σ H Q->tP X F σ H Q:=fun⟨B,ρ,hb,r,t,e,q⟩=>⟨B,ρ,hb,r,by rw[e];exact q⟩
theorem Jf{X:Cx}{F:av->Rs Bool}{σ:St}{H:Hp}{Q:Bool->Hp->Prop}:Fl X.K F σ H Q->tQ X F σ H Q:=fun⟨B,ρ,hb,r,t,e,q⟩=>⟨B,ρ,hb,r,by rw[e];exact q⟩
theorem Jg{X:Cx}{T:j_}{v:V}{σ:St}{H:Hp}{Q:St->Hp->Prop}:Fm X.K T v σ H Q->tG X T v σ H Q:=fun⟨B,ρ,t,hb,r,rt,eK,e,q⟩=>⟨B,ρ,t,hb,r,rt,by rw[e];exact q⟩
theorem mS{K:PySem.W.Frag}{J:It}{D:Addr}{B:bP}{H:Hp}{Pb:St}{Ph:av}{ts:List Tr}{T:j_}{A:av->Rs Bool}{F:av->Rs Tr}{Q:Hp->Prop}(hT:gk T)(h0:dj Ph)(hb:HB B H)(gt:js K B J H ts)(hz:ts.length<=iT)(r:bb K (fg B D) (upd H D (.lst [])) Pb Ph)(hD:H D=none)
  {xc:Tr->Prop} {k:List Tr->Prop} (q:lO xc (lE T A F ts Ph) k) (hQ:∀ys H',k ys->au H H'->Rep K (aQ B H') (.ref D) (.lst ys)->Q H'):Rb J D Pb (upd H D (.lst [])) (Fm K T) (Fl K A) (Fj K F) Q:=by
 refine⟨fun i m σ H'=>m=ts.length - i/\i<=ts.length/\au H H'/\HB (fg B D) H'/\cw (aQ B H) (aQ (fg B D) H')/\∃ρ vs us,dj ρ/\bb K (fg B D) H' σ ρ/\H' D=some (.lst vs)/\vs.length<=i/\aL K (aQ (fg B D) H') vs us/\lO xc (lE T A F (ts.drop i) ρ) (fun ys=>k (us++ys)),
  ⟨_,rfl,bG _,au.upd hD,zm hb hD,g_ hD,Ph,[],[],h0,r,aH,aA _,.nil,q⟩,?_⟩
 rintro i m σ H' ⟨rfl,hi,sm,jC,fH,ρ,vs,us,no,rs,hd,hl,rv,q'⟩
 by_cases fc:i<ts.length
 ·rw[lS fc]at q';refine .inr ⟨gt.go i _ H' fc fH jC,fun pL H2=>au H H2/\HB (fg B D) H2/\cw (aQ B H) (aQ (fg B D) H2)/\∃ρ vs us,dj ρ/\bb K (fg B D) H2 pL ρ/\H2 D=some (.lst vs)/\vs.length<=i+1/\aL K (aQ (fg B D) H2) vs us/\lO xc (lE T A F (ts.drop (i+1)) ρ) (fun ys=>k (us++ys)),
   fun pL H2 h=>⟨ts.length - (i+1),by omega,rfl,fc,h⟩,fun x H2 hx=>?_⟩
  obtain⟨s2,t,et,rt⟩:=gt.xU i _ H' x H2 fc fH jC hx;have Jh:ts[i]=t:=by rw[aI fc]at et;exact Option.some.inj et
  rw[Jh]at q';obtain⟨ρ1,eT,q1⟩:=yi (lO.bind q');have Rm:=hT t ρ ρ1 no eT;refine⟨_,ρ,t,jC.same s2,rs.same s2,rt,ρ1,eT,fun xQ H3 s3 r3=>?_⟩;have TC:=s2.trans s3;obtain⟨c,eA,qc⟩:=yi (lO.bind q1);refine⟨_,ρ1,jC.same TC,r3,c,eA,fun H4 s4=>?_⟩;have Ji:=TC.trans s4;have g4:au H H4:=sm.trans Ji;cases c with
  |false=>
   exact IM ⟨g4,jC.same Ji,fH.trans (ba Ji),ρ1,vs,us,Rm,r3.same s4,Ji _ _ hd,by omega,rv.same (ba Ji),qc⟩
  |true=>
   obtain⟨y,eF,qy⟩:=yi (lO.bind qc);refine IP ⟨_,ρ1,jC.same Ji,r3.same s4,y,eF,fun v H5 s5 r5=>?_⟩;have MO:=Ji.trans s5;refine⟨vs,MO _ _ hd,by rw[<-ip];omega,(sm.trans MO).IW hD,?_,?_,ρ1,vs++[v],us++[y],Rm,?_,aH,by rw[bc];exact Nat.add_le_add_right hl 1,?_,?_⟩
   ·intro b e;by_cases q:b=D
    ·subst q;exact⟨_,aH,fun _ z=>by cases z⟩
    ·rw[ak q];exact(jC.same MO) b e
   ·rw[iV];exact fH.trans (ba MO)
   ·have Rn:=(r3.same s4).same s5;refine⟨Rn.len,fun i t e=>?_,fun i ts e=>(Rm i ts e).elim,Rn.ap⟩;rw[iV];exact Rn.sh i t e
   ·rw[iV];exact(rv.same (ba MO)).append (.cons r5 .nil)
   ·exact(lO.bind qy).mono fun ys q=>by rw[ib];exact q
 ·have e:i=ts.length:=by omega
  subst e;rw[jI]at q';refine .inl ⟨gt.stop _ H' fH,hQ us H' (by have:=(show k (us++[])from q');rw[cU]at this;exact this) sm (.lst ?_ (rv.same CT))⟩;rw[cK (hb.free hD)];exact hd
variable {scope:Scope}{N':List Str}{ix:List (Option Nat)}{elt iter:Expr}{ifs:List Expr}{T:j_}{W:av->Rs (List Tr)}
theorem MP{X:Cx}:PF X [] (tQ X fun _=>.ok true):=fun pins s σ H Q I ⟨B,ρ,hb,r,q⟩=>CK pins s σ H Q I (q H (au.refl H))
theorem MQ{X:Cx}{c:Expr}{A:av->Rs Bool}(h:PT X c (tQ X A)):PF X [c] (tQ X A):=IS h
theorem wx{σ:St}{H:Hp}{Q:VK}(hT:gk T)(q:tP X (fun ρ=>gL ix T A F (W ρ) ρ) σ H Q):IT (tI X W) ix (Fm X.K T) (Fl X.K A) (Fj X.K F) σ H Q:=by
 obtain⟨B,ρ,hb,r,q⟩:=q;refine⟨B,ρ,hb,r,q.bind.mono fun ts qt J H1 s1 gt D hD=>?_⟩;by_cases hz:ts.length<=iT
 ·rw[ab hz]at qt;exact mS hT (mR ix ρ) (hb.same s1) gt hz ((r.same s1).comp ix (g_ hD)) hD (Fi.bind qt) fun ys H' k s' rp=>k _ H' (s1.trans s') rp
 ·rw[ae hz]at qt;exact qt.elim
structure G0(X:Cx)(scope:Scope)(N':List Str)(tg elt:Expr)(ifs:List Expr)(T:j_)(A:av->Rs Bool)(F:av->Rs Tr):Prop where
 all:∀s H ex,PG (lN X scope N' s H ex) tg (tG (lN X scope N' s H ex) T)/\PF (lN X scope N' s H ex) ifs (tQ (lN X scope N' s H ex) A)/\PE (lN X scope N' s H ex) elt (tP (lN X scope N' s H ex) F)
theorem G0.K9 {X:Cx}{scope:Scope}{N':List Str}{tg elt:Expr}{ifs:List Expr}{T:j_}{A:av->Rs Bool}{F:av->Rs Tr}(h:G0 X scope N' tg elt ifs T A F):∀s H ex,PG (lN X scope N' s H ex) tg (Fm X.K T)/\PF (lN X scope N' s H ex) ifs (Fl X.K A)/\PE (lN X scope N' s H ex) elt (Fj X.K F):=fun s H ex=>by
 obtain⟨h1,h2,h3⟩:=h.all s H ex;exact⟨fun pins s σ H v u Q I r q=>h1 pins s σ H v u Q I r (Jg q),fun pins s σ H Q I q=>h2 pins s σ H Q I (Jf q),fun pins s σ H Q I q=>h3 pins s σ H Q I (Je q)⟩
theorem Ro(Lk:e_ X N' ix scope)(hi:PI X tg iter (tI X W))(j5:G0 X scope N' tg elt ifs T A F)(hT:gk T)(hc:X.calm=true:=by rfl) (hs:isSet iter=false:=by rfl):
  PE X (.ListComp elt [⟨tg,iter,ifs,0⟩] scope pos) (tP X fun ρ=>gL ix T A F (W ρ) ρ):=
 (CL Lk hc hi j5.K9 (cL hs)).weak fun σ H Q q=>wx hT q
def fF(r:Rs Out):Rs Tr:=r.bind fun o=>match o with
 |.nx _=>.ok .cq
 |.ret t=>.ok t
 |_=>.bad
theorem sS.Ve {P:Program}{w:World}{K:PySem.W.Frag}{mg:Str->Option Value}{base:Heap}{x qual:Str}{st:Stmt}{f:Addr}{fd:FuncData}{N ps:List Str}{k:Nat}{h:List Tr->Rs Tr}(Fn:sS K x qual st f fd)(S:dR N ps (aF st))(len:∀ts t,h ts=.ok t->ts.length=ps.length)
  (g7:∀(cX:Value) (A:Around) (outer:List Env) (s:Shared) (H:Hp) (E:XK),dA k (A.deeper (envOfC qual (aF st) s.heap.objs.size f cX))->
   ∃G,jW (jz lz P w K mg base N qual (aF st) f cX A outer s H E).B5 (cY st) (tS (jz lz P w K mg base N qual (aF st) f cX A outer s H E).B5 G)/\∀ts t,h ts=.ok t->fF (G (startT N.length ts))=.ok t):f6 P w K mg base lz (k+1) f fd ps (spT K h):=by
 refine Fn.ok S (fun vs H Q E q=>?_) (fun cX A outer s H vs Q E hr q=>?_)
 ·obtain⟨B,ts,hb,r,t,e,_⟩:=q;rw[r.length];exact len ts t e
 ·obtain⟨B,ts,hb,r,t,e,q⟩:=q;obtain⟨G,hG,hE⟩:=g7 cX A outer s H E hr;refine⟨_,hG,B,B,H,B,startT N.length ts,cP.refl hb oR.refl,bb.start r,?_⟩;have e1:=hE ts t e;cases eo:G (startT N.length ts)with
  |ok o=>
   rw[eo]at e1;cases o with
   |nx ρ=>cases e1;exact fun bK B' H' si r'=>q .cq H' si.same .cq
   |ret u=>cases e1;exact fun v B' H' si r'=>q v H' si.same r'
   |_=>cases e1
  |_=>rw[eo]at e1;cases e1
end
end L2
namespace L2
open PySem PySem.Spec PyProof.Rows
section
variable {X:Cx}
theorem Fo:oP X (binaryOp .Add) (fun x y H Q=>∃(a b:Addr) (xs ys:List V),x=.ref a/\y=.ref b/\hZ X.K H a xs/\hZ X.K H b ys/\xs.length+ys.length<=sizeLine/\(xs=[]->Q (.ref b) H)/\(ys=[]->Q (.ref a) H)/\∀p,H p=none->Q (.ref p) (upd H p (.tup (xs++ys)))):=by
 intro pins s σ H x y v u Q I rx ry h;obtain⟨a,b,xs,ys,rfl,rfl,ha,hb,hz,q1,q2,q3⟩:=h;by_cases hx:xs=[]
 ·subst hx;cases(show v=Value.ref a from rx);cases(show u=Value.ref b from ry);obtain⟨i1,r1,p1,_⟩:=I.tuple ha;obtain⟨i2,r2,p2,_⟩:=I.tuple hb;cases r1;obtain⟨dd,n,sl,h1⟩:=nW p1;obtain⟨Ey,n2,GQ,h2⟩:=nW p2;exact concat_meets ⟨_,h1,rfl⟩ ⟨_,h2,rfl⟩ noFill_tuple_add seq_tuple_add qf qe (qd _ _) (tuple_addW0 a b _ _ n n2 dd Ey sl GQ rfl) ⟨h1,h2,⟨.ref b,H,I,rfl,q1 rfl⟩⟩
 ·exact ET pins s σ H _ _ v u Q I rx ry ⟨a,b,xs,ys,rfl,rfl,ha,hb,hx,hz,q2,fun _ p hp=>q3 p hp⟩
theorem Rep.up {K:PySem.W.Frag}{B:bP}{H:Hp}{v:V}{t:Tr}(r:Rep K (aQ B H) v t):Rep K (raw B H) v t:=r.same pO
theorem hZ.up {K:PySem.W.Frag}{B:bP}{H:Hp}{a:Addr}{xs:List V}(h:hZ K (aQ B H) a xs):hZ K H a xs:=au.tup aG h
theorem gm{B:bP}{H:Hp}{a:Addr}{o:HO}(h:aQ B H a=some o):H a=some o:=aG _ _ h
theorem Rep.Jj {K:PySem.W.Frag}{B:bP}{H:Hp}{p:Addr}{vs:List V}{ts:List Tr}(hb:HB B H)(hp:H p=none)(r:aL K (aQ B H) vs ts):Rep K (aQ B (upd H p (.tup vs))) (.ref p) (.tup ts):=.tup (hb.new hp) (r.same (ba (au.upd hp)))
theorem Rep.wy {K:PySem.W.Frag}{B:bP}{H:Hp}{p:Addr}{vs:List V}{ts:List Tr}(hb:HB B H)(hp:H p=none)(r:aL K (aQ B H) vs ts):Rep K (aQ B (upd H p (.lst vs))) (.ref p) (.lst ts):=.lst (hb.new hp) (r.same (ba (au.upd hp)))
theorem wz{K:PySem.W.Frag}{H:Vw}{ts:List Tr}(h:aL K H [] ts):ts=[]:=by cases h;rfl
theorem Jk{a b:Str}(h:a.length+b.length<=iR):(a++b).length<=iR:=by rw[PySem.Str.length_append];exact h
def hJ:Tr->Tr->Rs Tr
 |.int i,.int j=>.ok (.int (i+j))
 |.str a,.str b=>if a.length+b.length<=iR then .ok (.str (a++b))else .bad
 |.tup a,.tup b=>if a.length+b.length<=iT then .ok (.tup (a++b))else .bad
 |.lst a,.lst b=>if a.length+b.length<=iT then .ok (.lst (a++b))else .bad
 |_,_=>.bad
theorem fh{α:Type}{H:Hp}{c:Prop}[Decidable c]{t:α}{k:α->Prop}(h:Fi X H (if c then Rs.ok t else .bad) k):c/\k t:=by
 by_cases hc:c
 ·rw[ab hc]at h;exact⟨hc,h⟩
 ·rw[ae hc]at h;exact h.elim
theorem mT:tX X (binaryOp .Add) hJ:=by
 intro pins s σ H x y v u Q I rx ry ⟨B,tx,ty,hb,r1,r2,q⟩;unfold hJ at q;split at q
 ·exact Ii pins s σ H _ _ v u Q I rx ry ⟨_,_,r1.int_inv,r2.int_inv,q _ H (au.refl H) (.int _)⟩
 ·have f:=fh q;exact xZ pins s σ H _ _ v u Q I rx ry ⟨_,_,r1.str_inv.1,r2.str_inv.1,bp f.1 pP,f.2 _ H (au.refl H) (.str _ (Jk f.1))⟩
 ·have f:=fh q;obtain⟨a,as,e1,h1,Fp⟩:=r1.cZ;obtain⟨b,bs,e2,h2,K_⟩:=r2.cZ;exact Fo pins s σ H _ _ v u Q I rx ry ⟨_,_,_,_,e1,e2,h1.up,h2.up,by rw[Fp.length,K_.length,<-ip];exact f.1,fun e=>f.2 _ H (au.refl H) (by subst e;rw[wz Fp,<-e2];exact r2),fun e=>f.2 _ H (au.refl H) (by subst e;rw[wz K_,cU,<-e1];exact r1),fun p hp=>f.2 _ _ (au.upd hp) (.Jj hb hp (Fp.append K_))⟩
 ·have f:=fh q;obtain⟨a,as,e1,h1,Fp⟩:=r1.lst_inv;obtain⟨b,bs,e2,h2,K_⟩:=r2.lst_inv;exact ID pins s σ H _ _ v u Q I rx ry ⟨_,_,_,_,e1,e2,gm h1,gm h2,by rw[Fp.length,K_.length,<-ip];exact f.1,fun p hp=>f.2 _ _ (au.upd hp) (.wy hb hp (Fp.append K_))⟩
 ·exact(show False from q).elim
def sT:Tr->Tr->Rs Tr
 |.int i,.int j=>if 0<j then .ok (.int (i % j))else .bad
 |_,_=>.bad
theorem CV:tX X (binaryOp .Mod) sT:=by
 intro pins s σ H x y v u Q I rx ry ⟨B,tx,ty,hb,r1,r2,q⟩;unfold sT at q;split at q
 ·have f:=fh q;exact Ik pins s σ H _ _ v u Q I rx ry ⟨_,_,r1.int_inv,r2.int_inv,f.1,f.2 _ H (au.refl H) (.int _)⟩
 ·exact(show False from q).elim
def rE(i j:Int):Prop:=(-18446744073709551616<i/\i<18446744073709551616)\/(-18446744073709551616<j/\j<18446744073709551616)
theorem rE.cm {i j:Int}(h:rE i j):Cs i j:=by
 unfold rE at h;unfold Cs;omega
instance (i j:Int):Decidable (rE i j):=by unfold rE;infer_instance
def kc:Tr->Tr->Rs Tr
 |.int i,.int j=>if rE i j then .ok (.int (i*j))else .bad
 |.str z,.int n=>if 0<=n/\n<=1000/\z.length<=1000 then .ok (.str (Txt.mul z n))else .bad
 |.lst ts,.int n=>if 0<=n/\n<=1000/\ts.length*n.toNat<=iT then .ok (.lst (List.replicate n.toNat ts).flatten)else .bad
 |_,_=>.bad
theorem Fq:oP X (binaryOp .Mult) (fun x y H Q=>∃(l:Addr) (k:Int) (xs:List V),x=.ref l/\y=.int k/\H l=some (.lst xs)/\-(2 ^63)<=k/\k<2 ^63/\xs.length*k.toNat<=sizeLine/\∀p,H p=none->Q (.ref p) (upd H p (.lst (List.replicate k.toNat xs).flatten))):=IE
theorem Fs{z:Str}{n:Int}(h0:0<=n)(h1:n<=1000)(hz:z.length<=1000):(Txt.mul z n).length<=iR:=by
 have e:=PyProof.Rows.len_mul z n;split at e
 ·have:((Txt.mul z n).length:Int)=0:=e;unfold iR;omega
 ·have h2:(z.length:Int)*n<=1000*1000:=Int.mul_le_mul (by omega) h1 h0 (by decide);have e':((Txt.mul z n).length:Int)=(z.length:Int)*n:=e;unfold iR;omega
theorem wA:tX X (binaryOp .Mult) kc:=by
 intro pins s σ H x y v u Q I rx ry ⟨B,tx,ty,hb,r1,r2,q⟩;unfold kc at q;split at q
 ·have f:=fh q;exact Ij pins s σ H _ _ v u Q I rx ry ⟨_,_,r1.int_inv,r2.int_inv,f.1.cm,f.2 _ H (au.refl H) (.int _)⟩
 ·have f:=fh q;exact E8 pins s σ H _ _ v u Q I rx ry ⟨_,_,r1.str_inv.1,r2.int_inv,PyProof.Rows.mulOk_of 1000 1000 f.1.2.2 f.1.2.1 (Int.le_trans (by decide) f.1.1) (by decide) (by decide),f.2 _ H (au.refl H) (.str _ (Fs f.1.1 f.1.2.1 f.1.2.2))⟩
 ·have f:=fh q;obtain⟨a,as,e1,h1,Fp⟩:=r1.lst_inv;exact Fq pins s σ H _ _ v u Q I rx ry ⟨_,_,_,e1,r2.int_inv,gm h1,Int.le_trans (by decide) f.1.1,Int.lt_of_le_of_lt f.1.2.1 (by decide),by rw[Fp.length,<-ip];exact f.1.2.2,fun p hp=>f.2 _ _ (au.upd hp) (.wy hb hp (Fp.rep _))⟩
 ·exact(show False from q).elim
end
end L2
namespace L2
open PySem PySem.Spec PyProof.Rows
mutual
def eqT:Tr->Tr->Bool
 |.cq,.cq=>true
 |.bl a,.bl b=>a==b
 |.bl a,.int b=>(if a then 1 else 0)==b
 |.int a,.bl b=>a==(if b then 1 else 0)
 |.int a,.int b=>a==b
 |.str a,.str b=>a==b
 |.tup a,.tup b=>uT a b
 |.lst a,.lst b=>uT a b
 |_,_=>false
def uT:List Tr->List Tr->Bool
 |[],[]=>true
 |x::xs,y::ys=>eqT x y&&uT xs ys
 |_,_=>false
end
mutual
def rG:Tr->Bool
 |.cq=>true
 |.bl _=>true
 |.int _=>true
 |.str _=>true
 |.tup ts=>nX ts
 |.lst ts=>nX ts
 |_=>false
def nX:List Tr->Bool
 |[]=>true
 |t::ts=>rG t&&nX ts
end
mutual
def dT:Tr->Nat
 |.tup ts=>Ft ts+1
 |.lst ts=>Ft ts+1
 |_=>0
def Ft:List Tr->Nat
 |[]=>0
 |t::ts=>max (dT t) (Ft ts)
end
theorem ke:∀{ts:List Tr},nX ts=true->∀t∈ts,rG t=true
 |[],_,t,h=>nomatch h
 |u::us,h,t,m=>by
  rw[nX,aM]at h;rcases aR.mp m with rfl|m
  ·exact h.1
  ·exact ke h.2 t m
theorem uU:∀{ts:List Tr},∀t∈ts,dT t<=Ft ts
 |[],t,h=>nomatch h
 |u::us,t,m=>by
  rw[Ft];rcases aR.mp m with rfl|m
  ·exact Nat.le_max_left _ _
  ·exact bp (uU t m) (Nat.le_max_right _ _)
theorem wB:∀(xs ys:List Tr),((List.range (min xs.length ys.length)).all (fun j=>eqT (xs.getD j .cq) (ys.getD j .cq))&&xs.length==ys.length)=uT xs ys
 |[],[]=>rfl
 |[],y::ys=>rfl
 |x::xs,[]=>rfl
 |x::xs,y::ys=>by
  have ih:=wB xs ys;rw[uT,<-ih,a_,a_,Nat.succ_min_succ,List.range_succ_eq_map,eV,List.all_map,Bool.and_assoc];congr 1;have e1:(xs.length+1==ys.length+1)=(xs.length==ys.length):=by rw[Bool.eq_iff_iff,iL,iL];omega
  rw[e1]
  rfl
section
variable {A:Around}{s:Shared}
theorem Fu{v u:Value}{k:Bool}(hv:∀b t,v≠Value.float b t)(hs:v=u->k=true)(h:SeqAt.RcAt A s v u k):SeqAt.EqAt A s v u k:=fun prog w E Q hq=>by
 unfold eqBool;refine cV ?_
 refine fT (fun sU=>?_) (fun _=>?_)
 ·rw[hs (eq_of_beq sU)]at hq;exact aa (fX (af hq))
 ·cases v with
  |float b t=>exact absurd rfl (hv b t)
  |_=>exact aa (h prog w E _ (jK hq))
end
section
variable {X:Cx}{pins:List (Addr×Obj)}{σ:St}{H:Hp}{zp:Addr->Option Nat}{s:Shared}
theorem oS(I:Inv X pins σ H s){a:Addr}{vs ws:List V}(h1:hZ X.K H a vs)(h2:H a=some (.lst ws)):False:=by
 obtain⟨_,_,⟨o,e,c,_⟩,_⟩:=I.tuple h1;obtain⟨_,aY,n,_,e2⟩:=I.bQ a _ h2;rw[e]at e2;cases e2;exact absurd c (by show¬(Value.type "list"=.type "tuple");decide+kernel)
def vT:V->Tr
 |.cq=>.cq
 |.bl b=>.bl b
 |.int i=>.int i
 |.str z=>.str z
 |_=>.at 0
theorem kf{K:PySem.W.Frag}{W:Vw}{x:V}{t:Tr}(r:Rep K W x t)(p:rG t=true):(∃ts,t=.tup ts)\/(∃ts,t=.lst ts)\/t=vT x:=by
 cases r<;>first|(cases p;done)|exact .inr (.inr rfl)|exact .inl ⟨_,rfl⟩|exact .inr (.inl ⟨_,rfl⟩)
theorem mU{K:PySem.W.Frag}{W:Vw}{x:V}{t t':Tr}(e:t=vT x)(p:rG t=true)(p':rG t'=true)(r':Rep K W x t'):t=t':=by
 rcases kf r' p' with⟨ts,rfl⟩|⟨ts,rfl⟩|e'
 ·obtain⟨a,_,rfl,_⟩:=r'.cZ;rw[e]at p;cases p
 ·obtain⟨a,_,rfl,_⟩:=r'.lst_inv;rw[e]at p;cases p
 ·rw[e,e']
theorem Fv(I:Inv X pins σ H s):∀(n:Nat) {x:V} {t t':Tr},dT t<=n->rG t=true->rG t'=true->Rep X.K (⟨H,zp⟩:Vw) x t->Rep X.K (⟨H,zp⟩:Vw) x t'->t=t':=by
 intro n
 induction n with
 |zero=>
  intro x t t' hd p p' r r';rcases kf r p with⟨ts,rfl⟩|⟨ts,rfl⟩|e
  ·exact absurd hd (Nat.not_succ_le_zero _)
  ·exact absurd hd (Nat.not_succ_le_zero _)
  ·exact mU e p p' r'
 |succ n ih=>
  intro x t t' hd p p' r r';have go:∀{vs:List V} {ts rH:List Tr},Ft ts<=n->nX ts=true->nX rH=true->aL X.K (⟨H,zp⟩:Vw) vs ts->aL X.K (⟨H,zp⟩:Vw) vs rH->ts=rH:=by
   intro vs ts rH k1 k2 k3;have h1:=fun t m=>bp (uU (ts:=ts) t m) k1;have h2:=ke k2;have h3:=ke k3
   clear hd p p' r r' k1 k2 k3
   induction vs generalizing ts rH with
   |nil=>intro q q';cases q;cases q';rfl
   |cons v vs Vf=>
    intro(.cons qh qr) (.cons Vg Vh);rw[List.forall_mem_cons]at h1 h2 h3;rw[ih h1.1 h2.1 h3.1 qh Vg,Vf h1.2 h2.2 h3.2 qr Vh]
  rcases kf r p with⟨ts,rfl⟩|⟨ts,rfl⟩|e
  ·rcases kf r' p' with⟨rH,rfl⟩|⟨rH,rfl⟩|e
   ·obtain⟨a,vs,rfl,h,rr⟩:=r.cZ;obtain⟨_,Fw,e,h',wC⟩:=r'.cZ;cases e;cases I.kL h h';rw[go (Nat.le_of_succ_le_succ hd) p p' rr wC]
   ·obtain⟨a,vs,rfl,h,rr⟩:=r.cZ;obtain⟨_,Fw,e,h',wC⟩:=r'.lst_inv;cases e;exact(oS I h h').elim
   ·exact(mU e p' p r).symm
  ·rcases kf r' p' with⟨rH,rfl⟩|⟨rH,rfl⟩|e
   ·obtain⟨a,vs,rfl,h,rr⟩:=r.lst_inv;obtain⟨_,Fw,e,h',wC⟩:=r'.cZ;cases e;exact(oS I h' h).elim
   ·obtain⟨a,vs,rfl,h,rr⟩:=r.lst_inv;obtain⟨_,Fw,e,h',wC⟩:=r'.lst_inv;cases e;cases h.symm.trans h';rw[go (Nat.le_of_succ_le_succ hd) p p' rr wC]
   ·exact(mU e p' p r).symm
  ·exact mU e p p' r'
mutual
theorem wD:∀{t:Tr},rG t=true->eqT t t=true
 |.cq,_=>rfl
 |.bl b,_=>by rw[eqT];exact bD b
 |.int i,_=>by rw[eqT];exact bD i
 |.str z,_=>by rw[eqT];exact bD z
 |.tup ts,h=>by rw[eqT];rw[rG]at h;exact nY h
 |.lst ts,h=>by rw[eqT];rw[rG]at h;exact nY h
 |.ty _,h=>by cases h
 |.f7 _,h=>by cases h
 |.j6 _,h=>by cases h
 |.at _,h=>by cases h
 |.aE _,h=>by cases h
 |.ob _ _,h=>by cases h
 |.zh _,h=>by cases h
theorem nY:∀{ts:List Tr},nX ts=true->uT ts ts=true
 |[],_=>rfl
 |t::ts,h=>by
  rw[nX,aM]at h;rw[uT,wD h.1,nY h.2]
  rfl
end
theorem zq{α:Type}{l:List α}{j:Nat}{x d:α}(h:l[j]?=some x):l.getD j d=x:=by rw[bJ,h];rfl
inductive Sh(K:PySem.W.Frag)(G:Vw)(h:Heap):Tr->Value->Prop
 |cq:Sh K G h .cq .none
 |bl (b:Bool):Sh K G h (.bl b) (.bool b)
 |int (b:Int) (w:Tok):Sh K G h (.int b) (.int b w)
 |str (b:Str) (w:Tok):Sh K G h (.str b) (.str b w)
 |tup {a:Addr} {vs:List V} {ts:List Tr} {us:List Value} (q:h.IsTuple a us.toArray) (rr:aL K G vs ts) (rv:Vals vs us):Sh K G h (.tup ts) (.ref a)
 |lst {a:Addr} {vs:List V} {ts:List Tr} {us:List Value} (q:h.IsList a us.toArray) (rr:aL K G vs ts) (rv:Vals vs us):Sh K G h (.lst ts) (.ref a)
theorem uV(I:Inv X pins σ H s){x:V}{v:Value}{t:Tr}(p:rG t=true)(r:Rep X.K (⟨H,zp⟩:Vw) x t)(rx:RelV x v):Sh X.K ⟨H,zp⟩ s.heap t v:=by
 cases r with
 |cq=>cases(show v=Value.none from rx);exact .cq
 |bl b=>cases(show v=Value.bool b from rx);exact .bl b
 |int b=>obtain⟨w,rfl⟩:=(show∃t,v=Value.int b t from rx);exact .int b w
 |str b _=>obtain⟨w,rfl⟩:=(show∃t,v=Value.str b t from rx);exact .str b w
 |@tup a _ _ h rr=>cases(show v=Value.ref a from rx);obtain⟨_,rv,q,_⟩:=I.tuple (Rk h);exact .tup q rr rv
 |@lst a _ _ h rr=>cases(show v=Value.ref a from rx);obtain⟨_,rv,q,_⟩:=I.list (.of h);exact .lst q.isList rr rv
 |_=>cases p
theorem Fx(I:Inv X pins σ H s)(n:Nat){A:Around}{x y:V}{v u:Value}{t t':Tr}(hd:dT t<=n)(p:rG t=true)(p':rG t'=true)(r:Rep X.K (⟨H,zp⟩:Vw) x t)(r':Rep X.K (⟨H,zp⟩:Vw) y t')(rx:RelV x v)(ry:RelV y u)(q:SeqAt.RcAt A s v u (eqT t t')):SeqAt.EqAt A s v u (eqT t t'):=by
 refine Fu (fun b t e=>?_) (fun e=>?_) q
 ·subst e;cases r<;>first|(obtain⟨_,z⟩:=rx;cases z;done)|(cases rx;done)
 subst e;rw[rx.inj ry]at r;rw[<-Fv I n hd p p' r r'];exact wD p
theorem zr{K:PySem.W.Frag}{G:Vw}{A:Around}{v u:Value}{t t':Tr}(S:Sh K G s.heap t v)(S':Sh K G s.heap t' u)(hu:A.units<cLine):(SeqAt.RcAt A s v u (eqT t t')/\SeqAt.RcNeAt A s v u (!eqT t t'))\/∃ts rH,(t=.tup ts/\t'=.tup rH)\/(t=.lst ts/\t'=.lst rH):=by
 cases S<;>cases S'<;>first|exact .inr ⟨_,_,.inl ⟨rfl,rfl⟩⟩|exact .inr ⟨_,_,.inr ⟨rfl,rfl⟩⟩|(refine .inl ⟨?_,?_⟩<;>simp only[eqT,qX,iG]<;>with_reducible first|exact .none_none|exact .none_bool _|exact .none_int _ _|exact .none_str _ _|exact .none_tuple ‹_› hu|exact .none_list ‹_› hu|exact .bool_none _|exact .bool_bool _ _|exact .bool_int _ _ _|exact .bool_str _ _ _|exact .bool_tuple _ ‹_› hu|exact .bool_list _ ‹_› hu|exact .int_none _ _|exact .int_bool _ _ _|exact .int_int _ _ _ _|exact .int_str _ _ _ _|exact .int_tuple _ _ ‹_› hu|exact .int_list _ _ ‹_› hu|exact .str_none _ _|exact .str_bool _ _ _|exact .str_int _ _ _ _|exact .str_str _ _ _ _|exact .str_tuple _ _ ‹_› hu|exact .str_list _ _ ‹_› hu|exact .tuple_none ‹_› hu|exact .tuple_bool _ ‹_› hu|exact .tuple_int _ _ ‹_› hu|exact .tuple_str _ _ ‹_› hu|exact .tuple_list ‹_› ‹_› hu|exact .list_none ‹_› hu|exact .list_bool _ ‹_› hu|exact .list_int _ _ ‹_› hu|exact .list_str _ _ ‹_› hu|exact .list_tuple ‹_› ‹_› hu)
theorem MR(I:Inv X pins σ H s):∀(n:Nat) {A:Around} {x y:V} {v u:Value} {t t':Tr},dT t<=n->rG t=true->rG t'=true->Rep X.K (⟨H,zp⟩:Vw) x t->Rep X.K (⟨H,zp⟩:Vw) y t'->RelV x v->RelV y u->A.units+n<cLine->SeqAt.RcAt A s v u (eqT t t')/\SeqAt.RcNeAt A s v u (!eqT t t'):=by
 intro n
 induction n with
 |zero=>
  intro A x y v u t t' hd p p' r r' rx ry hu;rcases zr (uV I p r rx) (uV I p' r' ry) (A:=A) (by omega)with h|⟨_,_,⟨rfl,_⟩|⟨rfl,_⟩⟩
  ·exact h
  all_goals exact absurd hd (by rw[dT];omega)
 |succ n ih=>
  intro A x y v u t t' hd p p' r r' rx ry hu;have hv:A.units<cLine:=by omega
  have items:∀{vs Fw:List V} {us nZ:List Value} {ts rH:List Tr},Ft ts<=n->nX ts=true->nX rH=true->aL X.K (⟨H,zp⟩:Vw) vs ts->aL X.K (⟨H,zp⟩:Vw) Fw rH->Vals vs us->Vals Fw nZ->∀(j:Nat) (h1:j<us.toArray.size) (h2:j<nZ.toArray.size),
    SeqAt.EqAt A.in1 s us.toArray[j] nZ.toArray[j] (eqT (ts.getD j .cq) (rH.getD j .cq)):=by
   intro vs Fw us nZ ts rH d1 q1 q2 rr wC rv EB j h1 h2;replace h1:j<us.length:=h1;replace h2:j<nZ.length:=h2;have k1:=aI (Nat.lt_of_lt_of_eq h1 rv.length.symm);have k2:=aI (Nat.lt_of_lt_of_eq h2 EB.length.symm);obtain⟨t1,e1,p1⟩:=rr.ye k1;obtain⟨t2,e2,p2⟩:=wC.ye k2;obtain⟨w1,f1,g1⟩:=rv.get k1;obtain⟨w2,f2,g2⟩:=EB.get k2;rw[aI h1]at f1;rw[aI h2]at f2;rw[List.getElem_toArray,List.getElem_toArray,Option.some.inj f1,Option.some.inj f2,zq e1,zq e2];have m1:=bM e1;have q2:=ke q2 _ (bM e2);have q1:=ke q1 _ m1;have d:=bp (uU _ m1) d1;exact Fx I n d q1 q2 p1 p2 g1 g2 (ih d q1 q2 p1 p2 g1 g2 (by show A.units+1+n<cLine;omega)).1
  have S:=uV I p r rx;have S':=uV I p' r' ry;rcases zr S S' hv with h|⟨ts,rH,⟨rfl,rfl⟩|⟨rfl,rfl⟩⟩
  ·exact h
  all_goals
   rw[dT]at hd;have it:=fun{vs Fw us nZ}=>@items vs Fw us nZ _ _ (Nat.le_of_add_le_add_right hd) p p';have e:=wB ts rH;rw[eqT]
  ·cases S with|tup q rr rv=>
   cases S' with|tup q' wC EB=>
   rw[<-e,<-rr.length,<-wC.length,rv.length,EB.length];exact⟨.tuples q q' hv (it rr wC rv EB),.tuples q q' hv (it rr wC rv EB)⟩
  cases S with|lst q rr rv=>
  cases S' with|lst q' wC EB=>
  have l:=rr.length;have l':=wC.length;rw[rv.length]at l;rw[EB.length]at l';by_cases hz:ts.length=rH.length
  ·rw[hz,Nat.min_self,bD,Bool.and_true,<-hz,<-l]at e;rw[<-e];exact⟨.lists q q' (by simp;omega) hv (it rr wC rv EB),.lists q q' (by simp;omega) hv (it rr wC rv EB)⟩
  ·rw[ef hz,mw]at e;rw[<-e];exact⟨.lists_lengths q q' (by simp;omega) hv,.lists_lengths q q' (by simp;omega) hv⟩
end
section
variable {X:Cx}
def nN(a b:Tr):Rs Tr:=if rG a=true/\rG b=true/\dT a<=40 then .ok (.bl (eqT a b))else .bad
theorem uW(hu:X.A.units+40<cLine):tX X (compareOp .Eq) nN:=by
 intro pins s σ H x y v u Q I rx ry ⟨B,tx,ty,hb,r1,r2,q⟩;obtain⟨⟨p1,p2,hd⟩,k⟩:=fh q;exact(MR I 40 hd p1 p2 r1.up r2.up rx ry hu).1 _ _ _ _ ⟨.bl _,H,I,rfl,k _ H (au.refl H) (.bl _)⟩
end
end L2
namespace L2
open PySem PySem.Spec PyProof.Rows
section
variable {X:Cx}
def yX(a b:Tr):Rs Tr:=if rG a=true/\rG b=true/\dT a<=40 then .ok (.bl (!eqT a b))else .bad
theorem MS(hu:X.A.units+40<cLine):tX X (compareOp .NotEq) yX:=by
 intro pins s σ H x y v u Q I rx ry ⟨B,tx,ty,hb,r1,r2,q⟩;obtain⟨⟨p1,p2,hd⟩,k⟩:=fh q;exact(MR I 40 hd p1 p2 r1.up r2.up rx ry hu).2 _ _ _ _ ⟨.bl _,H,I,rfl,k _ H (au.refl H) (.bl _)⟩
def TF:Tr->Tr->Rs Tr
 |.int i,.int j=>.ok (.bl (decide (i<j)))
 |.str a,.str b=>.ok (.bl (decide (a.cps.toList<b.cps.toList)))
 |_,_=>.bad
def Jl:Tr->Tr->Rs Tr
 |.int i,.int j=>.ok (.bl (decide (j<i)))
 |_,_=>.bad
theorem Rp:tX X (compareOp .Lt) TF:=by
 intro pins s σ H x y v u Q I rx ry ⟨B,tx,ty,hb,r1,r2,q⟩;unfold TF at q;split at q
 ·exact LQ pins s σ H _ _ v u Q I rx ry ⟨_,_,r1.int_inv,r2.int_inv,q _ H (au.refl H) (.bl _)⟩
 ·exact AN pins s σ H _ _ v u Q I rx ry ⟨_,_,r1.str_inv.1,r2.str_inv.1,q _ H (au.refl H) (.bl _)⟩
 ·exact(show False from q).elim
theorem MT:tX X (compareOp .Gt) Jl:=by
 intro pins s σ H x y v u Q I rx ry ⟨B,tx,ty,hb,r1,r2,q⟩;unfold Jl at q;split at q
 ·exact LR pins s σ H _ _ v u Q I rx ry ⟨_,_,r1.int_inv,r2.int_inv,q _ H (au.refl H) (.bl _)⟩
 ·exact(show False from q).elim
def TH:Tr->Bool
 |.cq=>true
 |_=>false
theorem Fy{K:PySem.W.Frag}{H:Vw}{x:V}{t:Tr}(r:Rep K H x t):decide (x=.cq)=TH t:=by
 cases r<;>rfl
def TJ:Tr->Tr->Rs Tr
 |a,.cq=>.ok (.bl (TH a))
 |.bl a,.bl b=>.ok (.bl (a==b))
 |_,_=>.bad
theorem MU:tX X (compareOp .Is) TJ:=by
 intro pins s σ H x y v u Q I rx ry ⟨B,tx,ty,hb,r1,r2,q⟩;unfold TJ at q;split at q
 ·exact Il pins s σ H _ _ v u Q I rx ry ⟨r2.Fb,by rw[Fy r1];exact q _ H (au.refl H) (.bl _)⟩
 ·exact IV pins s σ H _ _ v u Q I rx ry ⟨_,_,r1.rq,r2.rq,q _ H (au.refl H) (.bl _)⟩
 ·exact(show False from q).elim
def wF(aB:List (Key×Tr))(k:Key):Option Tr:=(aB.find? fun kv=>decide (kv.1=k)).map (·.2)
def Fz:Tr->Option Key
 |.int i=>some (.inl i)
 |.str z=>some (.inr z)
 |_=>none
theorem zt{K:PySem.W.Frag}{H:Vw}{x:V}{t:Tr}{k:Key}(r:Rep K H x t)(e:Fz t=some k):x=kV k:=by
 cases r with
 |int i=>cases e;rfl
 |str z h=>cases e;rfl
 |_=>cases e
theorem zu{K:PySem.W.Frag}{H:Vw}(k:Key):∀{aw:List (Key×V)} {aB:List (Key×Tr)},aw.map (·.1)=aB.map (·.1)->aL K H (aw.map (·.2)) (aB.map (·.2))->(wF aB k=none/\kZ aw k=none)\/∃t v,wF aB k=some t/\kZ aw k=some v/\Rep K H v t
 |[],[],_,_=>.inl ⟨rfl,rfl⟩
 |[],_::_,e,_=>by cases e
 |_::_,[],e,_=>by cases e
 |(k1,v1)::aw,(k2,t2)::aB,e,r=>by
  rw[ay,ay]at e;injection e with e1 e2
  have B6:k1=k2:=e1;subst B6;cases r with
  |cons h r=>
   by_cases q:k1=k
   ·refine .inr ⟨t2,v1,?_,jZ q,h⟩;unfold wF;rw[dO,bt (show(k1,t2).1=k from q)]
    rfl
   ·rw[j1 q];have e3:wF ((k1,t2)::aB) k=wF aB k:=by
     unfold wF;rw[dO,aX (show¬(k1,t2).1=k from q)]
    rw[e3];exact zu k e2 r
def TL:Tr->Bool
 |.cq=>true
 |.bl _=>true
 |.int _=>true
 |.str _=>true
 |_=>false
end
end L2
namespace L2
open PySem PySem.Spec PyProof.Rows
def AZ{α:Type}:Option α->Rs α
 |some a=>.ok a
 |none=>.bad
def G1:Tr->Tr->Rs Tr
 |.tup ts,.int i=>AZ (sJ ts i)
 |.lst ts,.int i=>AZ (sJ ts i)
 |.str z,.int i=>(AZ (sJ z.cps.toList i)).bind fun c=>.ok (.str ⟨#[c]⟩)
 |.f7 ns,.int i=>(AZ (sJ ns i)).bind fun n=>.ok (.int n)
 |.j6 aB,t=>(AZ (Fz t)).bind fun k=>AZ (wF aB k)
 |_,_=>.bad
theorem aL.sJ {K:PySem.W.Frag}{H:Vw}{vs:List V}{ts:List Tr}{i:Int}{t:Tr}(r:aL K H vs ts)(e:L2.sJ ts i=some t):∃v,L2.sJ vs i=some v/\Rep K H v t:=by
 unfold L2.sJ at e⊢;rw[r.length];cases q:GR ts.length i with
 |none=>rw[q]at e;cases e
 |some j=>
  rw[q]at e;obtain⟨v,e1,r1⟩:=r.get (show ts[j]?=some t from e);exact⟨v,e1,r1⟩
theorem fR{X:Cx}{H:Hp}{α:Type}{o:Option α}{k:α->Prop}(h:Fi X H (AZ o) k):∃a,o=some a/\k a:=by
 cases o with
 |none=>exact h.elim
 |some a=>exact⟨a,rfl,h⟩
section
variable {X:Cx}{a b e:Expr}{pos:Pos}{F G:av->Rs Tr}
theorem FA{α β:Type}(f:α->β)(xs:List α)(i:Int):L2.sJ (xs.map f) i=(L2.sJ xs i).map f:=by
 unfold L2.sJ;rw[aj];cases GR xs.length i with
 |none=>rfl
 |some j=>show(xs.map f)[j]?=_;rw[aJ];rfl
theorem FC(c:Nat):(⟨#[c]⟩:Str).length<=iR:=by show 1<=iR;decide
theorem FD{K:PySem.W.Frag}{B:bP}{H:Hp}{x y:V}{ty t:Tr}{aB:List (Key×Tr)}{k:Key}(r:Rep K (aQ B H) x (.j6 aB))(r2:Rep K (aQ B H) y ty)(ek:Fz ty=some k)(et:wF aB k=some t):∃a w,x=.ref a/\o9 H a y (some w)/\Rep K (aQ B H) w t:=by
 obtain⟨a,aw,e0,h,e,rr⟩:=r.E_;refine⟨a,?_⟩;rcases zu k e rr with⟨h1,_⟩|⟨t',w,h1,h2,h3⟩
 ·cases et.symm.trans h1
 ·cases et.symm.trans h1;exact⟨w,e0,.inl ⟨aw,k,h.same aG,zt r2 ek,h2.symm⟩,h3⟩
theorem Rq(hu:X.A.units+1<cLine):Ez X (rT X G1):=by
 intro value slice pins s σ H x y v u Q I rx ry ⟨B,tx,ty,hb,r1,r2,q⟩ hs;unfold G1 at q;split at q
 ·obtain⟨a,vs,e,h,rr⟩:=r1.cZ;obtain⟨t,et,k⟩:=fR q;obtain⟨w,ew,kY⟩:=rr.sJ et;exact Iy value slice pins s σ H _ _ v u Q I rx ry ⟨_,_,_,w,e,r2.int_inv,h.up,ew,k w H (au.refl H) kY⟩ hs
 ·obtain⟨a,vs,e,h,rr⟩:=r1.lst_inv;obtain⟨t,et,k⟩:=fR q;obtain⟨w,ew,kY⟩:=rr.sJ et;exact y_ value slice pins s σ H _ _ v u Q I rx ry ⟨_,_,_,w,e,r2.int_inv,.of (gm h),ew,k w H (au.refl H) kY⟩ hs
 ·obtain⟨c,et,k⟩:=fR (Fi.bind q);exact Iz value slice pins s σ H _ _ v u Q I rx ry ⟨_,_,c,r1.str_inv.1,r2.int_inv,bp r1.str_inv.2 pP,et,k _ H (au.refl H) (.str _ (FC c))⟩ hs
 ·obtain⟨n,et,k⟩:=fR (Fi.bind q);obtain⟨a,e,h⟩:=r1.zk;exact y_ value slice pins s σ H _ _ v u Q I rx ry ⟨_,_,_,.int n,e,r2.int_inv,au.seq aG h,by rw[FA,et];rfl,k _ H (au.refl H) (.int n)⟩ hs
 ·obtain⟨k,ek,qk⟩:=fR (Fi.bind q);obtain⟨t,et,qt⟩:=fR qk;obtain⟨a,w,rfl,g,kY⟩:=FD r1 r2 ek et;cases(show v=Value.ref a from rx);exact tail_any (oQ I g) p_.lookup (nU hu I g ry fun w' s' I' rv=>⟨w,H,I',rv,qt w H (au.refl H) kY⟩) hs
 ·exact(show False from q).elim
theorem Rr(hu:X.A.units+1<cLine)(ha:PE X a (tP X F))(hb:PE X b (tP X G))(hs:pM b:=by exact fun _ _=>rfl):PE X (.Subscript a b pos) (tP X fun ρ=>cx G1 (F ρ) (G ρ)):=
 (GS (Rq hu) ha hb hs).weak fun _ _ _ q=>j7 q
variable {P1 P2:av->Rs (Option Int)}{lo hi:Option Expr}{p2:Pos}
variable {es:List Expr}{L:av->Rs (List Tr)}
def FE:List Tr->Rs Tr
 |[.str z]=>.ok (.int (z.length:Int))
 |[.tup ts]=>.ok (.int (ts.length:Int))
 |[.lst ts]=>.ok (.int (ts.length:Int))
 |[.f7 ns]=>.ok (.int (ns.length:Int))
 |_=>.bad
theorem MV:g9 X (.builtin "len") FE:=by
 intro pins s σ H xs us Q I rv ⟨B,ts,hb,r,q⟩;unfold FE at q;split at q
 ·obtain⟨x,e,r⟩:=gs r;exact mM pins s σ H _ us Q I rv ⟨_,_,e,by rw[r.str_inv.1];exact⟨bp r.str_inv.2 pP,rfl⟩,q _ H (au.refl H) (.int _)⟩
 ·obtain⟨x,e,r⟩:=gs r;obtain⟨a,vs,rfl,h,rr⟩:=r.cZ;exact mM pins s σ H _ us Q I rv ⟨_,_,e,.inr ⟨_,h.up,rfl⟩,q _ H (au.refl H) (by rw[rr.length];exact .int _)⟩
 ·obtain⟨x,e,r⟩:=gs r;obtain⟨a,vs,rfl,h,rr⟩:=r.lst_inv;exact mM pins s σ H _ us Q I rv ⟨_,_,e,.inl ⟨_,.of (gm h),rfl⟩,q _ H (au.refl H) (by rw[rr.length];exact .int _)⟩
 ·obtain⟨x,e,r⟩:=gs r;obtain⟨a,rfl,h⟩:=r.zk;exact mM pins s σ H _ us Q I rv ⟨_,_,e,.inl ⟨_,au.seq aG h,rfl⟩,q _ H (au.refl H) (by rw[aj];exact .int _)⟩
 ·exact(show False from q).elim
def zw:List Tr->Rs Tr
 |[.tup ts]=>.ok (.lst ts)
 |[.lst ts]=>.ok (.lst ts)
 |_=>.bad
def dE:List Tr->Rs Tr
 |[.tup ts]=>.ok (.tup ts)
 |[.lst ts]=>.ok (.tup ts)
 |_=>.bad
theorem kP:g9 X (.type "tuple") dE:=by
 intro pins s σ H xs us Q I rv ⟨B,ts,hb,r,q⟩;unfold dE at q;split at q
 ·obtain⟨x,e,r⟩:=gs r;obtain⟨a,vs,rfl,h,rr⟩:=r.j8;exact lb pins s σ H _ us Q I rv ⟨_,_,e,.inr ⟨.inl (.inl (gm h)),q _ H (au.refl H) (.tup h rr)⟩⟩
 ·obtain⟨x,e,r⟩:=gs r;obtain⟨a,vs,rfl,h,rr⟩:=r.lst_inv;exact lb pins s σ H _ us Q I rv ⟨_,_,e,.inl ⟨.of (gm h),fun p hp=>q _ _ (au.upd hp) (.Jj hb hp rr)⟩⟩
 ·exact q.elim
def rJ:Tr->String
 |.cq=>"NoneType"
 |.bl _=>"bool"
 |.int _=>"int"
 |.str _=>"str"
 |.ty _=>"type"
 |.tup _=>"tuple"
 |.lst _=>"list"
 |.f7 _=>"list"
 |.j6 _=>"dict"
 |.at _=>"object"
 |.aE _=>"dict"
 |.ob _ _=>"object"
 |.zh _=>"object"
def Pj(t:Tr)(c:String):Bool:=rJ t==c||(rJ t=="bool"&&c=="int")
def kinds:List String:=["int","str","bool","tuple","list","dict"]
theorem zx(K:PySem.W.Frag):∀a∈["NoneType","bool","int","str","tuple","list","dict"],∀c∈kinds,PySem.W.kitOne K (.type a) (.type c)=some (a==c||(a=="bool"&&c=="int")):=by
 intro a ha c hc;simp only[kinds,aR,eS,dC]at ha hc;rcases ha with rfl|rfl|rfl|rfl|rfl|rfl|rfl<;>rcases hc with rfl|rfl|rfl|rfl|rfl|rfl<;>first|rfl|(unfold PySem.W.kitOne;exact ab (by decide))
def MW:Tr->Bool
 |.ty _|.at _|.ob _ _|.zh _=>true
 |_=>false
def MX:List Tr->Rs Tr
 |[t,.ty c]=>if MW t=false/\kinds.contains c=true then .ok (.bl (Pj t c))else .bad
 |_=>.bad
theorem FF{pins:List (Addr×Obj)}{σ:St}{H:Hp}{zp:Addr->Option Nat}{s:Shared}{A:Around}{Q:Value->Shared->Prop}{E:Value->Shared->Prop}{x:V}{t:Tr}{u:Value}{c:String}(I:Inv X pins σ H s)(r:Rep X.K (⟨H,zp⟩:Vw) x t)(h0:MW t=false)(rx:RelV x u)(hc:c∈kinds)(h:∀tk,Q (.bool (Pj t c)) {s with toks:=tk}):
  wpAny (model X.prog X.w) A (call (.builtin "isinstance") [u,.type c]) Q E s:=by
 have FG:=fun a ha=>zx X.K a ha c hc;cases r with
 |cq=>exact iO I rx .cq (FG _ (by decide)) h
 |bl b=>exact iO I rx (.bl b) (FG _ (by decide)) h
 |int i=>exact iO I rx (.int i) (FG _ (by decide)) h
 |str z hz=>exact iO I rx (.str z) (FG _ (by decide)) h
 |ty n=>cases h0
 |«at» h=>cases h0
 |ob h e rr=>cases h0
 |zh h c=>cases h0
 |@aE a aw aB hq e rr=>
  cases(show u=Value.ref a from rx);obtain⟨_,_,xs,_,o,es,ep,h1,h2,_⟩:=(show bu X.prog X.w H s.heap a (.dT aw)from CF I.bQ hq);exact cT md I.o6 ⟨o,h1,h2.1⟩ (FG "dict" (by decide)) (fun z=>nomatch z) h
 |@tup a vs ts hq rr=>
  cases(show u=Value.ref a from rx);obtain⟨aY,rv,⟨o,h1,h2,_⟩,_⟩:=I.tuple (Rk hq);exact cT PySem.W.kitx_tuple I.o6 ⟨o,h1,h2⟩ (FG "tuple" (by decide)) (fun z=>nomatch z) h
 |lst hq rr=>exact iO I rx (.lst hq) (FG _ (by decide)) h
 |@f7 a ns hq=>
  cases(show u=Value.ref a from rx);obtain⟨aY,rv,⟨o,n,h1,h2,_⟩,_⟩:=I.list hq;exact cT qF I.o6 ⟨o,h1,h2⟩ (FG "list" (by decide)) (fun z=>nomatch z) h
 |@j6 a aw aB hq e rr=>
  cases(show u=Value.ref a from rx);obtain⟨_,_,vs,_,p⟩:=(show bu X.prog X.w H s.heap a (.dK aw)from hq.ok I.bQ);obtain⟨o,es,ep,h1,h2,_⟩:=p;exact cT md I.o6 ⟨o,h1,h2.1⟩ (FG "dict" (by decide)) (fun z=>nomatch z) h
theorem t8:g9 X (.builtin "isinstance") MX:=by
 intro pins s σ H xs us Q I rv ⟨B,ts,hb,r,q⟩;unfold MX at q;split at q
 ·obtain⟨⟨h0,h1⟩,k⟩:=fh q;obtain⟨x,y,rfl,r1,r2⟩:=rA r;obtain⟨v,u,rfl,v1,v2⟩:=vals2 rv;cases r2;cases v2;exact FF I r1.up h0 v1 (by simpa using h1) fun tk=>⟨.bl _,H,I.tok _,rfl,k _ H (au.refl H) (.bl _)⟩
 ·exact q.elim
variable {o:Expr}{name:Str}{apos jj:Pos}{id:String}{h:Str->List Tr->Rs Tr}
end
end L2
namespace L2
open PySem PySem.Spec PyProof.Rows
section
variable {X:Cx}{a e:Expr}{pos:Pos}{F:av->Rs Tr}
end
theorem pf{k:Nat}{A:Around}(hr:dA k A):A.units+40<cLine:=by have:=hr.units;omega
def CW(n m:Nat)(G:av->Rs Out)(ts:List Tr):Rs Tr:=if ts.length=n then fF (G (startT m ts))else .bad
theorem FH{n m:Nat}{G:av->Rs Out}{ts:List Tr}{t:Tr}(h:CW n m G ts=.ok t):ts.length=n:=by
 unfold CW at h;split at h
 ·assumption
 ·cases h
theorem Jm{n m:Nat}{G:av->Rs Out}{ts:List Tr}{t:Tr}(h:CW n m G ts=.ok t):fF (G (startT m ts))=.ok t:=by
 unfold CW at h;split at h
 ·exact h
 ·cases h
end L2
namespace L2
open PySem PySem.Spec PyProof.Rows
structure A5(K:PySem.W.Frag)(H:Vw)(aw:List (Key×V))(aB:List (Key×Tr)):Prop where
 keys:aw.map (·.1)=aB.map (·.1)
 vals:aL K H (aw.map (·.2)) (aB.map (·.2))
section
variable {K:PySem.W.Frag}{H H':Vw}
theorem A5.same {aw:List (Key×V)}{aB:List (Key×Tr)}(s:cw H H')(h:A5 K H aw aB):A5 K H' aw aB:=⟨h.keys,h.vals.same s⟩
end
section
variable {X:Cx}{a e o f:Expr}{pos apos jj:Pos}{F G E:av->Rs Tr}{keys:List (Option Expr)}{vals:List Expr}{P:av->Rs (List (Tr×Tr))}
variable {x:Str}{aB:List (Str×Tr)}{p:Pos}
def uX:List Tr->Rs (List Bool)
 |[]=>.ok []
 |.bl b::ts=>(uX ts).bind fun zs=>.ok (b::zs)
 |_=>.bad
theorem zy{K:PySem.W.Frag}{H:Vw}{H0:Hp}{k:List Bool->Prop}:∀{ts:List Tr} {vs:List V},aL K H vs ts->Fi X H0 (uX ts) k->∃bs,k bs/\vs=bs.map V.bl
 |[],_,r,q=>by cases r;exact⟨[],q,rfl⟩
 |t::ts,_,r,q=>by
  cases r with
  |cons h r=>
   cases h with
   |bl b=>
    obtain⟨bs,k1,e⟩:=zy (k:=fun zs=>k (b::zs)) r (Fi.bind q);exact⟨b::bs,k1,by rw[e];rfl⟩
   |_=>exact(show False from q).elim
def kg:List Tr->Rs Tr
 |[.lst ts]=>(uX ts).bind fun bs=>.ok (.bl (bs.all id))
 |_=>.bad
theorem CY(hc:X.calm=true):g9 X (.builtin "all") kg:=by
 intro pins s σ H xs us Q I rv ⟨B,ts,hb,r,q⟩;unfold kg at q;split at q
 ·obtain⟨x,rfl,h⟩:=gs r;obtain⟨a,vs,rfl,hl,rr⟩:=h.lst_inv;obtain⟨bs,k,rfl⟩:=zy rr (Fi.bind q);exact CM hc pins s σ H _ us Q I rv ⟨_,bs,rfl,.of (gm hl),k _ H (au.refl H) (.bl _)⟩
 ·exact(show False from q).elim
end
end L2
namespace L2
open PySem
variable {K:PySem.W.Frag}{w:World}{es:List DictEntry}{aw:List (Str×Value)}{aB:List (Str×Tr)}
end L2
namespace L2
open PySem PySem.Spec PyProof.Rows
inductive Dk:HO->Prop
 |k (aw:List (Key×V)):Dk (.dK aw)
 |t (aw:List (List Key×V)):Dk (.dT aw)
section
variable {X:Cx}{pins:List (Addr×Obj)}{σ:St}{H H1 H':Hp}{s:Shared}{a:Addr}{o:Obj}{u0:HO}{B:bP}
theorem Inv.frozen (I:Inv X pins σ H s)(ha:H a=some u0)(hk:Dk u0)(ho:s.heap.get? a=some o):Inv X pins σ (upd H a (.fZ o u0)) s:=by
 have ne:∀{b:Addr} {u:HO},H b=some u->u≠u0->b≠a:=fun{b u} e d z=>by subst z;rw[ha]at e;cases e;exact d rfl
 have nn:∀{b:Addr},H b=none->b≠a:=fun{b} e z=>by subst z;rw[ha]at e;cases e
 refine⟨I.ok,I.os,I.bare,⟨I.base.keep,I.base.slot,fun b ob e n hx=>?_,I.base.there,fun b xs e=>?_,fun b ob u e=>?_,fun b ps e=>?_⟩,I.loc,I.cell,?_,fun x c e=>?_,fun p hp=>?_,fun b u e=>?_,I.len⟩
 ·have q:=I.base.free b ob e n hx;rw[ak (nn q)];exact q
 ·have q:=I.base.kX b xs e;rw[ak (ne q (fun z=>by subst z;cases hk))];exact q
 ·have q:=I.base.jx b ob u e;rw[ak (ne q (fun z=>by subst z;cases hk))];exact q
 ·obtain⟨m,q⟩:=I.base.jV b ps e;exact⟨m,by rw[ak (ne q (fun z=>by subst z;cases hk))];exact q⟩
 ·rw[ak (nn I.free)];exact I.free
 ·rw[ak (nn (I.gr x c e))];exact I.gr x c e
 ·obtain⟨p1,p2,p3⟩:=I.pin p hp;exact⟨p1,by rw[ak (nn p2)];exact p2,p3⟩
 ·have ow:∀c d,H c=some (.own d)->upd H a (.fZ o u0) c=some (.own d):=fun c d q=>by rw[ak (ne q (fun z=>by subst z;cases hk))];exact q
  have tu:∀c xs,H c=some (.tup xs)->upd H a (.fZ o u0) c=some (.tup xs):=fun c d q=>by rw[ak (ne q (fun z=>by subst z;cases hk))];exact q
  by_cases z:b=a
  ·subst z;rw[aH]at e;cases e;exact⟨ho,(I.bQ b _ ha).ly (fun _ _ _ q=>q) (fun c q=>ow c b q) tu⟩
  ·rw[ak z]at e;exact(I.bQ b u e).ly (fun _ _ _ q=>q) (fun c q=>ow c b q) tu
theorem Inv.Jn (I:Inv X pins σ H s)(ha:H a=some (.fZ o u0))(hk:Dk u0)(h0:∀o' u,X.vW a≠some (.fZ o' u)):Inv X pins σ (upd H a u0) s:=by
 have ne:∀{b:Addr} {u:HO},H b=some u->u≠ .fZ o u0->b≠a:=fun{b u} e d z=>by subst z;rw[ha]at e;cases e;exact d rfl
 have nn:∀{b:Addr},H b=none->b≠a:=fun{b} e z=>by subst z;rw[ha]at e;cases e
 refine⟨I.ok,I.os,I.bare,⟨I.base.keep,I.base.slot,fun b ob e n hx=>?_,I.base.there,fun b xs e=>?_,fun b ob u e=>?_,fun b ps e=>?_⟩,I.loc,I.cell,?_,fun x c e=>?_,fun p hp=>?_,fun b u e=>?_,I.len⟩
 ·have q:=I.base.free b ob e n hx;rw[ak (nn q)];exact q
 ·have q:=I.base.kX b xs e;rw[ak (ne q (fun z=>by cases z))];exact q
 ·have q:=I.base.jx b ob u e;rw[ak (fun z=>by subst z;exact h0 _ _ e)];exact q
 ·obtain⟨m,q⟩:=I.base.jV b ps e;exact⟨m,by rw[ak (ne q (fun z=>by cases z))];exact q⟩
 ·rw[ak (nn I.free)];exact I.free
 ·rw[ak (nn (I.gr x c e))];exact I.gr x c e
 ·obtain⟨p1,p2,p3⟩:=I.pin p hp;exact⟨p1,by rw[ak (nn p2)];exact p2,p3⟩
 ·have ow:∀c d,H c=some (.own d)->upd H a u0 c=some (.own d):=fun c d q=>by rw[ak (ne q (fun z=>by cases z))];exact q
  have tu:∀c xs,H c=some (.tup xs)->upd H a u0 c=some (.tup xs):=fun c d q=>by rw[ak (ne q (fun z=>by cases z))];exact q
  by_cases z:b=a
  ·subst z;rw[aH]at e;cases e;exact(I.bQ b _ ha).2.ly (fun _ _ _ q=>q) (fun c q=>ow c b q) tu
  ·rw[ak z]at e;exact(I.bQ b u e).ly (fun _ _ _ q=>q) (fun c q=>ow c b q) tu
structure ph(H H':Hp)(a:Addr)(u u':HO)(u0:HO):Prop where
 fr:H a=some u
 to:H'=upd H a u'
 ok:(u=u0/\∃o,u'=.fZ o u0)\/(u'=u0/\∃o,u=.fZ o u0)
 dk:Dk u0
variable {u u':HO}
theorem ph.lg (w:ph H H' a u u' u0){b:Addr}{x:HO}(e:H b=some x)(h1:¬Dk x)(h2:∀o u,Dk u->x≠ .fZ o u):H' b=some x:=by
 rw[w.to,ak ?_]
 ·exact e
 ·intro z;subst z;rw[w.fr]at e;cases e;rcases w.ok with⟨e1,_⟩|⟨_,o,e1⟩
  ·exact h1 (by rw[e1];exact w.dk)
  ·exact h2 _ _ w.dk e1
theorem gn{B:bP}{H H':Hp}{b:Addr}{x:HO}(e:(aQ B H).H b=some x)(h:H b=some x->H' b=some x):(aQ B H').H b=some x:=by
 have e':(if B.hd b=true then none else H b)=some x:=e;show(if B.hd b=true then none else H' b)=some x;split at e'
 ·cases e'
 ·rename_i n;rw[ae n];exact h e'
theorem ph.seq {K:PySem.W.Frag}(w:ph H H' a u u' u0){b:Addr}{xs:List V}(h:iN K (aQ B H).H b xs):iN K (aQ B H').H b xs:=by
 rcases h with(h|⟨o,h⟩)|h
 ·exact .inl (.inl (gn h fun e=>w.lg e (fun z=>by cases z) fun _ _ d z=>by cases z<;>cases d))
 ·exact .inl (.inr ⟨o,gn h fun e=>w.lg e (fun z=>by cases z) fun _ _ d z=>by cases z<;>cases d⟩)
 ·exact .inr h
theorem ph.tup {K:PySem.W.Frag}(w:ph H H' a u u' u0){b:Addr}{xs:List V}(h:hZ K (aQ B H).H b xs):hZ K (aQ B H').H b xs:=by
 rcases h with(h|⟨o,h⟩)|h
 ·exact .inl (.inl (gn h fun e=>w.lg e (fun z=>by cases z) fun _ _ d z=>by cases z<;>cases d))
 ·exact .inl (.inr ⟨o,gn h fun e=>w.lg e (fun z=>by cases z) fun _ _ d z=>by cases z<;>cases d⟩)
 ·exact .inr h
theorem ph.rd (w:ph H H' a u u' u0){b:Addr}{x:HO}(hx:Dk x)(h:Rd (aQ B H).H b x):Rd (aQ B H').H b x:=by
 by_cases z:b=a
 ·subst z;have hb:B.hd b=false:=by
   cases q:B.hd b with
   |false=>rfl
   |true=>
    have n:(aQ B H).H b=none:=by show(if B.hd b=true then none else H b)=none;rw[ab q]
    rcases h with h|⟨o,h⟩<;>(rw[n]at h;cases h)
  have h':Rd H b x:=by unfold Rd at h⊢;rw[cK hb]at h;exact h
  have dk:=w.dk;have ek:x=u0:=by
   rcases h' with h|⟨o,h⟩<;>rw[w.fr]at h<;>rcases w.ok with⟨e1,_⟩|⟨_,o',e1⟩<;>rw[e1]at h<;>cases h
   ·rfl
   ·cases hx
   ·cases dk
   ·rfl
  subst ek;unfold Rd;rw[cK hb,w.to,aH];rcases w.ok with⟨_,o',e1⟩|⟨e1,_⟩
  ·rw[e1];exact .inr ⟨o',rfl⟩
  ·rw[e1];exact .inl rfl
 ·have hn:(aQ B H').H b=(aQ B H).H b:=by
   show(if B.hd b=true then none else H' b)=(if B.hd b=true then none else H b);rw[w.to,ak z]
  unfold Rd;rw[hn];exact h
theorem ph.rep {K:PySem.W.Frag}(w:ph H H' a u u' u0){v:V}{t:Tr}(h:Rep K (aQ B H) v t):Rep K (aQ B H') v t:=by
 refine Rep.rec (motive_1:=fun v t _=>Rep K (aQ B H') v t) (motive_2:=fun vs ts _=>aL K (aQ B H') vs ts) ?_ ?_ ?_ ?_ ?_ ?_ ?_ ?_ ?_ ?_ ?_ ?_ ?_ ?_ ?_ h
 ·exact .cq
 ·exact fun b=>.bl b
 ·exact fun i=>.int i
 ·exact fun z h=>.str z h
 ·exact fun n=>.ty n
 ·exact fun h=>.f7 (w.seq h)
 ·exact fun h _ r=>.tup (gn h fun e=>w.lg e (fun z=>by cases z) fun _ _ d z=>by cases z<;>cases d) r
 ·exact fun h _ r=>.lst (gn h fun e=>w.lg e (fun z=>by cases z) fun _ _ d z=>by cases z<;>cases d) r
 ·exact fun h e _ r=>.j6 (w.rd (.k _) h) e r
 ·exact fun h=>.at h
 ·exact fun h e _ r=>.aE (w.rd (.t _) h) e r
 ·exact fun h e _ r=>.ob (gn h fun e=>w.lg e (fun z=>by cases z) fun _ _ d z=>by cases z<;>cases d) e r
 ·exact fun h c=>.zh (gn h fun e=>w.lg e (fun z=>by cases z) fun _ _ d z=>by cases z<;>cases d) c
 ·exact .nil
 ·exact fun _ _ h r=>.cons h r
theorem ph.A6 {K:PySem.W.Frag}(w:ph H H' a u u' u0):∀{vs:List V} {ts:List Tr},aL K (aQ B H) vs ts->aL K (aQ B H') vs ts
 |[],_,h=>by cases h;exact .nil
 |_::_,_,h=>by cases h with|cons h r=>exact .cons (w.rep h) (ph.A6 w r)
theorem ph.yj {K:PySem.W.Frag}{ρ:av}(w:ph H H' a u u' u0)(h:bb K B H σ ρ):bb K B H' σ ρ:=
 ⟨h.len,fun i t e=>by obtain⟨v,e1,r⟩:=h.sh i t e;exact⟨v,e1,w.rep r⟩,
   fun i ts e=>by obtain⟨D,ys,e1,e2,e3,r⟩:=h.ow i ts e;exact⟨D,ys,e1,e2,w.lg e3 (fun z=>by cases z) (fun _ _ d z=>by cases z<;>cases d),w.A6 r⟩,h.ap⟩
theorem ph.hb (w:ph H H' a u u' u0)(h:HB B H):HB B H':=fun b e=>by
 obtain⟨o,q,n⟩:=h b e;by_cases z:b=a
 ·subst z;rw[w.to];refine⟨_,aH,fun vs z=>?_⟩;rcases w.ok with⟨_,o',e1⟩|⟨e1,_⟩
  ·rw[e1]at z;cases z
  ·rw[e1]at z;have d:=w.dk;rw[z]at d;cases d
 ·exact⟨o,by rw[w.to,ak z];exact q,n⟩
def uY(X:Cx)(B:bP)(H H':Hp):Prop:=au H H'\/∃H1 a o u0,Dk u0/\au H H1/\B.hd a=false/\H1 a=some u0/\H'=upd H1 a (.fZ o u0)/\∀o u,X.vW a≠some (.fZ o u)
def f9(X:Cx)(H:Hp)(k:Hp->Prop):Prop:=k H\/∃a o u0,Dk u0/\H a=some (.fZ o u0)/\(∀o u,X.vW a≠some (.fZ o u))/\k (upd H a u0)
theorem f9.inv {k:Hp->Prop}(q:f9 X H k)(I:Inv X pins σ H s):∃H',Inv X pins σ H' s/\k H':=by
 rcases q with q|⟨a,o,u0,hk,e,h0,q⟩
 ·exact⟨H,I,q⟩
 ·exact⟨_,I.Jn e hk h0,q⟩
theorem PE.Jo {e:Expr}{t:TE}(h:PE X e t):PE X e (fun σ H Q=>t σ H fun v H'=>f9 X H' (Q v)):=fun pins s σ H Q I q=>
 dY (h pins s σ H _ I q) fun u s' ⟨v,H',I',r,z⟩=>by
  obtain⟨H2,I2,q2⟩:=z.inv I';exact⟨v,H2,I2,r,q2⟩
def Ends.Jo (X:Cx)(D:Ends):Ends:=⟨fun σ H=>f9 X H (D.nx σ),fun v H=>f9 X H (D.rt v),fun σ H=>f9 X H (D.bk σ),fun σ H=>f9 X H (D.ct σ)⟩
theorem PS.Jo {st:Stmt}{t:TS}(h:PS X st t):PS X st (fun D σ H=>t (D.Jo X) σ H):=fun pins s σ H D I q=>
 dY (h pins s σ H _ I q) fun f s' z=>by
  cases f with
  |next=>obtain⟨bK,H',I',z⟩:=z;obtain⟨H2,I2,q2⟩:=f9.inv z I';exact⟨bK,H2,I2,q2⟩
  |brk=>obtain⟨bK,H',I',z⟩:=z;obtain⟨H2,I2,q2⟩:=f9.inv z I';exact⟨bK,H2,I2,q2⟩
  |cont=>obtain⟨bK,H',I',z⟩:=z;obtain⟨H2,I2,q2⟩:=f9.inv z I';exact⟨bK,H2,I2,q2⟩
  |ret u=>obtain⟨v,bK,H',I',r,z⟩:=z;obtain⟨H2,I2,q2⟩:=f9.inv z I';exact⟨v,bK,H2,I2,r,q2⟩
theorem uY.yj {K:PySem.W.Frag}{ρ:av}(h:uY X B H H')(r:bb K B H σ ρ):bb K B H' σ ρ:=by
 rcases h with s|⟨H1,a,o,u0,hk,s,hv,ha,rfl,h0⟩
 ·exact r.same s
 ·exact ph.yj (u:=u0) ⟨ha,rfl,.inl ⟨rfl,o,rfl⟩,hk⟩ (r.same s)
theorem uY.hb (h:uY X B H H')(r:HB B H):HB B H':=by
 rcases h with s|⟨H1,a,o,u0,hk,s,hv,ha,rfl,h0⟩
 ·exact r.same s
 ·exact ph.hb (u:=u0) ⟨ha,rfl,.inl ⟨rfl,o,rfl⟩,hk⟩ (r.same s)
theorem uY.free {p:Addr}(h:uY X B H H')(e:H' p=none):H p=none:=by
 rcases h with s|⟨H1,a,o,u0,hk,s,hv,ha,rfl,h0⟩
 ·exact s.free e
 ·refine s.free ?_
  by_cases z:p=a
  ·subst z;rw[aH]at e;cases e
  ·rw[ak z]at e;exact e
theorem uY.back {H2:Hp}{B2:bP}{C:bP}(h:uY X B H H')(si:cP C B H' B2 H2):∃Hu,cP C B H B2 Hu/\(∀{K:PySem.W.Frag} {B3:bP} {v:V} {t:Tr},Rep K (aQ B3 H2) v t->Rep K (aQ B3 Hu) v t)/\(∀{K:PySem.W.Frag} {σ:St} {ρ:av},bb K B2 H2 σ ρ->bb K B2 Hu σ ρ)/\∀k:Hp->Prop,k Hu->f9 X H2 k:=by
 rcases h with s|⟨H1,a,o,u0,hk,s,hv,ha,rfl,h0⟩
 ·exact⟨H2,⟨fun b o c e=>si.kp b o c (s _ _ e),(ba s).trans si.fH,si.sub,si.hb⟩,fun r=>r,fun r=>r,fun k q=>.inl q⟩
 ·have e1:(aQ B (upd H1 a (.fZ o u0))).H a=some (.fZ o u0):=by rw[cK hv];exact aH
  have e2:=si.fH.h _ _ e1;have e3:H2 a=some (.fZ o u0):=aG _ _ e2;have w:ph H2 (upd H2 a u0) a (.fZ o u0) u0 u0:=⟨e3,rfl,.inr ⟨rfl,o,rfl⟩,hk⟩;have Pk:B2.hd a=false:=by
   cases q:B2.hd a with
   |false=>rfl
   |true=>
    have n:(aQ B2 H2).H a=none:=by show(if B2.hd a=true then none else H2 a)=none;rw[ab q]
    rw[n]at e2;cases e2
  refine⟨upd H2 a u0,⟨fun b ob c e=>?_,⟨fun b ob e=>?_,fun b i e=>?_⟩,si.sub,w.hb si.hb⟩,fun r=>w.rep r,fun r=>w.yj r,fun k q=>.inr ⟨a,o,u0,hk,e3,h0,q⟩⟩
  ·have q:=s _ _ e;by_cases z:b=a
   ·subst z;rw[ha]at q;cases q;exact aH
   ·rw[ak z];exact si.kp b ob c (by rw[ak z];exact q)
  ·by_cases z:b=a
   ·subst z;have q:=s _ _ (aG _ _ e);rw[ha]at q;cases q;rw[cK Pk];exact aH
   ·have q:(aQ B (upd H1 a (.fZ o u0))).H b=some ob:=gn e fun e=>by rw[ak z];exact s _ _ e
    exact gn (si.fH.h _ _ q) fun e=>by rw[ak z];exact e
  ·exact si.fH.x b i e
theorem uY.G_ {H2:Hp}(h:uY X B H H')(hb:HB B H)(s2:au H' H2):∃Hu,au H Hu/\(∀{K:PySem.W.Frag} {B3:bP} {v:V} {t:Tr},Rep K (aQ B3 H2) v t->Rep K (aQ B3 Hu) v t)/\∀k:Hp->Prop,k Hu->f9 X H2 k:=by
 obtain⟨Hu,si,r,_,k⟩:=h.back (C:=B) (B2:=B) (H2:=H2) ⟨fun b o _ e=>s2 _ _ e,ba s2,.refl,(h.hb hb).same s2⟩;exact⟨Hu,si.same,r,k⟩
end
def lh:Key->Tr
 |.inl i=>.int i
 |.inr z=>.str z
def keyOk:Key->Bool
 |.inl _=>true
 |.inr z=>decide (z.length<=iR)
theorem A7{K:PySem.W.Frag}{W:Vw}{k:Key}(h:keyOk k=true):Rep K W (kV k) (lh k):=by
 cases k with
 |inl i=>exact .int i
 |inr z=>exact .str z (bN h)
inductive tJ(X:Cx)(W:av->Rs (List Tr))(σ:St)(H:Hp)(R:It->Hp->Prop):Prop
 |mk (B:bP) (ρ:av):HB B H->bb X.K B H σ ρ->(Fi X H (W ρ) fun ts=>∀J H',uY X B H H'->js X.K B J H' ts->R J H')->tJ X W σ H R
section
variable {X:Cx}{pins:List (Addr×Obj)}{σ:St}
variable {a b e:Expr}{es:List Expr}{pos:Pos}{F G:av->Rs Tr}{A:av->Rs Bool}{scope:Scope}{N':List Str}{ix:List (Option Nat)}{elt iter tg:Expr}{ifs:List Expr}{T:j_}{W:av->Rs (List Tr)}
theorem A8{σ:St}{H:Hp}{Q:VK}(hT:gk T)(q:tP X (fun ρ=>gL ix T A F (W ρ) ρ) σ H Q):IT (tJ X W) ix (Fm X.K T) (Fl X.K A) (Fj X.K F) σ H (fun v H'=>f9 X H' (Q v)):=by
 obtain⟨B,ρ,hb,r,q⟩:=q;refine⟨B,ρ,hb,r,q.bind.mono fun ts qt J H1 tf gt D hD=>?_⟩;by_cases hz:ts.length<=iT
 ·rw[ab hz]at qt;exact mS hT (mR ix ρ) (tf.hb hb) gt hz ((tf.yj r).comp ix (g_ hD)) hD (Fi.bind qt) fun ys H' k s' rp=>by
   obtain⟨Hu,su,ru,ku⟩:=tf.G_ hb s';exact ku _ (k _ Hu su (ru rp))
 ·rw[ae hz]at qt;exact qt.elim
theorem MY(Lk:e_ X N' ix scope)(hi:PI X tg iter (tJ X W))(j5:G0 X scope N' tg elt ifs T A F)(hT:gk T)(hc:X.calm=true:=by rfl) (hs:isSet iter=false:=by rfl):
  PE X (.ListComp elt [⟨tg,iter,ifs,0⟩] scope pos) (tP X fun ρ=>gL ix T A F (W ρ) ρ):=
 (CL Lk hc hi j5.K9 (cL hs)).Jo.weak fun σ H Q q=>A8 hT q
end
end L2
namespace L2
open PySem PySem.Spec PyProof.Rows
def lF(xs:Array Nat):Prop:=xs.toList.Pairwise (· <·)
theorem lF.lt {xs:Array Nat}(h:lF xs){i j:Nat}(sL:i<j)(hj:j<xs.size):xs.getD i 0<xs.getD j 0:=by
 have q:=List.pairwise_iff_getElem.mp h i j (by rw[bz];omega) (by rw[bz];exact hj) sL;rw[cj,cj,du (by omega),du hj];simpa using q
theorem rK{xs:Array Nat}{j:Nat}(h:lF xs):∀(f lo hi:Nat),lo<=hi->hi<=xs.size->hi - lo<=f->(∀k,k<lo->xs.getD k 0<j)->(∀k,hi<=k->k<xs.size->j<=xs.getD k 0)->
  ∀p,SetTable.below.go xs j f lo hi=p->p<=xs.size/\(∀k,k<p->xs.getD k 0<j)/\∀k,p<=k->k<xs.size->j<=xs.getD k 0
 |0,lo,hi,h1,h2,h3,h4,h5,p,e=>by
  have:lo=hi:=by omega
  subst this;subst e;exact⟨h2,h4,h5⟩
 |f+1,lo,hi,h1,h2,h3,h4,h5,p,e=>by
  unfold SetTable.below.go at e;by_cases hl:lo<hi
  ·rw[ab hl]at e;dsimp only at e;have hm:(lo+hi)/2<xs.size:=by omega
   have hg:xs.getD ((lo+hi)/2) j=xs.getD ((lo+hi)/2) 0:=by
    rw[cj,cj,du hm];rfl
   rw[hg]at e;by_cases hv:xs.getD ((lo+hi)/2) 0<j
   ·rw[ab hv]at e;refine rK h f _ hi (by omega) h2 (by omega) (fun k hk=>?_) h5 p e;by_cases FI:k=(lo+hi)/2
    ·rw[FI];exact hv
    ·exact Nat.lt_trans (h.lt (show k<(lo+hi)/2 by omega) hm) hv
   ·rw[ae hv]at e;refine rK h f lo _ (by omega) (by omega) (by omega) h4 (fun k hk Vi=>?_) p e;by_cases FI:k=(lo+hi)/2
    ·rw[FI];omega
    ·have:=h.lt (show(lo+hi)/2<k by omega) Vi;omega
  ·rw[ae hl]at e;have:lo=hi:=by omega
   subst this;subst e;exact⟨h2,h4,h5⟩
theorem below_at{xs:Array Nat}(h:lF xs)(j:Nat):SetTable.below xs j<=xs.size/\(∀k,k<SetTable.below xs j->xs.getD k 0<j)/\∀k,SetTable.below xs j<=k->k<xs.size->j<=xs.getD k 0:=
 rK h xs.size 0 xs.size (bG _) (aA _) (aA _) (fun k hk=>absurd hk (Nat.not_lt_zero _)) (fun k h1 h2=>absurd h2 (by omega)) _ rfl
theorem yk{xs:Array Nat}(h:lF xs):SetTable.below xs 0=0:=by
 have q:=(below_at h 0).2.1;cases e:SetTable.below xs 0 with
 |zero=>rfl
 |succ n=>exact absurd (q 0 (by omega)) (by omega)
theorem yl{xs:Array Nat}(h:lF xs){i:Nat}(hi:i<xs.size):SetTable.below xs (xs.getD i 0+1)=i+1:=by
 have⟨q0,q1,q2⟩:=below_at h (xs.getD i 0+1);by_cases h1:SetTable.below xs (xs.getD i 0+1)<=i
 ·have:=q2 i h1 hi;omega
 ·by_cases h2:i+1<SetTable.below xs (xs.getD i 0+1)
  ·have:=q1 (i+1) h2;have:=h.lt (show i<i+1 by omega) (by omega);omega
  ·omega
theorem C0{xs:Array Nat}(h:lF xs){j:Nat}(hj:¬xs[SetTable.below xs j]?=some j):lF (SetTable.insertAt xs (SetTable.below xs j) j):=by
 have⟨q0,q1,q2⟩:=below_at h j;generalize SetTable.below xs j=p at*;have e:(SetTable.insertAt xs p j).toList=xs.toList.take p++j::xs.toList.drop p:=by
  unfold SetTable.insertAt;simp;exact List.take_of_length_le (by simp)
 unfold lF;rw[e,List.pairwise_append];have gl:∀{k:Nat} (hk:k<xs.toList.length),xs.toList[k]=xs.getD k 0:=fun{k} hk=>by
  rw[cj,du (by rw[<-bz];exact hk)];simp
 have MZ:∀a∈xs.toList.take p,a<j:=fun a ha=>by
  obtain⟨k,hk,e⟩:=List.mem_iff_getElem.mp ha;rw[qM,bz]at hk;rw[List.getElem_take,gl (by rw[bz];omega)]at e;rw[<-e];exact q1 k (by omega)
 have Ha:∀b∈xs.toList.drop p,j<b:=fun b hb=>by
  obtain⟨k,hk,e⟩:=List.mem_iff_getElem.mp hb;rw[List.length_drop,bz]at hk;rw[List.getElem_drop,gl (by rw[bz];omega)]at e;have h1:=q2 (p+k) (by omega) (by omega);rw[e]at h1;rcases Nat.lt_or_ge j b with h2|h2
  ·exact h2
  ·have h3:b=j:=Nat.le_antisymm h2 h1;subst h3;exfalso;by_cases FJ:k=0
   ·subst FJ;refine hj ?_
    rw[du (by omega)];rw[cj,du (by omega)]at e;simpa using e
   ·have h4:=h.lt (show p<p+k by omega) (by omega);have h5:=q2 p (aA _) (by omega);omega
 refine⟨h.sublist (List.take_sublist _ _),List.pairwise_cons.mpr ⟨Ha,h.sublist (List.drop_sublist _ _)⟩,fun a ha b hb=>?_⟩;rcases aR.mp hb with rfl|hb
 ·exact MZ a ha
 ·exact Nat.lt_trans (MZ a ha) (Ha b hb)
end L2
namespace L2
open PySem PySem.Spec PyProof.Rows
theorem jl{α:Type}:∀(l:List α) (i:Nat) (hi:i<l.length),(l[i]::l.eraseIdx i).Perm l
 |x::r,0,_=>List.Perm.refl _
 |x::r,i+1,hi=>by
  have ih:=jl r i (by simpa using hi);have uZ:i<r.length:=by simpa using hi
  show(r[i]::x::r.eraseIdx i).Perm (x::r);exact(List.Perm.swap _ _ _).trans (ih.cons x)
theorem perm_back{α β:Type}{f:α->β}(g:β->α)(fe:∀p,g (f p)=p){l:List α}{es:List β}(hp:es.Perm (l.map f)):∃l':List α,es=l'.map f/\l'.Perm l:=by
 have h1:∀e∈es,f (g e)=e:=fun e he=>by
  obtain⟨p,_,rfl⟩:=bg.mp (hp.mem_iff.mp he);rw[fe]
 refine⟨es.map g,?_,?_⟩
 ·rw[bj]
  conv=>lhs;rw[<-List.map_id es]
  exact eO fun e he=>(h1 e he).symm
 ·have h2:=hp.map g;rw[bj,show List.map (g∘f) l=l by
   conv=>rhs;rw[<-List.map_id l]
   exact eO fun p _=>fe p]at h2
  exact h2
section
variable {prog:Program}{w:World}{A:Around}{E:Value->Shared->Prop}{s:Shared}
theorem ym{M:Model}{src:Source}{n:Nat}{Q:Nat->Shared->Prop}(hn:n≠0)(h:∀i,i<n->∀d,Q i {s with drawn:=d}):wpAny M A (choose src n) Q E s:=fun Γ p _=>by
 unfold choose;rw[Sem.wp];refine⟨hn,?_⟩;rw[Sem.wp];exact h _ (g0 _ (Nat.pos_of_ne_zero hn)) _
theorem lj{M:Model}{α:Type}:∀(n:Nat) (xs:List α) (s:Shared) (Q:List α->Shared->Prop),xs.length=n->(∀ys d,ys.Perm xs->Q ys {s with drawn:=d})->wpAny M A (drawOrder n xs) Q E s
 |0,xs,s,Q,hl,h=>by
  cases xs with
  |nil=>exact af (h [] s.drawn (List.Perm.refl _))
  |cons _ _=>cases hl
 |n+1,[],s,Q,hl,h=>by cases hl
 |n+1,x::r,s,Q,hl,h=>by
  unfold drawOrder;refine aa (ym (by simp) fun i hi d=>?_);have hx:(x::r)[i]?=some (x::r)[i]:=aI hi
  rw[hx];dsimp only;refine aa (lj n _ _ _ (by rw[p9 hi];simpa using hl) fun ys d' hp=>?_);refine af (h _ d' ?_);exact(hp.cons _).trans (jl _ i hi)
end
abbrev vM(w:World):Bool:=w.params.followText "set-order"
def kW:Key->Tok->Value
 |.inl i,t=>.int i t
 |.inr x,t=>.str x t
theorem Hb{k:Key}{t:Tok}:mJ k (kW k t)=true:=by cases k<;>simp[mJ,kW,Value.isInt,Value.isStrOf]
end L2
namespace L2
open PySem PySem.Spec PyProof.Rows
theorem cg:Slot "set_iterator" "__next__" "set_iterator.__next__":=.of (owner:="set_iterator") (n:="__next__")
 (by rw[mD,l9];kernel_rfl) (by decide+kernel) (by decide+kernel) (by decide+kernel) (by first|exact .inl (by decide+kernel)|exact .inr (by decide+kernel))
 (by rw[isSubtype_type];kernel_rfl)
theorem iW:entryFor table "set_iterator.__next__"=some Builtin.«set_iterator.__next__»:=entryFor_of_tree (by kernel_rfl)
theorem oU:Manifest.owners.lookup (String.ofList ['r', 'o', 't', 'a', 'r', 'e', 't', 'i', '_', 't', 'e', 's'].reverse)=some Manifest.sig_set_iterator:=by kernel_rfl
theorem jt(a:Value):argsOk "set_iterator.__next__" ⟨[a],[]⟩:=by
 unfold argsOk;rw[signature?_of (id:="set_iterator.__next__") (n:=['_', '_', 't', 'x', 'e', 'n', '_', '_']) (o:=['r', 'o', 't', 'a', 'r', 'e', 't', 'i', '_', 't', 'e', 's']) (by kernel_rfl) oU];kernel_rfl
theorem ju:Slot "set_iterator" "__iter__" "set_iterator.__iter__":=.of (owner:="set_iterator") (n:="__iter__")
 (by rw[mD,l9];kernel_rfl) (by decide+kernel) (by decide+kernel) (by decide+kernel) (by first|exact .inl (by decide+kernel)|exact .inr (by decide+kernel))
 (by rw[isSubtype_type];kernel_rfl)
theorem pj:entryFor table "set.__iter__"=some Builtin.«frozenset.__iter__»:=entryFor_alias (id':="frozenset.__iter__") (by kernel_rfl) rfl (by decide+kernel) (by kernel_rfl)
def oV(F:Value)(i:Nat)(a:Addr)(n ep:Nat):Obj:={cls:=.type "set_iterator",dict:=none,data:=.fields #[F,rawInt i,.ref a,rawInt n,rawInt ep],slots:=#[]}
section
variable {prog:Program}{w:World}{A:Around}{E:Value->Shared->Prop}{s:Shared}{I a:Addr}{o:Obj}{es:Array (Int×Value)}{ep:Nat}{t:SetTable}
theorem iq{Q:Array (Int×Value)->Shared->Prop}(ho:s.heap.get? a=some o)(hd:o.data=.set es ep t)(hf:t.fits es.size=true)(h:Q es s):wpAny (model prog w) A (setEntries a) Q E s:=by
 unfold setEntries;exact aa (eR ho hd hf (af h))
theorem rM{α:Type}{R:α->Shared->Prop}(hh:A.handled=none)
  (h:∀h' (x:Addr),Shared.TypeIs {s with heap:=h'} (.ref x) "StopIteration"->(∀b o,s.heap.get? b=some o->h'.get? b=some o)->E (.ref x) {s with heap:=h'}):
  wpAny (model prog w) A.in1 (newExc (.type "StopIteration") []) (fun x s'=>wpAny (model prog w) A.in1 (raiseNew x:Sem α) R E s') E s:=by
 simp only[newExc,newTuple];refine aa (eQ ?_ (by size_fits));refine aa (m:=firstArgMember _ _) (wpAny_of_eq (a:=Value.none) (by first|rfl|(simp only[firstArgMember];rfl)) ?_);refine eQ ?_ (by size_fits)
 simp only[raiseNew];refine aa (wpAny_handled ?_)
 first|rw[show A.in1.handled=none from hh]|rw[hh]
 refine aa (af (wpAny_throw ?_));exact h _ _ ⟨_,aU _ rfl,rfl⟩ fun b o e=>aD _ (aD _ e)
theorem u4{slot i:Nat}{r:Option (Value×Nat)}{Q:Option Value->Shared->Prop}(hh:A.handled=none)(hit:s.heap.get? I=some (oV (rawInt slot) i a es.size ep))(ho:s.heap.get? a=some o)(hd:o.data=.set es ep t)(hf:t.fits es.size=true)
  (hn:∀(B:Around) (E':Value->Shared->Prop) (Q':Option (Value×Nat)->Shared->Prop),Q' r s->wpAny (model prog w) B (setNext a slot i ep) Q' E' s)
  (h1:∀x nx,r=some (x,nx)->∀h',h'.get? I=some (oV (rawInt nx) (i+1) a es.size ep)->Heap.SameBut I s.heap h'->Q (some x) {s with heap:=h'})
  (h2:r=none->∀h',Heap.ExtBut I s.heap h'->Q none {s with heap:=h'}):wpAny (model prog w) A (pyNext (.ref I)) Q E s:=by
 have hT:s.TypeIs (.ref I) "set_iterator":=⟨_,hit,rfl⟩;unfold pyNext;refine aa (gX (h_ (name:=Str.ofString "__next__") hT cg (dy cg hT iW ?_ (jt _))));unfold Builtin.«set_iterator.__next__»;refine aa (m:=slotArgs "__next__" 0 _) (af ?_);refine aa (iH hit rfl ?_);dsimp only;refine aa (iq ho hd hf ?_);rw[ae (by simp)];show wpAny _ _ (setNext a (slot:Int).toNat (i:Int).toNat (ep:Int).toNat>>=_) _ _ s;rw[d0,d0,d0];refine aa (hn _ _ _ ?_);cases r with
 |none=>
  dsimp only;refine aa (jP hit rfl (by show 2<5;decide) ?_);refine aa (rM hh fun h' x hx hk=>?_);refine aa (jN (T:="StopIteration") (b:=true) hx mF ?_);exact af (h2 rfl _ fun b o hb e=>hk b o ((eP s.heap I _).extBut b o hb e))
 |some p=>
  obtain⟨x,nx⟩:=p;dsimp only;refine aa (fO hit (by show 0<5;decide) fun dD C1 kh=>?_);refine aa (fO (s:={s with heap:=dD}) C1 (by show 1<5;decide) fun nV M0 n5=>?_);exact af ⟨_,rfl,af (h1 x nx rfl nV M0 (kh.trans n5))⟩
end
end L2
namespace L2
open PySem PySem.Spec PyProof.Rows
theorem n6:entryFor table "set_iterator.__iter__"=some Builtin.«dict_keyiterator.__iter__»:=entryFor_alias (id':="dict_keyiterator.__iter__") (by kernel_rfl) rfl (by decide+kernel) (by kernel_rfl)
theorem pk(a:Value):argsOk "set_iterator.__iter__" ⟨[a],[]⟩:=by
 unfold argsOk;rw[signature?_of (id:="set_iterator.__iter__") (n:=['_', '_', 'r', 'e', 't', 'i', '_', '_']) (o:=['r', 'o', 't', 'a', 'r', 'e', 't', 'i', '_', 't', 'e', 's']) (by kernel_rfl) oU];kernel_rfl
theorem zz{α:Type}(next:Nat->Nat):∀(fuel k:Nat) (left:List α) (out:Array α),left.length=fuel->(pickOrder.go next fuel k left out).toList.Perm (out.toList++left)
 |0,k,left,out,h=>by
  rw[List.eq_nil_of_length_eq_zero h];simp[pickOrder.go]
 |fuel+1,k,left,out,h=>by
  have hi:next k % left.length<left.length:=g0 _ (by omega)
  unfold pickOrder.go;rw[aI hi];dsimp only;refine(zz next fuel (k+1) _ _ (by rw[p9 hi];omega)).trans ?_
  rw[qH,ib];exact(jl left _ hi).append_left _
theorem A_{α:Type}(next:Nat->Nat)(xs:Array α):(pickOrder next xs).toList.Perm xs.toList:=by
 have h:=zz next xs.size 0 xs.toList #[] (by simp)
 unfold pickOrder;simpa using h
def slotAt(t:SetTable):Nat->Nat
 |0=>0
 |i+1=>t.place.getD i 0+1
theorem rN{t:SetTable}(h:lF t.place):∀{i:Nat},i<=t.place.size->SetTable.below t.place (slotAt t i)=i
 |0,_=>yk h
 |i+1,hi=>yl h hi
section
variable {prog:Program}{w:World}{A:Around}{E:Value->Shared->Prop}{s:Shared}{I a:Addr}{o:Obj}{es:Array (Int×Value)}{ep:Nat}{t:SetTable}
theorem u5{F:Value}{i n e:Nat}{Q:Value->Shared->Prop}(hit:s.heap.get? I=some (oV F i a n e))(h:Q (.ref I) s):wpAny (model prog w) A (pyIter (.ref I)) Q E s:=by
 have hT:s.TypeIs (.ref I) "set_iterator":=⟨_,hit,rfl⟩;refine qY hT ju (dy ju hT n6 ?_ (pk _));show wpAny _ _ (ret (.ref I)) _ _ s;exact af ⟨_,rfl,"set_iterator",_,hT,cg.lookup,h⟩
theorem C2{tp:Addr}{i m:Nat}{ot:Obj}{pl:Array Value}{Q:Option Value->Shared->Prop}(hh:A.handled=none)(hit:s.heap.get? I=some (oV (.ref tp) i a es.size ep))(ho:s.heap.get? a=some o)(hd:o.data=.set es ep t)(hf:t.fits es.size=true)
  (Rt:s.heap.get? tp=some ot) (Pl:ot.data=.seq pl m)
  (h1:∀(p:Nat) (e:Int×Value),pl[i]?=some (rawInt p)->es[p]?=some e->∀h',h'.get? I=some (oV (.ref tp) (i+1) a es.size ep)->Heap.SameBut I s.heap h'->Q (some e.2) {s with heap:=h'})
  (h2:pl[i]?=none->∀h',Heap.ExtBut I s.heap h'->Q none {s with heap:=h'})
  (o8:∀v,pl[i]?=some v->∃(p:Nat) (e:Int×Value),v=rawInt p/\es[p]?=some e):wpAny (model prog w) A (pyNext (.ref I)) Q E s:=by
 have hT:s.TypeIs (.ref I) "set_iterator":=⟨_,hit,rfl⟩;unfold pyNext;refine aa (gX (h_ (name:=Str.ofString "__next__") hT cg (dy cg hT iW ?_ (jt _))));unfold Builtin.«set_iterator.__next__»;refine aa (m:=slotArgs "__next__" 0 _) (af ?_);refine aa (iH hit rfl ?_);dsimp only;refine aa (iq ho hd hf ?_);rw[ae (by simp)];show wpAny _ _ (seqItems? (.ref tp)>>=_) _ _ s;refine aa (eU Rt Pl ?_);dsimp only;rw[d0];cases hv:pl[i]? with
 |none=>
  dsimp only;refine aa (fO hit (by show 0<5;decide) fun dD C1 kh=>?_);refine aa (fO (s:={s with heap:=dD}) C1 (by show 2<5;decide) fun nV M0 n5=>?_);refine aa (rM hh fun h' x hx hk=>?_);refine aa (jN (T:="StopIteration") (b:=true) hx mF ?_);exact af (h2 hv _ fun b o hb e=>hk b o (n5.extBut b o hb (kh.extBut b o hb e)))
 |some v=>
  obtain⟨p,e,rfl,he⟩:=o8 v hv;show wpAny _ _ (setNextDrawn a (p:Int).toNat (ep:Int).toNat>>=_) _ _ s;rw[d0,d0];refine aa ?_
  unfold setNextDrawn;refine aa (eR ho hd hf ?_);dsimp only;rw[ae (by simp),he];dsimp only;refine af ?_
  refine aa (fO hit (by show 1<5;decide) fun dD C1 kh=>?_);exact af ⟨_,rfl,af (h1 p e hv he dD C1 kh)⟩
theorem kQ{Q:Bool->Shared->Prop}(h:Q (vM w) s):wpAny (model prog w) A setsByText Q E s:=by
 unfold setsByText;exact aa (wpAny_askSetting (af h))
theorem t9{slot i:Nat}{Q:Option (Value×Nat)->Shared->Prop}(hb:vM w=true)(ho:s.heap.get? a=some o)(hd:o.data=.set es ep t)(hf:t.fits es.size=true)
  (h:Q (((pickOrder (w.params.setOrder a ep) es)[i]?).map fun e=>(e.2,slot)) s):wpAny (model prog w) A (setNext a slot i ep) Q E s:=by
 unfold setNext;refine aa (eR ho hd hf ?_);dsimp only;refine aa (kQ ?_);rw[hb,ab rfl];simp only[iz,bX,bB];refine aa ?_
 unfold setWalk;refine aa (eR ho hd hf ?_);dsimp only;refine aa (kQ ?_);rw[hb,ab rfl];refine aa (wpAny_askSetting ?_);exact af (af h)
theorem wG{slot i:Nat}{Q:Option (Value×Nat)->Shared->Prop}(hb:vM w=false)(hl:t.led=true)(hz:t.plain=true\/es.size<=1)(ho:s.heap.get? a=some o)(hd:o.data=.set es ep t)(hf:t.fits es.size=true)
  (h:Q (match es[SetTable.below t.place slot]?,t.place[SetTable.below t.place slot]? with
   |some (_,x),some j=>some (x,j+1)
   |_,_=>none) s):wpAny (model prog w) A (setNext a slot i ep) Q E s:=by
 unfold setNext;refine aa (eR ho hd hf ?_);dsimp only;refine aa (kQ ?_);rw[hb];simp only[bX,bB];refine fT (fun sU=>absurd (show(!t.plain&&decide (es.size>1))=true from sU) ?_) (fun _=>?_)
 ·rcases hz with z|z
  ·rw[z];exact cR
  ·rw[aX (p:=es.size>1) (by omega),mw];exact cR
 ·refine aa (m:=(if(!t.led&&!es.isEmpty)=true then unsupported "set:maker-not-led"else pure ())) ?_
  rw[hl,ae (by simp)];exact af (af h)
end
end L2
namespace PySem
section
variable {prog:Program}{w:World}{A:Around}{E:Value->Shared->Prop}{s:Shared}
theorem C3(a:Value){Q₁:Value->Shared->Prop}
  (h:Q₁ (.ref s.heap.objs.size) {s with heap:=s.heap.push {cls:=.type "set",dict:=none,data:=.set #[] 0 (.fresh 0 0 (!L2.vM w))}}):
  codeAny (model prog w) A (.call (.builtin "set.__new__") ⟨[.type "set",a],[]⟩) (wants Q₁ E) s:=by
 refine codeAny_of_tree ?_
 show wpAny _ A.in1 (do checkBuiltinCall "set.__new__" ⟨[.type "set",a],[]⟩;again (.builtin "set.__new__" ⟨[.type "set",a],[]⟩)) _ _ s;refine aa (wpAny_of_eq (F.newCall_set_1 a) (af ⟨eX F.plain_set_new _,fQ F.entry_set_new ?_⟩));rw[gv F.plain_set_new _];unfold Builtin.«set.__new__» Builtin.Frozenset.newClass;have Jp:=sub_set_self;obtain⟨hp,g,d,tk,os⟩:=s;dsimp only
 wp_walk
 refine wpAny_askSetting (af ?_);dsimp only;simp only[newObj];refine aa (wpAny_alloc (af ?_));exact af h
end
end PySem
namespace L2
open PySem PySem.Spec PySem.Calls PyProof.Rows
section
variable {prog:Program}{w:World}{A:Around}{E:Value->Shared->Prop}{s:Shared}{a:Addr}{ss:List Key}
theorem C4{Q:Bool->Shared->Prop}(hT:s.TypeIs (.ref a) "set")(h:Q false s):wpAny (model prog w) A (Builtin.List.listLengthHint (.ref a)) Q E s:=by
 unfold Builtin.List.listLengthHint;refine aa (wpAny_specialOf hT PySem.F.slot_set_len.lookup ?_);generalize aQ:("set.__len__":String)=Vj
 wp_delta
 rw[show splitId Vj=some ("set","__len__")from by subst aQ;decide+kernel];subst aQ;refine aa (jN (T:="set") (b:=true) hT (by rw[isSubtype_type];kernel_rfl) ?_);refine fT (fun sU=>absurd sU (by decide)) (fun _=>?_);refine fT (fun _=>?_) (fun sU=>absurd (by decide+kernel) sU);exact aa (gY hT (af h))
end
end L2
namespace L2
open PySem PySem.Spec PyProof.Rows
theorem Inv.FK {X:Cx}{pins:List (Addr×Obj)}{σ:St}{H:Hp}{s:Shared}(I:Inv X pins σ H s)(d:Drawn):Inv X pins σ H {s with drawn:=d}:=
 I.step (h':=s.heap) (H':=H) (g':=s.gens) (t':=s.toks) (d':=d) (ch:=[]) (fun _ z=>nomatch z) (fun b o _ _ _ e _=>e) (fun b o _ _ _ e _=>⟨o.slots,e⟩) (fun b o _ _ n=>n) (fun b o _ e=>⟨o,e⟩) (fun _ _ e=>e) (fun _ _ _ e=>e)
   (fun b ps e=>⟨#[],by rw[e];simp⟩) (fun m hm=>hm) I.bQ I.bare
end L2
namespace L2
open PySem PySem.Spec PyProof.Rows
section
variable {prog:Program}{w:World}{A:Around}{E:Value->Shared->Prop}{s:Shared}
theorem rO{it t:Addr}{i:Nat}{items:Array Value}{x:Value}{Q:Value->Shared->Prop}(hit:s.heap.IsTupleIter it t i)(ht:s.heap.IsTuple t items)(hx:items[i]?=some x)
  (hQ:∀h',h'.IsTupleIter it t (i+1)->Heap.SameBut it s.heap h'->Q x {s with heap:=h'}):wpAny (model prog w) A (Builtin.SmallTypes.nextOf (.ref it)) Q E s:=by
 have key:wpAny (model prog w) A (pyNext (.ref it)) (fun r s'=>∃v,r=some v/\Q v s') (fun _ _=>False) s:=qm hit ht hx fun h' a b=>⟨x,rfl,hQ h' a b⟩;obtain⟨o,ho,hc,hd⟩:=id hit;obtain⟨ol,K',_,nl,La⟩:=ht;unfold Builtin.SmallTypes.nextOf;refine aa (h_ (name:=Str.ofString "__next__") hit.typeIs lX (dy lX hit.typeIs F.entry_tuple_iterator_next ?_ (F.args_tuple_iterator_next_1 _)));show wpAny _ _ (field (.ref it) 0>>=_) _ _ s;refine aa (eB ho hd (x:=.ref t) rfl ?_);show wpAny _ _ (if(Value.ref t==Value.none)=true then _ else _) _ _ s;rw[ae (show¬((Value.ref t==Value.none)=true)from cR)];show wpAny _ _ (field (.ref it) 1>>=_) _ _ s;refine aa (eB ho hd (x:=.int i 0) rfl ?_);show wpAny _ _ (seqItems? (.ref t)>>=_) _ _ s;refine aa (eU K' La ?_);simp only[d0,hx];refine aa (jP ho hd (by simp) (af ⟨x,rfl,af (hQ _ ?_ (eP ..))⟩));exact⟨_,kK _ ho (Obj.isFreed_of_fields (mi hd _)),(Obj.cls_mapFields ..).trans hc,by rw[mi hd];simp[rawInt]⟩
theorem Ba{it t:Addr}{i:Nat}{items:Array Value}{Q:Value->Shared->Prop}(hh:A.handled=none)(hit:s.heap.IsTupleIter it t i)(ht:s.heap.IsTuple t items)(hx:items[i]?=none)
  (hE:∀h' (e:Addr),Heap.ExtBut it s.heap h'->Shared.TypeIs {s with heap:=h'} (.ref e) "StopIteration"->E (.ref e) {s with heap:=h'}):wpAny (model prog w) A (Builtin.SmallTypes.nextOf (.ref it)) Q E s:=by
 obtain⟨o,ho,hc,hd⟩:=id hit;obtain⟨ol,K',_,nl,La⟩:=ht;unfold Builtin.SmallTypes.nextOf;refine aa (h_ (name:=Str.ofString "__next__") hit.typeIs lX (dy lX hit.typeIs F.entry_tuple_iterator_next ?_ (F.args_tuple_iterator_next_1 _)));show wpAny _ _ (field (.ref it) 0>>=_) _ _ s;refine aa (eB ho hd (x:=.ref t) rfl ?_);show wpAny _ _ (if(Value.ref t==Value.none)=true then _ else _) _ _ s;rw[ae (show¬((Value.ref t==Value.none)=true)from cR)];show wpAny _ _ (field (.ref it) 1>>=_) _ _ s;refine aa (eB ho hd (x:=.int i 0) rfl ?_);show wpAny _ _ (seqItems? (.ref t)>>=_) _ _ s;refine aa (eU K' La ?_);simp only[d0,hx];refine aa (fX (aa (jP ho hd (by simp) ?_)));show wpAny _ _ (newExc (.type "StopIteration") []>>=_) _ _ _;refine aa (rM hh fun h' x Bc hk=>?_);exact hE h' x (fun b o hb e=>hk b o ((eP ..).extBut b o hb e)) Bc
structure ZA(z TI TO i1 i2:Addr):Prop where
 TIz:TI≠z
 TOz:TO≠z
 i1z:i1≠z
 i2z:i2≠z
 TITO:TI≠TO
 TIi1:TI≠i1
 TIi2:TI≠i2
 TOi1:TO≠i1
 TOi2:TO≠i2
 i12:i1≠i2
theorem Bd{z TI TO i1 i2 l1 l2:Addr}{k1 k2:Nat}{xs ys:Array Value}{x y a b:Value}{Q:Option Value->Shared->Prop}(D:ZA z TI TO i1 i2)(hz:IsZip s.heap z TI TO .none)(yn:IsPair s.heap TI (.ref i1) (.ref i2))(Be:IsPair s.heap TO a b)
  (h1:s.heap.IsTupleIter i1 l1 k1) (h2:s.heap.IsTupleIter i2 l2 k2) (EC:s.heap.IsTuple l1 xs) (EW:s.heap.IsTuple l2 ys) (d1:l1≠z/\l1≠TO/\l1≠i1/\l1≠i2) (d2:l2≠z/\l2≠TO/\l2≠i1/\l2≠i2) (hx:xs[k1]?=some x) (hy:ys[k2]?=some y)
  (hQ:∀h',IsZip h' z TI TO (rawInt s.heap.objs.size)->IsPair h' TO x y->h'.IsTupleIter i1 l1 (k1+1)->h'.IsTupleIter i2 l2 (k2+1)->IsPair h' s.heap.objs.size x y->
   (∀c o,c≠z->c≠TO->c≠i1->c≠i2->s.heap.get? c=some o->h'.get? c=some o)->Q (some (.ref s.heap.objs.size)) {s with heap:=h'}):wpAny (model prog w) A (pyNext (.ref z)) Q E s:=by
 have hT:s.TypeIs (.ref z) "zip":=⟨_,hz,rfl⟩;unfold pyNext;refine aa (gX (h_ (name:=Str.ofString "__next__") hT mE (dy mE hT F.entry_zip_next ?_ (F.args_zip_next_1 _))));show wpAny _ _ (field (.ref z) 2>>=_) _ _ _;refine aa (eB hz rfl (x:=.bool false) rfl ?_);show wpAny _ _ (field (.ref z) 3>>=_) _ _ _;refine aa (eB hz rfl (x:=.ref TI) rfl (aa (eU yn rfl ?_)));show wpAny _ _ (Builtin.SmallTypes.ownedTupleIsFree (.ref z)>>=_) _ _ _;refine aa ?_
 unfold Builtin.SmallTypes.ownedTupleIsFree;refine aa (eB hz rfl (x:=.none) rfl (af ?_));simp only[fY];refine aa (fX (aa (eB hz rfl (x:=.ref TO) rfl ?_)));refine aa (fO hz (by simp) fun dD rP kh=>?_);replace rP:IsZip dD z TI TO .ellipsis:=rP;refine aa ?_
 simp only[List.zipIdx_cons,List.zipIdx_nil,qQ,List.forIn_nil];refine aa (aa (wpAny_onRaise ?_));show wpAny _ _ (Builtin.SmallTypes.nextOf (.ref i1)>>=_) _ _ _;refine aa (rO (s:={s with heap:=dD}) (h1.extBut kh.extBut D.i1z) (EC.extBut kh.extBut d1.1) hx fun nV M1 n5=>af ?_);have C5:IsPair nV TO a b:=n5.extBut _ _ D.TOi1 (kh.extBut _ _ D.TOz Be);refine aa (eU C5 rfl (aa (wpAny_updateSeq_pair C5 fun wg yo u6=>?_)));replace yo:IsPair wg TO x b:=yo;refine aa (wpAny_letGo (af (aa (aa (wpAny_onRaise ?_)))));show wpAny _ _ (Builtin.SmallTypes.nextOf (.ref i2)>>=_) _ _ _;refine aa (rO (s:={s with heap:=wg}) (((h2.extBut kh.extBut D.i2z).extBut n5.extBut D.i12.symm).extBut u6.extBut D.TOi2.symm) (((EW.extBut kh.extBut d2.1).extBut n5.extBut d2.2.2.1).extBut u6.extBut d2.2.1) hy fun IQ M3 C6=>af ?_);have C7:IsPair IQ TO x b:=C6.extBut _ _ D.TOi2 yo;refine aa (eU C7 rfl (aa (wpAny_updateSeq_pair C7 fun k_ u7 C8=>?_)));replace u7:IsPair k_ TO x y:=u7;refine aa (wpAny_letGo (af (af ?_)));refine aa (eU u7 rfl (aa (mG ?_)));have hsz:k_.objs.size=s.heap.objs.size:=by rw[C8.1,C6.1,u6.1,n5.1,kh.1]
 have Hc:IsZip k_ z TI TO .ellipsis:=C8.extBut _ _ D.TOz.symm (C6.extBut _ _ D.i2z.symm (u6.extBut _ _ D.TOz.symm (n5.extBut _ _ D.i1z.symm rP)));have M4:∀c o,c≠z->c≠TO->c≠i1->c≠i2->s.heap.get? c=some o->k_.get? c=some o:=fun c o c1 c2 c3 c4 e=>C8.extBut _ _ c2 (C6.extBut _ _ c4 (u6.extBut _ _ c2 (n5.extBut _ _ c3 (kh.extBut _ _ c1 e))));have M5:k_.IsTupleIter i1 l1 (k1+1):=((M1.extBut u6.extBut D.TOi1.symm).extBut C6.extBut D.i12).extBut C8.extBut D.TOi1.symm;have M6:k_.IsTupleIter i2 l2 (k2+1):=M3.extBut C8.extBut D.TOi2.symm;have M7:z<k_.objs.size:=ax Hc;show wpAny _ _ (Builtin.SmallTypes.ownedTupleHandOut (.ref z) (.ref k_.objs.size)>>=_) _ _ _;refine aa ?_
 unfold Builtin.SmallTypes.ownedTupleHandOut;have M8:IsZip (k_.push {cls:=.type "tuple",data:=.seq #[x,y]}) z TI TO .ellipsis:=aD _ Hc;refine aa (fO M8 (by simp) fun Ru C9 M9=>?_);replace C9:IsZip Ru z TI TO (rawInt k_.objs.size):=C9;refine fO C9 (by simp) fun FL zA M_=>?_
 replace zA:IsZip FL z TI TO (rawInt k_.objs.size):=zA;have up:∀c o,c≠z->k_.get? c=some o->FL.get? c=some o:=fun c o c1 e=>M_.extBut _ _ c1 (M9.extBut _ _ c1 (aD _ e));have Hd:IsPair FL k_.objs.size x y:=M_.extBut _ _ (cn M7) (M9.extBut _ _ (cn M7) (aU _ rfl));rw[hsz]at zA Hd;refine af ⟨_,rfl,af ?_⟩;show Q (some (.ref k_.objs.size)) _;rw[hsz];exact hQ FL zA (up _ _ D.TOz u7) (M5.at fun o e=>up _ o D.i1z e) (M6.at fun o e=>up _ o D.i2z e) Hd fun c o c1 c2 c3 c4 e=>up c o c1 (M4 c o c1 c2 c3 c4 e)
theorem C_{z TI TO i1 i2 l1:Addr}{k1:Nat}{xs:Array Value}{a b:Value}{Q:Option Value->Shared->Prop}(hh:A.handled=none)(D:ZA z TI TO i1 i2)(hz:IsZip s.heap z TI TO .none)(yn:IsPair s.heap TI (.ref i1) (.ref i2))(Be:IsPair s.heap TO a b)
  (h1:s.heap.IsTupleIter i1 l1 k1) (EC:s.heap.IsTuple l1 xs) (d1:l1≠z) (hx:xs[k1]?=none)
  (hQ:∀h',(∀c o,c≠z->c≠i1->s.heap.get? c=some o->h'.get? c=some o)->Q none {s with heap:=h'}):wpAny (model prog w) A (pyNext (.ref z)) Q E s:=by
 have hT:s.TypeIs (.ref z) "zip":=⟨_,hz,rfl⟩;unfold pyNext;refine aa (gX (h_ (name:=Str.ofString "__next__") hT mE (dy mE hT F.entry_zip_next ?_ (F.args_zip_next_1 _))));show wpAny _ _ (field (.ref z) 2>>=_) _ _ _;refine aa (eB hz rfl (x:=.bool false) rfl ?_);show wpAny _ _ (field (.ref z) 3>>=_) _ _ _;refine aa (eB hz rfl (x:=.ref TI) rfl (aa (eU yn rfl ?_)));show wpAny _ _ (Builtin.SmallTypes.ownedTupleIsFree (.ref z)>>=_) _ _ _;refine aa ?_
 unfold Builtin.SmallTypes.ownedTupleIsFree;refine aa (eB hz rfl (x:=.none) rfl (af ?_));simp only[fY];refine aa (fX (aa (eB hz rfl (x:=.ref TO) rfl ?_)));refine aa (fO hz (by simp) fun dD rP kh=>?_);replace rP:IsZip dD z TI TO .ellipsis:=rP;refine aa ?_
 simp only[List.zipIdx_cons,List.zipIdx_nil,qQ,List.forIn_nil];refine aa (aa (wpAny_onRaise ?_));show wpAny _ _ (Builtin.SmallTypes.nextOf (.ref i1)>>=_) _ _ _;refine aa (Ba (s:={s with heap:=dD}) hh (h1.extBut kh.extBut D.i1z) (EC.extBut kh.extBut d1) hx fun nV e n5 he=>?_);have He:IsZip nV z TI TO .ellipsis:=n5 _ _ D.i1z.symm rP;obtain⟨oe,TM,TN⟩:=he;have Vk:e≠z:=fun q=>by
  have M':nV.get? e=some oe:=TM;rw[q,He]at M';cases M';simp at TN
 refine fO (s:={s with heap:=nV}) He (by simp) fun wg _ u6=>?_
 refine aa (jN (s:={s with heap:=wg}) (T:="StopIteration") (b:=true) ⟨oe,u6.extBut _ _ Vk TM,TN⟩ mF ?_);exact af (hQ wg fun c o c1 c2 q=>u6.extBut _ _ c1 (n5 _ _ c2 (kh.extBut _ _ c1 q)))
end
end L2
namespace PySem
abbrev Pm(h:Heap)(l1:Addr):Heap:=h.push {cls:=.type "tuple_iterator",data:=.fields #[.ref l1,.int 0 0]}
abbrev Po(h:Heap)(l1 l2:Addr):Heap:=(Pm h l1).push {cls:=.type "tuple_iterator",data:=.fields #[.ref l2,.int 0 0]}
abbrev Pp(h:Heap)(l1 l2:Addr):Heap:=(Po h l1 l2).push {cls:=.type "tuple",data:=.seq #[.ref h.objs.size,.ref (Pm h l1).objs.size]}
abbrev Pq(h:Heap)(l1 l2:Addr):Heap:=(Pp h l1 l2).push {cls:=.type "tuple",data:=.seq #[.none,.none]}
abbrev Lb(h:Heap)(l1 l2:Addr):Heap:=(Pq h l1 l2).push {cls:=.type "zip",data:=.fields #[.none,.bool false,.bool false,.ref (Po h l1 l2).objs.size,.ref (Pp h l1 l2).objs.size]}
theorem yp(l1 l2:Addr)(xs ys:Array Value):Meets (Builtin.«zip.__new__» ⟨[.type "zip",.ref l1,.ref l2],[]⟩)
  (fun _ R s=>s.heap.IsTuple l1 xs/\s.heap.IsTuple l2 ys/\R (.ok (.ret (.ref (Pq s.heap l1 l2).objs.size))) {s with heap:=Lb s.heap l1 l2}):=
 .of_wp fun prog w A R s h=>by
  obtain⟨hp,g,d,tk,os⟩:=s;obtain⟨EC,EW,h⟩:=h;have Jp:=sub_zip;have Na:Heap.IsTuple (Shared.heap ⟨hp,g,d,tk,os⟩) l1 xs:=EC;have Vl:Heap.IsTuple (Shared.heap ⟨hp.push {cls:=.type "tuple_iterator",data:=.fields #[.ref l1,.int 0 0]},g,d,tk,os⟩) l2 ys:=EW.at fun o e=>aD _ e
  wp_walk using jH Na,jH Vl
  exact⟨_,rfl,h⟩
section
variable {prog:Program}{w:World}{A:Around}{E:Value->Shared->Prop}{s:Shared}
theorem Bf{l1 l2:Addr}{xs ys:Array Value}{Q:Value->Shared->Prop}(EC:s.heap.IsTuple l1 xs)(EW:s.heap.IsTuple l2 ys)
  (h:∀h',IsZip h' (s.heap.objs.size+4) (s.heap.objs.size+2) (s.heap.objs.size+3) .none->IsPair h' (s.heap.objs.size+2) (.ref s.heap.objs.size) (.ref (s.heap.objs.size+1))->
   IsPair h' (s.heap.objs.size+3) .none .none->h'.IsTupleIter s.heap.objs.size l1 0->h'.IsTupleIter (s.heap.objs.size+1) l2 0->(∀c o,s.heap.get? c=some o->h'.get? c=some o)->Q (.ref (s.heap.objs.size+4)) {s with heap:=h'}):
  wpAny (model prog w) A (call (.type "zip") [.ref l1,.ref l2]) Q E s:=by
 refine callType_new F.called_zip (by decide) (F.typeCall_zip_2 _ _) (F.newCall_zip_2 _ _) (fun obj=>F.args_object_init_3 obj _ _) F.entry_zip_new (yp l1 l2 xs ys) ⟨EC,EW,?_⟩;have z1:(Pm s.heap l1).objs.size=s.heap.objs.size+1:=gW ..;have z2:(Po s.heap l1 l2).objs.size=s.heap.objs.size+2:=by rw[gW,z1]
 have z3:(Pp s.heap l1 l2).objs.size=s.heap.objs.size+3:=by rw[gW,z2]
 have z4:(Pq s.heap l1 l2).objs.size=s.heap.objs.size+4:=by rw[gW,z3]
 have up:∀{h:Heap} {c:Addr} {o o':Obj},h.get? c=some o->(h.push o').get? c=some o:=fun e=>aD _ e;have g5:(Lb s.heap l1 l2).get? (Pq s.heap l1 l2).objs.size=some _:=aU _ rfl;have g4:(Lb s.heap l1 l2).get? (Pp s.heap l1 l2).objs.size=some _:=up (aU _ rfl);have g3:(Lb s.heap l1 l2).get? (Po s.heap l1 l2).objs.size=some _:=up (up (aU _ rfl));have g2:(Lb s.heap l1 l2).get? (Pm s.heap l1).objs.size=some _:=up (up (up (aU _ rfl)));have g1:(Lb s.heap l1 l2).get? s.heap.objs.size=some _:=up (up (up (up (aU _ rfl))));show _/\_;rw[z2,z3,z4]at g5;rw[z1,z2]at g3;rw[z3]at g4;rw[z1]at g2;rw[z4];exact⟨⟨_,g5,rfl⟩,h _ g5 g3 g4 ⟨_,g1,rfl,rfl⟩ ⟨_,g2,rfl,rfl⟩ fun c o x=>up (up (up (up (up x))))⟩
end
end PySem
namespace L2
open PySem PySem.Spec PyProof.Rows
section
variable {X:Cx}{pins:List (Addr×Obj)}{σ:St}{H:Hp}{s:Shared}{h':Heap}
theorem hZ.apart {a b:Addr}{xs:List V}(I:Inv X pins σ H s)(h:hZ X.K H a xs)(f:jy X pins H b):a≠b:=by
 rcases h with(h|⟨o,h⟩)|⟨o,aY,n,hk,_⟩
 ·exact aN h f.1
 ·exact aN h f.1
 ·intro e;subst e;have hb:=I.ok.mod.LA a o hk;rcases f.2.2.2.1 with q|q
  ·exact I.ok.AJ a o hb q
  ·exact absurd (bA (ax (I.ok.bs a o hb).1) q) (cJ _)
theorem Inv.Bg {ch:List Addr}{T:Addr}{o:HO}{t':Nat}(I:Inv X pins σ H s)(sZ:∀b∈ch,jy X pins H b)(k:∀b o,b∉ch->s.heap.get? b=some o->h'.get? b=some o)(hT:s.heap.objs.size<=T)
  (new:bu X.prog X.w (upd H T o) h' T o):Inv X pins σ (upd H T o) {s with heap:=h',toks:=t'}:=by
 have Hf:H T=none:=I.bQ.fresh hT;have Ce:∀b u,H b=some u->b∉ch:=fun b u e m=>by rw[(sZ b m).1]at e;cases e
 refine I.step (g':=s.gens) (d':=s.drawn) (ch:=ch) (fun b hb=>?_) (fun b o _ _ hc e _=>k b o hc e) (fun b o _ _ hc e _=>⟨o.slots,k b o hc e⟩) (fun b o _ e n=>?_) (fun b o hc e=>⟨o,k b o hc e⟩) (fun b xs e=>?_) (fun b o u e=>?_) (fun b ps e=>⟨#[],?_⟩) (fun m hm=>?_) (fun b u e=>?_) I.bare
 ·obtain⟨_,x1,_,x3,x4,x5⟩:=sZ b hb;exact⟨x3,x1,x4,x5⟩
 ·rw[ak (aS (bA (ax e) hT))];exact n
 ·rw[ak (aN e Hf)];exact e
 ·rw[ak (aN e Hf)];exact e
 ·rw[ak (aN e Hf),e];simp
 ·exact hm.at' fun o e=>k _ o (fun z=>(sZ _ z).2.1 rfl) e
 ·by_cases hb:b=T
  ·subst hb;rw[aH]at e;cases e;exact new
  ·rw[ak hb]at e;refine(I.bQ b u e).ly (fun c v hc q=>k c v ?_ q) (fun c q=>by rw[ak (aN q Hf)];exact q) fun c xs q=>by rw[ak (aN q Hf)];exact q
   rcases hc with rfl|hc
   ·exact Ce c u e
   ·exact Ce c _ hc
theorem Inv.Bh {ch:List Addr}{t':Nat}(I:Inv X pins σ H s)(sZ:∀b∈ch,jy X pins H b)(k:∀b o,b∉ch->s.heap.get? b=some o->h'.get? b=some o):Inv X pins σ H {s with heap:=h',toks:=t'}:=by
 have Ce:∀b u,H b=some u->b∉ch:=fun b u e m=>by rw[(sZ b m).1]at e;cases e
 refine I.step (g':=s.gens) (d':=s.drawn) (ch:=ch) (fun b hb=>?_) (fun b o _ _ hc e _=>k b o hc e) (fun b o _ _ hc e _=>⟨o.slots,k b o hc e⟩) (fun b o _ e n=>n) (fun b o hc e=>⟨o,k b o hc e⟩) (fun b xs e=>e) (fun b o u e=>e) (fun b ps e=>⟨#[],by rw[e];simp⟩) (fun m hm=>?_) (fun b u e=>?_) I.bare
 ·obtain⟨_,x1,_,x3,x4,x5⟩:=sZ b hb;exact⟨x3,x1,x4,x5⟩
 ·exact hm.at' fun o e=>k _ o (fun z=>(sZ _ z).2.1 rfl) e
 ·refine(I.bQ b u e).ly (fun c v hc q=>k c v ?_ q) (fun c q=>q) fun c xs q=>q;rcases hc with rfl|hc
  ·exact Ce c u e
  ·exact Ce c _ hc
end
def Rv(K:PySem.W.Frag)(a b:Addr):It:=
 ⟨fun i H=>∃xs ys x y,hZ K H a xs/\hZ K H b ys/\xs[i]?=some x/\ys[i]?=some y,
  fun i H v H'=>∃T x y,v=.ref T/\H T=none/\H'=upd H T (.tup [x,y])/\(∀xs,hZ K H a xs->xs[i]?=some x)/\(∀ys,hZ K H b ys->ys[i]?=some y),
  fun i H=>∃xs,hZ K H a xs/\xs.length<=i⟩
theorem Nb{G:Prop}(k:∀P:Prop,(G->P)->P):G:=k G id
theorem C'{P:Program}{w:World}{K:PySem.W.Frag}{es:List Expr}{x1:Nat}{pos:Pos}{z TI TO i1 i2 a b:Addr}(D:ZA z TI TO i1 i2):
  Turn P w K (.Tuple es x1 pos) (Rv K a b) [z,TI,TO,i1,i2] z (fun i h=>IsZip h z TI TO .none/\IsPair h TI (.ref i1) (.ref i2)/\(∃p q,IsPair h TO p q)/\h.IsTupleIter i1 a i/\h.IsTupleIter i2 b i) where
 mem:=by simp
 obj:=fun i h st c hc=>by
  obtain⟨hz,yn,⟨p,q,Be⟩,⟨o1,e1,c1,d1⟩,⟨o2,e2,c2,d2⟩⟩:=st;simp only[aR,eS,dC]at hc;rcases hc with rfl|rfl|rfl|rfl|rfl
  ·exact⟨_,hz,fun v e=>by cases(show Data.fields _=Data.cell v from e)⟩
  ·exact⟨_,yn,fun v e=>by cases(show Data.seq _ _=Data.cell v from e)⟩
  ·exact⟨_,Be,fun v e=>by cases(show Data.seq _ _=Data.cell v from e)⟩
  ·exact⟨o1,e1,fun v e=>by rw[d1]at e;cases e⟩
  ·exact⟨o2,e2,fun v e=>by rw[d2]at e;cases e⟩
 keep:=fun i h h' st k=>by
  obtain⟨hz,yn,⟨p,q,Be⟩,h1,h2⟩:=st;exact⟨k z (by repeat constructor) _ hz,k TI (by repeat constructor) _ yn,⟨p,q,k TO (by repeat constructor) _ Be⟩,h1.at fun o e=>k i1 (by repeat constructor) o e,h2.at fun o e=>k i2 (by repeat constructor) o e⟩
 item:=by
  intro X hP hw hK hc i pins s σ H E I hf st hg;subst hP hw hK;refine Nb fun P go=>?_
  obtain⟨xs,ys,x,y,Lc,Jq,hx,hy⟩:=hg;obtain⟨hz,yn,⟨p,q,Be⟩,h1,h2⟩:=st;obtain⟨Dc,Pr,p1,_⟩:=I.tuple Lc;obtain⟨v9,B7,p2,_⟩:=I.tuple Jq;obtain⟨u1,Vm,Vn⟩:=Pr.get hx;obtain⟨u2,Vo,Vp⟩:=B7.get hy;have Pt:∀c∈[z,TI,TO,i1,i2],a≠c:=fun c m=>Lc.apart I (hf c m);have Pu:∀c∈[z,TI,TO,i1,i2],b≠c:=fun c m=>Jq.apart I (hf c m);refine go ?_
  refine Bd D hz yn Be h1 h2 (show s.heap.IsTuple a Dc.toArray from p1) (show s.heap.IsTuple b v9.toArray from p2) ⟨Pt _ (by repeat constructor),Pt _ (by repeat constructor),Pt _ (by repeat constructor),Pt _ (by repeat constructor)⟩ ⟨Pu _ (by repeat constructor),Pu _ (by repeat constructor),Pu _ (by repeat constructor),Pu _ (by repeat constructor)⟩
   (x:=u1) (y:=u2) (by simpa using Vm) (by simpa using Vo) fun dD g1 g2 g3 g4 g5 kk=>?_
  refine⟨_,rfl,wpAny_letOwnedTupleGo_zip g1 fun nV k1 sb=>?_⟩;have lt:∀{c:Addr} {o:Obj},s.heap.get? c=some o->s.heap.objs.size≠c:=fun e=>cn (ax e);have Vq:s.heap.objs.size≠z:=lt hz;have up:∀c o,c∉[z,TO,i1,i2]->s.heap.get? c=some o->nV.get? c=some o:=fun c o m e=>by
   simp only[aR,eS,dC,not_or]at m;exact sb.extBut _ _ m.1 (kk c o m.1 m.2.1 m.2.2.1 m.2.2.2 e)
  have IG:IsPair nV s.heap.objs.size u1 u2:=sb.extBut _ _ Vq g5;refine⟨.ref s.heap.objs.size,_,I.Bg (t':=s.toks) (ch:=[z,TO,i1,i2]) (T:=s.heap.objs.size) (o:=.tup [x,y]) (fun c m=>hf c ?_) up (aA _) ⟨by show 2<=sizeLine;decide,[u1,u2],.cons Vn (.cons Vp .nil),⟨_,IG,rfl,_,rfl,rfl⟩⟩,rfl,
   ⟨s.heap.objs.size,x,y,rfl,I.fresh,rfl,fun Vr h=>by rw[I.kL h Lc];exact hx,fun Xq h=>by rw[I.kL h Jq];exact hy⟩,
   ⟨k1,sb.extBut _ _ D.TIz (kk _ _ D.TIz D.TITO D.TIi1 D.TIi2 yn),⟨u1,u2,sb.extBut _ _ D.TOz g2⟩,g3.extBut sb.extBut D.i1z,g4.extBut sb.extBut D.i2z⟩,fun c m=>?_⟩
  ·simp only[aR,eS,dC]at m;rcases m with rfl|rfl|rfl|rfl<;>repeat constructor
  ·rw[ak ?_]
   ·exact(hf c m).1
   ·simp only[aR,eS,dC]at m;obtain⟨o1,e1,_⟩:=h1;obtain⟨o2,e2,_⟩:=h2;rcases m with rfl|rfl|rfl|rfl|rfl
    ·exact(lt hz).symm
    ·exact(lt yn).symm
    ·exact(lt Be).symm
    ·exact(lt e1).symm
    ·exact(lt e2).symm
 done:=by
  intro X hP hw hK hc i pins s σ H E I hf st hg;subst hP hw hK;obtain⟨xs,Lc,hx⟩:=hg;obtain⟨hz,yn,⟨p,q,Be⟩,h1,h2⟩:=st;obtain⟨Dc,Pr,p1,_⟩:=I.tuple Lc;have hl:=Pr.length;refine C_ (I.ok.hd hc) D hz yn Be h1 (show s.heap.IsTuple a Dc.toArray from p1) (Lc.apart I (hf z (by repeat constructor))) (by simp;omega) fun h' kk=>⟨rfl,?_⟩;refine I.Bh (t':=s.toks) (ch:=[z,i1]) (fun c m=>hf c ?_) fun c o m e=>?_
  ·simp only[aR,eS,dC]at m⊢;rcases m with h|h<;>simp[h]
  ·simp only[aR,eS,dC,not_or]at m;exact kk c o m.1 m.2 e
 self:=fun _ _ _ _ _ st h=>wpAny_pyIter_zip st.1 h
theorem Jr(n:Nat):ZA (n+4) (n+2) (n+3) n (n+1):=⟨aS (by omega),aS (by omega),aS (by omega),aS (by omega),aS (by omega),cn (by omega),cn (by omega),cn (by omega),cn (by omega),aS (by omega)⟩
def Rw(K:PySem.W.Frag)(ta:TA):TI:=fun σ H R=>ta σ H fun vs H1=>∃a b xs ys,vs=[.ref a,.ref b]/\hZ K H1 a xs/\hZ K H1 b ys/\R (Rv K a b) H1
theorem Bi:bootBuiltins "zip"=some (.type "zip"):=by decide+kernel
theorem Js{X:Cx}{es:List Expr}{x1:Nat}{v5:Pos}{a b:Expr}{ta:TA}{p pos:Pos}(hg:Gl X "zip")(hm:X.mg "zip"=none)(ha:PA X [a,b] ta)(hs:starEach [a,b] X.env=[(false,eval a X.env),(false,eval b X.env)]:=by rfl) (TQ:starEach [b] X.env=[(false,eval b X.env)]:=by rfl):
  PI X (.Tuple es x1 v5) (.Call (.Name "zip" p) [a,b] [] pos) (Rw X.K ta):=by
 intro pins s σ H R I h;refine Call_ (nQ I hg hm Bi (p8 (dY (ha pos pins s σ H _ I h) fun us s1 ⟨vs,H1,I1,r1,q1⟩=>?_) (by rw[hs,TQ]) (by rw[TQ];rfl)));obtain⟨c,d,xs,ys,e,hc,hd,q⟩:=q1;subst e;obtain⟨u,v,rfl,ru,rv⟩:=vals2 r1;cases(show u=Value.ref c from ru);cases(show v=Value.ref d from rv);obtain⟨Dc,Pr,p1,_⟩:=I1.tuple hc;obtain⟨v9,B7,p2,_⟩:=I1.tuple hd;refine Bf (show s1.heap.IsTuple c Dc.toArray from p1) (show s1.heap.IsTuple d v9.toArray from p2) fun h' hz yn Be g1 g2 kk=>?_
 have I2:Inv X pins σ H1 {s1 with heap:=h'}:=I1.kept (t':=s1.toks) kk;refine wpAny_pyIter_zip hz ⟨s1.heap.objs.size+4,[s1.heap.objs.size+4,s1.heap.objs.size+2,s1.heap.objs.size+3,s1.heap.objs.size,s1.heap.objs.size+1],_,_,H1,rfl,I2,C' (Jr _),⟨hz,yn,⟨_,_,Be⟩,g1,g2⟩,fun b m=>?_,q⟩;have hb:s1.heap.objs.size<=b:=by
  simp only[aR,eS,dC]at m;rcases m with rfl|rfl|rfl|rfl|rfl
  ·exact iD _ 4
  ·exact iD _ 2
  ·exact iD _ 3
  ·exact aA _
  ·exact iD _ 1
 exact I1.uK hb (I1.bQ.fresh hb)
end L2
namespace L2
open PySem PySem.Spec PyProof.Rows
def Bj(us ws:List Tr):List Tr:=List.zipWith (fun a b=>.tup [a,b]) us ws
section
variable {X:Cx}{a b e:Expr}{pos p v5:Pos}{L:av->Rs (List Tr)}{es:List Expr}{x1:Nat}
theorem Bk{K:PySem.W.Frag}{B:bP}{H:Hp}{a b:Addr}{vs ws:List V}{ts us:List Tr}(h:hZ K (aQ B H) a vs)(r:aL K (aQ B H) vs ts)(h2:hZ K (aQ B H) b ws)(r2:aL K (aQ B H) ws us)(hl:ts.length<=us.length):js K B (Rv K a b) H (Bj ts us) where
 go:=fun i B' H' hi s hb=>by
  have uZ:i<ts.length:=by unfold Bj at hi;rw[qw]at hi;omega
  have hv:i<vs.length:=by rw[r.length];exact uZ
  have hw:i<ws.length:=by rw[r2.length];omega
  exact⟨vs,ws,vs[i],ws[i],au.tup aG (s.h.tup h),au.tup aG (s.h.tup h2),by simp[hv],by simp[hw]⟩
 xU:=fun i B' H' x Ff hi s hb ⟨T,y,z,e1,e2,e3,q,q2⟩=>by
  subst e1 e3;obtain⟨t,et,rt⟩:=r.ye (q vs (au.tup aG (s.h.tup h)));obtain⟨u,eu,ru⟩:=r2.ye (q2 ws (au.tup aG (s.h.tup h2)));refine⟨au.upd e2,.tup [t,u],by unfold Bj;rw[List.getElem?_zipWith,et,eu],.tup (hb.new e2) (.cons ((rt.same s).same (ba (au.upd e2))) (.cons ((ru.same s).same (ba (au.upd e2))) .nil))⟩
 stop:=fun B' H' s=>⟨vs,au.tup aG (s.h.tup h),by unfold Bj;rw[qw,r.length];omega⟩
def Rx(l:Rs (List Tr)):Rs (List Tr):=l.bind fun ts=>match ts with
 |[.tup us,.tup ws]=>if us.length<=ws.length then .ok (Bj us ws)else .bad
 |_=>.bad
theorem Nc(hm:X.mg "zip"=none)(ha:PA X [a,b] (zi X L))(hg:Gl X "zip":=by rfl) (hs:bq [a,b]=true:=by rfl):PI X (.Tuple es x1 v5) (.Call (.Name "zip" p) [a,b] [] pos) (tI X fun ρ=>Rx (L ρ)):=
 (Js hg hm ha (by rw[br _ _ (aO hs).1,br _ _ (aO (aO hs).2).1];rfl) (by rw[br _ _ (aO (aO hs).2).1];rfl)).weak fun σ H R ⟨B,ρ,hb,r,q⟩=>⟨B,ρ,hb,r,q.bind.mono fun ts qt vs H1 s1 r1=>by
  split at qt
  ·obtain⟨x,y,e,h1,h2⟩:=rA r1;obtain⟨_,_,rfl,h,rr⟩:=h1.cZ;obtain⟨_,_,rfl,h',wC⟩:=h2.cZ;split at qt
   ·rename_i hl;exact⟨_,_,_,_,e,au.tup aG h,au.tup aG h',qt _ H1 s1 (Bk h rr h' wC hl)⟩
   ·exact qt.elim
  ·exact qt.elim⟩
variable {F:av->Rs Tr}
def pq:List Tr->Rs (List String)
 |[]=>.ok []
 |.ty n::ts=>(pq ts).bind fun ns=>.ok (n::ns)
 |_::_=>.bad
theorem zB:∀{ts:List Tr} {ns:List String},pq ts=.ok ns->ts=ns.map Tr.ty
 |[],ns,h=>by cases h;rfl
 |t::ts,ns,h=>by
  cases t with
  |ty n=>
   cases e:pq ts with
   |ok ms=>
    rw[pq,e]at h;cases h;rw[zB e];rfl
   |exc c=>rw[pq,e]at h;cases h
   |bad=>rw[pq,e]at h;cases h
  |_=>cases h
theorem wH:∀{ts:List Tr} {c:Tr},pq ts≠ .exc c
 |[],c,h=>by cases h
 |t::ts,c,h=>by
  cases t with
  |ty n=>
   cases e:pq ts with
   |ok ms=>rw[pq,e]at h;cases h
   |exc c'=>exact wH e
   |bad=>rw[pq,e]at h;cases h
  |_=>cases h
theorem wI{K:PySem.W.Frag}{H:Vw}:∀{ns:List String} {vs:List V},aL K H vs (ns.map Tr.ty)->vs=ns.map V.ty
 |[],_,r=>by cases r;rfl
 |n::ns,_,r=>by
  cases r with
  |cons h r=>cases h;rw[wI r];rfl
theorem zC(K:PySem.W.Frag)(a:String)(ha:a∈["NoneType","bool","int","str","tuple","list","dict"]):∀(cs:List String),(∀c∈cs,c∈kinds)->PySem.W.kitAny K (.type a) (cs.map Value.type)=some (cs.any fun c=>a==c||(a=="bool"&&c=="int"))
 |[],_=>rfl
 |c::cs,h=>by
  have ih:=zC K a ha cs fun d m=>h d (aV _ m);have k1:=zx K a ha c (h c (aW ..));rw[ay,PySem.W.kitAny,k1,ih,gV];cases(a==c||(a=="bool"&&c=="int"))<;>rfl
def Hg:List Tr->Rs Tr
 |[t,.tup cs]=>(pq cs).bind fun ns=>if TL t=true/\ns.all (fun c=>kinds.contains c)=true then .ok (.bl (ns.any (Pj t)))else .bad
 |_=>.bad
theorem Nd{K:PySem.W.Frag}{W:Vw}{H:Hp}{x:V}{t:Tr}(r:Rep K W x t)(f:TL t=true):rJ t∈["NoneType","bool","int","str","tuple","list","dict"]/\GU x=true/\mN K H x (.type (rJ t)):=by
 cases r with
 |cq=>exact⟨.head _,rfl,.cq⟩
 |bl b=>exact⟨.tail _ (.head _),rfl,.bl b⟩
 |int i=>exact⟨.tail _ (.tail _ (.head _)),rfl,.int i⟩
 |str z _=>exact⟨.tail _ (.tail _ (.tail _ (.head _))),rfl,.str z⟩
 |_=>cases f
theorem Jt:g9 X (.builtin "isinstance") Hg:=by
 intro pins s σ H xs us Q I rv ⟨B,ts,hb,r,q⟩;unfold Hg at q;split at q
 ·rename_i t cs;obtain⟨x1,x2,rfl,h1,h2⟩:=rA r;obtain⟨a,vs,rfl,h,rr⟩:=h2.cZ;cases e:pq cs with
  |exc c=>exact(wH e).elim
  |bad=>rw[e]at q;exact(show False from q).elim
  |ok ns=>
   rw[e]at q;have f:=fh q;have ec:=zB e;subst ec;have ev:=wI rr;subst ev;have mem:∀c∈ns,c∈kinds:=fun c m=>by
    have:=bw.mp f.1.2 c m;simpa using this
   obtain⟨ha,fx,tx⟩:=Nd (H:=H) h1 f.1.1;refine AV pins s σ H _ us Q I rv ⟨_,_,ns,.type (rJ t),_,rfl,fx,h.up,tx,zC X.K _ ha ns mem,?_⟩;have e2:(ns.any fun c=>rJ t==c||(rJ t=="bool"&&c=="int"))=ns.any (Pj t):=rfl;rw[e2];exact f.2 _ H (au.refl H) (.bl _)
 ·exact(show False from q).elim
end
end L2
namespace L2
open PySem PySem.Spec PySem.Calls PyProof.Rows
section
variable {X:Cx}
variable {l:Expr}{p1 p2 Ju Jv:Pos}{F:av->Rs Tr}
end
end L2
namespace L2
open PySem PySem.Spec PyProof.Rows
inductive Ao where
 |lst (ts:List Tr)|j6 (aB:List (Key×Tr))|ins (x:Str) (fs:List (Str×Tr))|aE (aB:List (List Key×Tr))|FN (x:Str)|tb (x q:Str)
abbrev Ab:=List Ao
def mV(K:PySem.W.Frag)(B:bP)(H:Hp)(a:Addr):Ao->Prop
 |.lst ts=>B.hd a=true/\∃vs,H a=some (.lst vs)/\aL K (aQ B H) vs ts
 |.j6 aB=>B.hd a=true/\∃aw,H a=some (.dK aw)/\A5 K (aQ B H) aw aB
 |.aE aB=>B.hd a=true/\∃aw,H a=some (.dT aw)/\aw.map (·.1)=aB.map (·.1)/\aL K (aQ B H) (aw.map (·.2)) (aB.map (·.2))
 |.ins x fs=>B.hd a=true/\∃dx vL,H a=some (.ins (clsAt K x) dx vL)/\H dx=some (.own a)/\B.ix dx=none/\vL.map (·.1)=fs.map (·.1)/\aL K (aQ B H) (vL.map (·.2)) (fs.map (·.2))
 |.tb x q=>B.hd a=true/\(∃c,PySem.W.tabIn K x=some (c,a))/\H a=some (.vK #[.str q 0])
 |.FN x=>B.hd a=true/\∃oe:Obj,H a=some (.ext fun h=>h.get? a=some oe)/\oe.cls=.ref (clsAt K x)
structure HA(K:PySem.W.Frag)(B:bP)(A:Ab)(H:Hp):Prop where
 hb:HB B H
 ob:∀i o,A[i]?=some o->∃a,B.ix a=some i/\mV K B H a o
 inj:∀a b i,B.ix a=some i->B.ix b=some i->a=b
 lt:∀a i,B.ix a=some i->i<A.length
structure Grows(B:bP)(H:Hp)(B':bP)(H':Hp):Prop where
 fH:cw (aQ B H) (aQ B' H')
 kp:∀b o,B.ix b=none->H b=some o->H' b=some o
 hd:∀b,B.ix b=none->B.hd b=true->B'.hd b=true
 nw:∀b i,B'.ix b=some i->B.ix b=none->H b=none
section
variable {K:PySem.W.Frag}{B B' B1 B2:bP}{H H' H1 H2:Hp}{A:Ab}
theorem mV.same {a:Addr}{o:Ao}(h:mV K B H a o)(s:au H H'):mV K B H' a o:=by
 cases o with
 |lst ts=>obtain⟨h0,vs,h1,h2⟩:=h;exact⟨h0,vs,s _ _ h1,h2.same (ba s)⟩
 |j6 aB=>obtain⟨h0,vs,h1,h2⟩:=h;exact⟨h0,vs,s _ _ h1,h2.same (ba s)⟩
 |aE aB=>obtain⟨h0,vs,h1,h2,h3⟩:=h;exact⟨h0,vs,s _ _ h1,h2,h3.same (ba s)⟩
 |FN x=>obtain⟨h0,oe,h1,h2⟩:=h;exact⟨h0,oe,s _ _ h1,h2⟩
 |tb x q=>obtain⟨h0,h1,h2⟩:=h;exact⟨h0,h1,s _ _ h2⟩
 |ins c fs=>obtain⟨h0,dx,vL,h1,h2,h3,h4,h5⟩:=h;exact⟨h0,dx,vL,s _ _ h1,s _ _ h2,h3,h4,h5.same (ba s)⟩
theorem mV.hd {a:Addr}{o:Ao}(h:mV K B H a o):B.hd a=true:=by cases o<;>exact h.1
theorem mV.mem {a:Addr}{o:Ao}(h:mV K B H a o):∃x,H a=some x/\(∀vs,x≠ .tup vs)/\∀ob u,x≠ .fZ ob u:=by
 cases o with
 |lst ts=>obtain⟨h0,vs,h1,h2⟩:=h;exact⟨_,h1,(fun _ e=>by cases e),(fun _ _ e=>by cases e)⟩
 |j6 aB=>obtain⟨h0,vs,h1,h2⟩:=h;exact⟨_,h1,(fun _ e=>by cases e),(fun _ _ e=>by cases e)⟩
 |aE aB=>obtain⟨h0,vs,h1,h2⟩:=h;exact⟨_,h1,(fun _ e=>by cases e),(fun _ _ e=>by cases e)⟩
 |FN x=>obtain⟨h0,oe,h1,h2⟩:=h;exact⟨_,h1,(fun _ e=>by cases e),(fun _ _ e=>by cases e)⟩
 |tb x q=>obtain⟨h0,h1,h2⟩:=h;exact⟨_,h2,(fun _ e=>by cases e),(fun _ _ e=>by cases e)⟩
 |ins c fs=>obtain⟨h0,dx,vL,h1,h2⟩:=h;exact⟨_,h1,(fun _ e=>by cases e),(fun _ _ e=>by cases e)⟩
theorem HA.same (h:HA K B A H)(s:au H H'):HA K B A H':=
 ⟨h.hb.same s,fun i o e=>by obtain⟨a,h1,h2⟩:=h.ob i o e;exact⟨a,h1,h2.same s⟩,h.inj,h.lt⟩
theorem HA.get (h:HA K B A H){a:Addr}{i:Nat}{o:Ao}(e:B.ix a=some i)(q:A[i]?=some o):mV K B H a o:=by
 obtain⟨b,h1,h2⟩:=h.ob i o q;rw[h.inj a b i e h1];exact h2
theorem HA.ex (h:HA K B A H){a:Addr}{i:Nat}(e:B.ix a=some i):∃o,A[i]?=some o/\mV K B H a o:=by
 have l:=h.lt a i e;exact⟨A[i],aI l,h.get e (aI l)⟩
theorem HA.free (h:HA K B A H){p:Addr}(hp:H p=none):B.ix p=none:=by
 cases e:B.ix p with
 |none=>rfl
 |some i=>
  obtain⟨o,_,q⟩:=h.ex e;obtain⟨x,e2,_⟩:=q.mem;rw[hp]at e2;cases e2
theorem Grows.of (s:au H H'):Grows B H B H':=⟨ba s,fun b o _ e=>s b o e,fun _ _ e=>e,fun b i e n=>by rw[n]at e;cases e⟩
theorem Grows.refl:Grows B H B H:=.of (au.refl H)
theorem Grows.trans (hb:HB B H)(a:Grows B H B1 H1)(b:Grows B1 H1 B2 H2):Grows B H B2 H2:=by
 have key:∀c,B.ix c=none->(∃o,H c=some o)->B1.ix c=none:=fun c n ⟨o,e⟩=>by
  cases q:B1.ix c with
  |none=>rfl
  |some i=>have:=a.nw c i q n;rw[e]at this;cases this
 refine⟨a.fH.trans b.fH,fun c o n e=>b.kp c o (key c n ⟨o,e⟩) (a.kp c o n e),fun c n e=>?_,fun c i e n=>?_⟩
 ·exact b.hd c (key c n (let⟨o,q,_⟩:=hb c e;⟨o,q⟩)) (a.hd c n e)
 ·cases q:B1.ix c with
  |none=>
   have:=b.nw c i e q;cases q2:H c with
   |none=>rfl
   |some o=>rw[a.kp c o n q2]at this;cases this
  |some j=>exact a.nw c j q n
def mW(B:bP)(p:Addr)(i:Nat):bP:=⟨fun b=>B.hd b||b==p,fun b=>if b=p then some i else B.ix b⟩
theorem pQ{p:Addr}{i:Nat}:(mW B p i).hd p=true:=by show(B.hd p||p==p)=true;rw[bD,Bool.or_true]
theorem ic{p:Addr}{i:Nat}:(mW B p i).ix p=some i:=ab rfl
theorem fS{p b:Addr}{i:Nat}(h:b≠p):(mW B p i).ix b=B.ix b:=ae h
theorem kn{p b:Addr}{i:Nat}(h:b≠p):(mW B p i).hd b=B.hd b:=by show(B.hd b||b==p)=_;rw[ef h,mB]
theorem De{p:Addr}{i:Nat}(hp:H p=none)(hx:B.ix p=none)(s:au H H'):cw (aQ B H) (aQ (mW B p i) H'):=⟨fun b u e=>by
 have e1:=aG b u e;have fA:b≠p:=aN e1 hp;have hB:B.hd b=false:=by
  cases q:B.hd b with
  |false=>rfl
  |true=>
   have e2:(if B.hd b=true then none else H b)=some u:=e;rw[q,ab rfl]at e2;cases e2
 rw[cK (by rw[kn fA];exact hB)];exact s b u e1,fun b j e=>by
 have fA:b≠p:=fun z=>by rw[z]at e;rw[show(aQ B H).ix p=B.ix p from rfl,hx]at e;cases e
 show(mW B p i).ix b=some j;rw[fS fA];exact e⟩
theorem HA.push {p:Addr}{o:Ao}(h:HA K B A H)(hp:H p=none)(s:au H H')(ho:mV K (mW B p A.length) H' p o):Grows B H (mW B p A.length) H'/\HA K (mW B p A.length) (A++[o]) H':=by
 have hx:=h.free hp;have fH:cw (aQ B H) (aQ (mW B p A.length) H'):=De hp hx s;have up:∀{a:Addr} {u:Ao},a≠p->mV K B H a u->mV K (mW B p A.length) H' a u:=fun{a u} fA q=>by
  have e0:(mW B p A.length).hd a=true:=by rw[kn fA];exact q.hd
  cases u with
  |lst ts=>obtain⟨h0,vs,h1,h2⟩:=q;exact⟨e0,vs,s _ _ h1,h2.same fH⟩
  |j6 aB=>obtain⟨h0,vs,h1,h2⟩:=q;exact⟨e0,vs,s _ _ h1,h2.same fH⟩
  |aE aB=>obtain⟨h0,vs,h1,h2,h3⟩:=q;exact⟨e0,vs,s _ _ h1,h2,h3.same fH⟩
  |FN x=>obtain⟨h0,oe,h1,h2⟩:=q;exact⟨e0,oe,s _ _ h1,h2⟩
  |tb x q=>obtain⟨h0,h1,h2⟩:=q;exact⟨e0,h1,s _ _ h2⟩
  |ins c fs=>
   obtain⟨h0,dx,vL,h1,h2,h3,h4,h5⟩:=q;exact⟨e0,dx,vL,s _ _ h1,s _ _ h2,by rw[fS (aN h2 hp)];exact h3,h4,h5.same fH⟩
 refine⟨⟨fH,fun b u _ e=>s b u e,fun b _ e=>?_,fun b i e n=>?_⟩,⟨fun b e=>?_,fun i u e=>?_,fun a b i e1 e2=>?_,fun a i e=>?_⟩⟩
 ·show(B.hd b||b==p)=true;rw[e,jQ]
 ·by_cases q:b=p
  ·rw[q];exact hp
  ·rw[fS q,n]at e;cases e
 ·by_cases q:b=p
  ·rw[q];obtain⟨x,e2,n,_⟩:=ho.mem;exact⟨x,e2,n⟩
  ·rw[kn q]at e;obtain⟨x,e2,n⟩:=h.hb b e;exact⟨x,s _ _ e2,n⟩
 ·by_cases q:i<A.length
  ·rw[bZ q]at e;obtain⟨a,e1,e2⟩:=h.ob i u e;have fA:a≠p:=fun z=>by rw[z,hx]at e1;cases e1
   exact⟨a,by rw[fS fA];exact e1,up fA e2⟩
  ·rw[dJ (qN q)]at e;have hi:i - A.length=0:=by
    cases z:i - A.length with
    |zero=>rfl
    |succ k=>rw[z]at e;cases e
   rw[hi]at e;cases e;have:i=A.length:=by omega
   subst this;exact⟨p,ic,ho⟩
 ·by_cases q1:a=p
  ·by_cases q2:b=p
   ·rw[q1,q2]
   ·rw[q1,ic]at e1;cases e1;rw[fS q2]at e2;exact absurd (h.lt b _ e2) (cJ _)
  ·by_cases q2:b=p
   ·rw[q2,ic]at e2;cases e2;rw[fS q1]at e1;exact absurd (h.lt a _ e1) (cJ _)
   ·rw[fS q1]at e1;rw[fS q2]at e2;exact h.inj a b i e1 e2
 ·rw[bc,kI];by_cases q:a=p
  ·rw[q,ic]at e;cases e;exact jJ _
  ·rw[fS q]at e;exact iB (h.lt a i e)
theorem kR{a:Addr}{u:HO}(h:B.hd a=true):aQ B (upd H a u)=aQ B H:=by
 unfold aQ;congr 1;funext b;by_cases q:b=a
 ·subst q;rw[ab h,ab h]
 ·rw[ak q]
theorem HA.write {a:Addr}{i:Nat}{o:Ao}{u:HO}(h:HA K B A H)(e:B.ix a=some i)(ho:mV K B (upd H a u) a o):Grows B H B (upd H a u)/\HA K B (A.set i o) (upd H a u):=by
 have hd:B.hd a=true:=ho.hd;have hv:aQ B (upd H a u)=aQ B H:=kR hd;refine⟨⟨by rw[hv];exact cw.refl _,fun b x n q=>?_,fun _ _ q=>q,fun b j q n=>by rw[n]at q;cases q⟩,⟨fun b q=>?_,fun j x q=>?_,h.inj,fun b j q=>by rw[gQ];exact h.lt b j q⟩⟩
 ·have fA:b≠a:=fun z=>by rw[z,e]at n;cases n
  rw[ak fA];exact q
 ·by_cases z:b=a
  ·subst z;obtain⟨x,e2,n,_⟩:=ho.mem;exact⟨x,e2,n⟩
  ·rw[ak z];exact h.hb b q
 ·rcases gJ q with⟨rfl,_,rfl⟩|⟨sL,q⟩
  ·exact⟨a,e,ho⟩
  ·obtain⟨b,e1,e2⟩:=h.ob j x q;have fA:b≠a:=fun z=>by rw[z,e]at e1;cases e1;exact sL rfl
   refine⟨b,e1,?_⟩;cases x with
   |lst ts=>obtain⟨h0,vs,h1,h2⟩:=e2;exact⟨h0,vs,by rw[ak fA];exact h1,by rw[hv];exact h2⟩
   |j6 aB=>obtain⟨h0,vs,h1,h2⟩:=e2;exact⟨h0,vs,by rw[ak fA];exact h1,by rw[hv];exact h2⟩
   |aE aB=>obtain⟨h0,vs,h1,h2,h3⟩:=e2;exact⟨h0,vs,by rw[ak fA];exact h1,h2,by rw[hv];exact h3⟩
   |FN x=>obtain⟨h0,oe,h1,h2⟩:=e2;exact⟨h0,oe,by rw[ak fA];exact h1,h2⟩
   |tb x q=>obtain⟨h0,h1,h2⟩:=e2;exact⟨h0,h1,by rw[ak fA];exact h2⟩
   |ins c fs=>
    obtain⟨h0,dx,vL,h1,h2,h3,h4,h5⟩:=e2;have Vs:dx≠a:=fun z=>by rw[z,e]at h3;cases h3
    exact⟨h0,dx,vL,by rw[ak fA];exact h1,by rw[ak Vs];exact h2,h3,h4,by rw[hv];exact h5⟩
end
mutual
def gA:Tr->Bool
 |.at _=>false
 |.tup ts=>cM ts
 |.lst ts=>cM ts
 |.j6 aB=>zD aB
 |.aE aB=>t_ aB
 |.ob _ fs=>zE fs
 |_=>true
def cM:List Tr->Bool
 |[]=>true
 |t::ts=>gA t&&cM ts
def zD:List (Key×Tr)->Bool
 |[]=>true
 |p::r=>Hh p&&zD r
def Hh:Key×Tr->Bool
 |(_,t)=>gA t
def t_:List (List Key×Tr)->Bool
 |[]=>true
 |p::r=>Hi p&&t_ r
def Hi:List Key×Tr->Bool
 |(_,t)=>gA t
def zE:List (Str×Tr)->Bool
 |[]=>true
 |p::r=>Hj p&&zE r
def Hj:Str×Tr->Bool
 |(_,t)=>gA t
end
theorem ua:∀(aB:List (Key×Tr)),zD aB=cM (aB.map (·.2))
 |[]=>rfl
 |(k,t)::r=>by rw[zD,Hh,ay,cM,ua r]
theorem uc:∀(aB:List (List Key×Tr)),t_ aB=cM (aB.map (·.2))
 |[]=>rfl
 |(k,t)::r=>by rw[t_,Hi,ay,cM,uc r]
theorem ud:∀(aB:List (Str×Tr)),zE aB=cM (aB.map (·.2))
 |[]=>rfl
 |(k,t)::r=>by rw[zE,Hj,ay,cM,ud r]
mutual
def rQ:Tr->Bool
 |.cq=>true
 |.bl _=>true
 |.int _=>true
 |.str _=>true
 |.ty _=>true
 |.at _=>true
 |.tup ts=>gp ts
 |_=>false
def gp:List Tr->Bool
 |[]=>true
 |t::ts=>rQ t&&gp ts
end
def bo:Nat->Ab->Tr->Tr
 |0,_,t=>t
 |n+1,A,.at i=>match A[i]? with
  |some (.lst ts)=>.lst (ts.map (bo n A))
  |some (.j6 aB)=>.j6 (aB.map fun p=>(p.1,bo n A p.2))
  |some (.aE aB)=>.aE (aB.map fun p=>(p.1,bo n A p.2))
  |some (.ins c fs)=>.ob c (fs.map fun p=>(p.1,bo n A p.2))
  |some (.FN x)=>.zh x
  |some (.tb _ _)=>.at i
  |none=>.at i
 |_+1,_,t=>t
def bP.un (B:bP):bP:=⟨fun b=>B.hd b&&(B.ix b).isNone,B.ix⟩
section
variable {K:PySem.W.Frag}{B B':bP}{H H':Hp}{A:Ab}
theorem Hk:oR B.un B:=⟨fun b e=>by
 have e':(B.hd b&&(B.ix b).isNone)=true:=e;rw[aM]at e';exact e'.1,fun _ _ e=>e⟩
theorem fJ:cw (aQ B H) (aQ B.un H):=rm Hk
theorem wJ(h:HB B H):HB B.un H:=fun b e=>h b (Hk.hd b e)
theorem wK{a:Addr}{i:Nat}(e:B.ix a=some i):(aQ B.un H).H a=H a:=cK (by show(B.hd a&&(B.ix a).isNone)=false;rw[e];exact mw _)
theorem iX{W W':Vw}{f:Tr->Tr}(h:∀{v t},Rep K W v t->Rep K W' v (f t)):∀{vs:List V} {ts:List Tr},aL K W vs ts->aL K W' vs (ts.map f)
 |[],_,r=>by cases r;exact .nil
 |_::_,_,r=>by cases r with|cons h1 r=>exact .cons (h h1) (iX h r)
theorem fi(ha:HA K B A H):∀(n:Nat) {v:V} {t:Tr},Rep K (aQ B H) v t->Rep K (aQ B.un H) v (bo n A t)
 |0,v,t,r=>by rw[bo];exact r.same fJ
 |n+1,v,t,r=>by
  cases r with
  |@«at» a i h=>
   have e:B.ix a=some i:=h;obtain⟨o,q,ao⟩:=ha.ex e;rw[bo,q];cases o with
   |lst ts=>
    obtain⟨h0,vs,h1,h2⟩:=ao;exact .lst (by rw[wK e];exact h1) (iX (fun r=>fi ha n r) h2)
   |j6 aB=>
    obtain⟨h0,aw,h1,h2⟩:=ao;refine .j6 (.inl (by rw[wK e];exact h1)) (by rw[h2.keys,bj];rfl) ?_
    have:=iX (fun r=>fi ha n r) h2.vals;rw[bj]at this⊢;exact this
   |FN x=>obtain⟨h0,oe,h1,h2⟩:=ao;exact .zh (by rw[wK e];exact h1) h2
   |tb x q=>exact .at e
   |aE aB=>
    obtain⟨h0,aw,h1,h2,h3⟩:=ao;refine .aE (.inl (by rw[wK e];exact h1)) (by rw[h2,bj];rfl) ?_
    have:=iX (fun r=>fi ha n r) h3;rw[bj]at this⊢;exact this
   |ins c fs=>
    obtain⟨h0,dx,vL,h1,h2,h3,h4,h5⟩:=ao;refine .ob (by rw[wK e];exact h1) (by rw[h4,bj];rfl) ?_
    have:=iX (fun r=>fi ha n r) h5;rw[bj]at this⊢;exact this
  |cq=>exact .cq
  |bl b=>exact .bl b
  |int i=>exact .int i
  |str z h=>exact .str z h
  |ty m=>exact .ty m
  |f7 h=>exact .f7 (fJ.h.seq h)
  |tup h r=>exact .tup (fJ.h _ _ h) (r.same fJ)
  |lst h r=>exact .lst (fJ.h _ _ h) (r.same fJ)
  |j6 h e r=>exact .j6 (h.same fJ.h) e (r.same fJ)
  |aE h e r=>exact .aE (Rd.same fJ.h h) e (r.same fJ)
  |ob h e r=>exact .ob (fJ.h _ _ h) e (r.same fJ)
  |zh h c=>exact .zh (fJ.h _ _ h) c
theorem Jw(ha:HA K B A H){a:Addr}{x:HO}(e:(aQ B.un H).H a=some x)(hx:(∃vs,x=.tup vs)\/∃o u,x=.fZ o u):(aQ B H).H a=some x:=by
 have e1:=aG a x e;cases q:B.hd a with
 |false=>rw[cK q];exact e1
 |true=>
  cases z:B.ix a with
  |none=>
   have e2:(if B.un.hd a=true then none else H a)=some x:=e;rw[show B.un.hd a=(B.hd a&&(B.ix a).isNone)from rfl,q,z]at e2;cases e2
  |some i=>
   obtain⟨o,_,ao⟩:=ha.ex z;obtain⟨y,e3,n1,n2⟩:=ao.mem;rw[e1]at e3;cases e3;rcases hx with⟨vs,rfl⟩|⟨o,u,rfl⟩
   ·exact absurd rfl (n1 vs)
   ·exact absurd rfl (n2 o u)
structure hU(W W':Vw):Prop where
 h:∀a x,W.H a=some x->((∃vs,x=.tup vs)\/∃o u,x=.fZ o u)->W'.H a=some x
 x:∀a i,W.ix a=some i->W'.ix a=some i
theorem hU.un (ha:HA K B A H):hU (aQ B.un H) (aQ B H):=⟨fun a x e hx=>Jw ha e hx,fun _ _ e=>e⟩
theorem hU.trans {W W1 W2:Vw}(a:hU W W1)(b:hU W1 W2):hU W W2:=⟨fun c x e hx=>b.h c x (a.h c x e hx) hx,fun c i e=>b.x c i (a.x c i e)⟩
theorem hU.new {p:Addr}{i:Nat}{x:HO}(hx:B.ix p=none)(hp:H p=some x)(n1:∀vs,x≠ .tup vs)(n2:∀o u,x≠ .fZ o u):hU (aQ B H) (aQ (mW B p i) H):=⟨fun a y e hy=>by
 have e1:=aG a y e;have fA:a≠p:=fun z=>by
  rw[z,hp]at e1;cases e1;rcases hy with⟨vs,z⟩|⟨o,u,z⟩
  ·exact n1 vs z
  ·exact n2 o u z
 have hB:B.hd a=false:=by
  cases q:B.hd a with
  |false=>rfl
  |true=>
   have e2:(if B.hd a=true then none else H a)=some y:=e;rw[q,ab rfl]at e2;cases e2
 rw[cK (by rw[kn fA];exact hB)];exact e1,fun a j e=>by
 have fA:a≠p:=fun z=>by rw[z]at e;rw[show(aQ B H).ix p=B.ix p from rfl,hx]at e;cases e
 show(mW B p i).ix a=some j;rw[fS fA];exact e⟩
theorem u9{W W':Vw}(s:hU W W'){v:V}{t:Tr}(h:Rep K W v t):rQ t=true->Rep K W' v t:=by
 refine Rep.rec (motive_1:=fun v t _=>rQ t=true->Rep K W' v t) (motive_2:=fun vs ts _=>gp ts=true->aL K W' vs ts) ?_ ?_ ?_ ?_ ?_ ?_ ?_ ?_ ?_ ?_ ?_ ?_ ?_ ?_ ?_ h
 ·exact fun _=>.cq
 ·exact fun b _=>.bl b
 ·exact fun i _=>.int i
 ·exact fun z h _=>.str z h
 ·exact fun n _=>.ty n
 ·exact fun h f=>nomatch f
 ·intro a vs ts h _ ih f;refine .tup ?_ (ih f)
  exact s.h _ _ h (.inl ⟨_,rfl⟩)
 ·exact fun h _ _ f=>nomatch f
 ·exact fun h _ _ _ f=>nomatch f
 ·exact fun h _=>.at (s.x _ _ h)
 ·exact fun h _ _ _ f=>nomatch f
 ·exact fun h _ _ _ f=>nomatch f
 ·exact fun h c f=>nomatch f
 ·exact fun _=>.nil
 ·intro v t vs ts _ _ Ry Nf f;rw[gp,aM]at f;exact .cons (Ry f.1) (Nf f.2)
theorem mX{W W':Vw}(s:hU W W'):∀{vs:List V} {ts:List Tr},aL K W vs ts->gp ts=true->aL K W' vs ts
 |[],_,r,_=>by cases r;exact .nil
 |_::_,_,r,f=>by
  cases r with
  |cons h r=>
   rw[gp,aM]at f;exact .cons (u9 s h f.1) (mX s r f.2)
theorem n8(ha:HA K B A H){v:V}{t:Tr}(h:Rep K (aQ B.un H) v t)(f:rQ t=true):Rep K (aQ B H) v t:=u9 (.un ha) h f
theorem Rep.Dg {W W':Vw}(s:au W.H W'.H){v:V}{t:Tr}(h:Rep K W v t):gA t=true->Rep K W' v t:=by
 refine Rep.rec (motive_1:=fun v t _=>gA t=true->Rep K W' v t) (motive_2:=fun vs ts _=>cM ts=true->aL K W' vs ts) ?_ ?_ ?_ ?_ ?_ ?_ ?_ ?_ ?_ ?_ ?_ ?_ ?_ ?_ ?_ h
 ·exact fun _=>.cq
 ·exact fun b _=>.bl b
 ·exact fun i _=>.int i
 ·exact fun z h _=>.str z h
 ·exact fun n _=>.ty n
 ·exact fun h _=>.f7 (s.seq h)
 ·exact fun h _ ih f=>.tup (s _ _ h) (ih f)
 ·exact fun h _ ih f=>.lst (s _ _ h) (ih f)
 ·intro a aw aB h e _ ih f;refine .j6 (Rd.same s h) e (ih ?_);rw[gA,ua]at f;exact f
 ·exact fun h f=>nomatch f
 ·intro a aw aB h e _ ih f;refine .aE (Rd.same s h) e (ih ?_);rw[gA,uc]at f;exact f
 ·intro a c dx vL fs h e _ ih f;refine .ob (s _ _ h) e (ih ?_);rw[gA,ud]at f;exact f
 ·exact fun h c _=>.zh (s _ _ h) c
 ·exact fun _=>.nil
 ·intro v t vs ts _ _ Ry Nf f;rw[cM,aM]at f;exact .cons (Ry f.1) (Nf f.2)
theorem aL.Dg {W W':Vw}(s:au W.H W'.H):∀{vs:List V} {ts:List Tr},aL K W vs ts->cM ts=true->aL K W' vs ts
 |[],_,r,_=>by cases r;exact .nil
 |_::_,_,r,f=>by
  cases r with
  |cons h r=>
   rw[cM,aM]at f;exact .cons (h.Dg s f.1) (aL.Dg s r f.2)
end
def Ng(A:Ab):Cell->Cell
 |.sh t=>.sh (bo 5 A t)
 |c=>c
def aT(A:Ab)(ρ:av):av:=ρ.map (Ng A)
theorem bb.Jx {K:PySem.W.Frag}{B:bP}{H:Hp}{A:Ab}{σ:St}{ρ:av}(ha:HA K B A H)(n:dj ρ)(h:bb K B H σ ρ):bb K B.un H σ (aT A ρ):=by
 have no:∀i ts,(aT A ρ)[i]? ≠some (Cell.ow ts):=fun i ts e=>by
  unfold aT at e;rw[aJ]at e;cases q:ρ[i]? with
  |none=>rw[q]at e;cases e
  |some c=>
   rw[q]at e;cases c with
   |no=>cases e
   |sh t=>cases e
   |ow us=>exact n i us q
 refine⟨by unfold aT;rw[aj];exact h.len,fun i t e=>?_,fun i ts e=>absurd e (no i ts),fun i j ts us D _ e=>absurd e (no i ts)⟩;unfold aT at e;rw[aJ]at e;cases q:ρ[i]? with
 |none=>rw[q]at e;cases e
 |some c=>
  rw[q]at e;cases c with
  |no=>cases e
  |ow us=>exact absurd q (n i us)
  |sh u=>
   obtain⟨v,e1,r⟩:=h.sh i u q;have e2:bo 5 A u=t:=by
    have e3:=Option.some.inj e;exact(Cell.sh.inj e3)
   rw[<-e2];exact⟨v,e1,fi ha 5 r⟩
theorem bb.grow {K:PySem.W.Frag}{B B':bP}{H H':Hp}{σ:St}{ρ:av}(h:bb K B H σ ρ)(n:dj ρ)(g:Grows B H B' H'):bb K B' H' σ ρ:=
 ⟨h.len,fun i t e=>by obtain⟨v,e1,r⟩:=h.sh i t e;exact⟨v,e1,r.same g.fH⟩,fun i ts e=>absurd e (n i ts),fun i j ts us D _ e=>absurd e (n i ts)⟩
end L2
namespace L2
open PySem PySem.Spec PyProof.Rows
theorem bu.get {P:Program}{w:World}{H:Hp}{h:Heap}{a:Addr}{o:HO}(x:bu P w H h a o):∃u,h.get? a=some u:=by
 cases o with
 |lst xs=>obtain⟨_,_,_,_,e⟩:=x;exact⟨_,e⟩
 |tup xs=>obtain⟨_,_,_,o,e,_⟩:=x;exact⟨o,e⟩
 |dK aw=>obtain⟨_,_,_,_,o,_,_,e,_⟩:=x;exact⟨o,e⟩
 |dT aw=>obtain⟨_,_,_,_,o,_,_,e,_⟩:=x;exact⟨o,e⟩
 |set S n=>obtain⟨o,_,_,_,e,_⟩:=x;exact⟨o,e⟩
 |ins C dx fs=>obtain⟨_,_,_,e,_⟩:=x;exact⟨_,e⟩
 |own y=>exact x
 |xd fs=>obtain⟨_,⟨_,_,_,e,_⟩,_⟩:=x;exact⟨_,e⟩
 |OZ lo hi=>obtain⟨_,_,_,e⟩:=x;exact⟨_,e⟩
 |fZ ob u=>obtain⟨e,_⟩:=x;exact⟨_,e⟩
 |vK ps=>obtain⟨qs,e,_⟩:=x;exact⟨_,e⟩
 |met f y=>exact⟨_,(show h.get? a=some _ from x)⟩
 |ext φ=>obtain⟨_,e,_⟩:=x;exact e
structure Nh(h0:Heap)(H:Hp)(h:Heap)(a:Addr)(cls:Value):Prop where
 ob:∃oe vs a0,h.get? a=some oe/\oe.cls=cls/\oe.data=.fields vs/\vs[0]?=some a0/\
  (vs[1]?=some .none\/∃T oT ts,vs[1]?=some (.ref T)/\T≠a/\h0.get? T=none/\H T=none/\h.get? T=some oT/\oT.data=.fields ts/\ts[3]?=some .none)
 fr:H a=none
 nw:h0.get? a=none
def XS(X:Cx)(H:Hp)(cls e:Value)(s:Shared):Prop:=∃a pins σ h0,e=.ref a/\Inv X pins σ H s/\Nh h0 H s.heap a cls/\(∀b,h0.get? b=none->X.eZ.heap.get? b=none)/\(∀p∈X.pn,∃o,h0.get? p.1=some o)/\∀b,s.heap.get? b=none->h0.get? b=none
def EX(X:Cx):XK:=fun cls _ H=>∀e s,XS X H cls e s->X.xe e s
def pR(P:Program)(w:World):x6:=fun outer H s E e s'=>∃a cls H',e=.ref a/\s'.os=s.os/\AllBare s'.gens/\Un (mK outer) [] H H' s.heap s'.heap/\la P w H' s'.heap/\Nh s.heap H' s'.heap a cls/\E cls none H'
theorem Nh.Ni {h0 h1 h:Heap}{H:Hp}{a:Addr}{cls:Value}(u:Nh h1 H h a cls)(k:∀b,h1.get? b=none->h0.get? b=none):Nh h0 H h a cls:=by
 obtain⟨⟨oe,vs,a0,e1,e2,e3,e4,e5⟩,f,n⟩:=u;refine⟨⟨oe,vs,a0,e1,e2,e3,e4,?_⟩,f,k a n⟩;rcases e5 with e5|⟨T,oT,ts,q1,q2,q3,q4⟩
 ·exact .inl e5
 ·exact .inr ⟨T,oT,ts,q1,q2,k T q3,q4⟩
theorem Inv.Dh {X:Cx}{pins:List (Addr×Obj)}{σ:St}{H:Hp}{s:Shared}(I:Inv X pins σ H s)(hx:X.ex=[]){b:Addr}(n:s.heap.get? b=none):X.eZ.heap.get? b=none:=by
 cases q:X.eZ.heap.get? b with
 |none=>rfl
 |some o=>
  obtain⟨o',e⟩:=I.base.there b o q (by rw[hx];simp);rw[n]at e;cases e
theorem Bl{X:Cx}(hx:X.ex=[]):Passes (pR X.prog X.w) X (EX X):=by
 intro pins σ H s e s' I z;obtain⟨a,cls,H',rfl,os,bare,un,bQ,RA,q⟩:=z;have ce:CE X.stack X.prog X.w H s (fun _ H2=>H2=H') .none s':=⟨.cq,H',os,bare,un,bQ,rfl,rfl⟩;obtain⟨v,H2,I2,_,rfl⟩:=I.after ce;exact q (.ref a) s' ⟨a,pins,σ,s.heap,rfl,I2,RA,fun b n=>I.Dh hx n,fun p hp=>⟨_,(I.pin p (l7 _ hp)).1⟩,fun b n=>by
  cases z:s.heap.get? b with
  |none=>rfl
  |some o=>obtain⟨o',e⟩:=un.there b o z (by simp);rw[n]at e;cases e⟩
section
variable {P:Program}{w:World}{K:PySem.W.Frag}{mg:Str->Option Value}{base:Heap}{N:List Str}{qual:Str}{scope:Scope}{f:Addr}{cd:Value}{A:Around}{outer:List Env}{s:Shared}{H:Hp}{E:XK}
theorem wL{H':Hp}{cls e:Value}{s':Shared}(x:XS (jz (pR P w) P w K mg base N qual scope f cd A outer s H E) H' cls e s')(q:E cls none H'):(jz (pR P w) P w K mg base N qual scope f cd A outer s H E).xe e s':=by
 obtain⟨a,pins,σ,Xr,rfl,I,RB,old,_,_⟩:=x;have RA:=RB.Ni (h0:=s.heap) old;obtain⟨⟨oe,vs,a0,he,EF,hd,h0,h1⟩,fr,nw⟩:=RA
 let env:=envOfC qual scope s.heap.objs.size f cd
 have Ld:(A.deeper env).frames=some (env::outer):=I.ok.frames;have hk:s'.heap.FunFrames base (env::outer):=I.stack;have Pw:∀L∈mK (env::outer),H' L=none/\∃o,s'.heap.get? L=some o/\∀ws,o.data≠ .fields ws:=fun L hL=>⟨I.uH L hL,(hk.mem hL).2⟩;have Xs:a∉mK (env::outer):=fun m=>by
  obtain⟨_,o,e1,e2⟩:=Pw a m;rw[he]at e1;cases e1;exact e2 vs hd
 have fin:∀(hs:List Addr) (h':Heap),(∀b∈hs,H' b=none/\(b∈mK (env::outer)\/s.heap.get? b=none))->(∀b∈mK (env::outer),b∈hs)->a∈hs->(∀b∈hs,b∈mK (env::outer)\/b=a\/H' b=none)->
   Heap.LeftW (PySem.W.hideAll s'.heap hs) (env::outer) a cls a0 s'.heap h'->pR P w outer H s E (.ref a) {s' with heap:=h'}:=by
  intro hs h' hh Jp Vt _ ⟨k1,k2,k3,k4⟩;have kp:∀b o,b∉hs->s'.heap.get? b=some o->h'.get? b=some o:=fun b o nb e=>k1 b o (l8 _ e nb);have old:∀b o,s.heap.get? b=some o->b∉mK outer->b∉hs:=fun b o e nf m=>by
   rcases(hh b m).2 with z|z
   ·unfold mK at z;rw[iw]at z;have z':b∈s.heap.objs.size::mK outer:=z;rcases aR.mp z' with z'|z'
    ·exact absurd (ax e) (by rw[z'];exact cJ _)
    ·exact nf z'
   ·rw[e]at z;cases z
  have sl:∀b o,s'.heap.get? b=some o->b∈mK outer->∃sl,h'.get? b=some {o with slots:=sl}:=fun b o e m=>by
   obtain⟨_,o2,e2,nf⟩:=Pw b (by unfold mK at m⊢;rw[iw];exact aV _ m);rw[e]at e2;cases e2;exact k4 b o e nf
  have U:Un (mK outer) [] H H' s.heap s'.heap:=I.base;refine⟨a,cls,H',rfl,I.os,I.bare,⟨fun b o e n nf nx=>?_,fun b o e n m nx=>?_,U.free,fun b o e nx=>?_,U.kX,U.jx,U.jV⟩,fun b o e=>?_,⟨?_,fr,nw⟩,q⟩
  ·exact kp b o (old b o e nf) (U.keep b o e n nf nx)
  ·obtain⟨s1,e1⟩:=U.slot b o e n m nx;obtain⟨s2,e2⟩:=sl b _ e1 m;exact⟨s2,e2⟩
  ·obtain⟨o1,e1⟩:=U.there b o e nx;by_cases m:b∈mK outer
   ·obtain⟨s2,e2⟩:=sl b o1 e1 m;exact⟨_,e2⟩
   ·exact⟨o1,kp b o1 (old b o e m) e1⟩
  ·refine(I.bQ b o e).ly (fun c u hc z=>kp c u (fun m=>?_) z) (fun _ z=>z) fun _ _ z=>z;have n:=(hh c m).1;rcases hc with rfl|hc
   ·rw[n]at e;cases e
   ·rw[n]at hc;cases hc
  ·obtain⟨Vu,Vv,T,oT,ts,q1,⟨q2,q3⟩,q4,q5,q6,q7,q8,q9,Vx⟩:=k3;refine⟨Vu,Vv,a0,q1,q2,q4,q3,.inr ⟨T,oT,ts,q5,q7,?_,?_,q8,q9,Vx⟩⟩
   ·by_cases m:T∈hs
    ·rcases(hh T m).2 with z|z
     ·obtain⟨o3,e3,n3⟩:=(k2.mem z).2;rw[q8]at e3;cases e3;exact absurd q9 (n3 ts)
     ·exact z
    ·cases z:s.heap.get? T with
     |none=>rfl
     |some o=>
      obtain⟨o1,e1⟩:=U.there T o z (by simp);rw[l8 _ e1 m]at q6;cases q6
   ·by_cases m:T∈hs
    ·exact(hh T m).1
    ·cases z:H' T with
     |none=>rfl
     |some o=>
      obtain⟨u,e1⟩:∃u,s'.heap.get? T=some u:=(I.bQ T o z).get;rw[l8 _ e1 m]at q6;cases q6
 have j5:∀e∈(env::outer),∀b,e.frame=some b->b∈mK (env::outer):=fun e he b hb=>jG.mpr ⟨e,he,hb⟩;show wpAny (model P w) (A.deeper env) (leaving env (.ref a)) (fun _ Ex=>pR P w outer H s E (.ref a) Ex) _ s';rcases h1 with h1|⟨T,oT,ts,h1,Vy,Vz,Hf,hT,VA,h3⟩
 ·let hs:=a::mK (env::outer)
  refine wpAny_leaving_firstW (base:=PySem.W.hideAll s'.heap hs) Ld (PySem.W.funFrames_hide hk fun e he b hb=>aV _ (j5 e he b hb)) rfl he (fun b o z=>qA _ z) (l6 _ (aW ..)) hd h1 h0 fun h' hL=>?_
  rw[EF]at hL;refine fin hs h' (fun b m=>?_) (fun b m=>aV _ m) (aW ..) (fun b m=>?_) hL
  ·rcases aR.mp m with rfl|m
   ·exact⟨fr,.inr nw⟩
   ·exact⟨(Pw b m).1,.inl m⟩
  ·rcases aR.mp m with rfl|m
   ·exact .inr (.inl rfl)
   ·exact .inl m
 ·let hs:=a::T::mK (env::outer)
  refine wpAny_leaving_nextW (base:=PySem.W.hideAll s'.heap hs) (cls:=cls) (a0:=a0) Ld (PySem.W.funFrames_hide hk fun e he b hb=>aV _ (aV _ (j5 e he b hb))) rfl
   ⟨oe,vs,T,oT,ts,he,⟨EF,h0⟩,hd,h1,l6 _ (aV _ (aW ..)),Vy,hT,VA,h3⟩ (fun b o z=>qA _ z) (l6 _ (aW ..)) fun h' hL=>?_
  refine fin hs h' (fun b m=>?_) (fun b m=>aV _ (aV _ m)) (aW ..) (fun b m=>?_) hL
  ·rcases aR.mp m with rfl|m
   ·exact⟨fr,.inr nw⟩
   ·rcases aR.mp m with rfl|m
    ·exact⟨Hf,.inr Vz⟩
    ·exact⟨(Pw b m).1,.inl m⟩
  ·rcases aR.mp m with rfl|m
   ·exact .inr (.inl rfl)
   ·rcases aR.mp m with rfl|m
    ·exact .inr (.inr Hf)
    ·exact .inl m
end
end L2
namespace L2
open PySem PySem.Spec PyProof.Rows
inductive Rz(α:Type) where
 |bad|ok (a:α) (A:Ab)|exc (c:Tr) (A:Ab)
def Rz.bind {α β:Type}(r:Rz α)(f:α->Ab->Rz β):Rz β:=match r with
 |.ok a A=>f a A
 |.exc c A=>.exc c A
 |.bad=>.bad
def cF(xc:Tr->Ab->Prop){α:Type}(r:Rz α)(k:α->Ab->Prop):Prop:=match r with
 |.ok a A=>k a A
 |.exc c A=>xc c A
 |.bad=>False
section
variable {α β:Type}{r:Rz α}{k k':α->Ab->Prop}{xc Mp:Tr->Ab->Prop}
theorem cF.mono (h:cF xc r k)(w:∀a A,k a A->k' a A):cF xc r k':=by
 cases r with
 |ok a A=>exact w a A h
 |exc c A=>exact h
 |bad=>exact h
theorem cF.imp (h:cF xc r k)(w:∀c A,xc c A->Mp c A):cF Mp r k:=by
 cases r with
 |ok a A=>exact h
 |exc c A=>exact w c A h
 |bad=>exact h
theorem cF.bind {f:α->Ab->Rz β}{k:β->Ab->Prop}(h:cF xc (r.bind f) k):cF xc r fun a A=>cF xc (f a A) k:=by
 cases r with
 |ok a A=>exact h
 |exc c A=>exact h
 |bad=>exact h
end
def ai{α:Type}(r:Rs α)(A:Ab):Rz α:=match r with
 |.ok a=>.ok a A
 |_=>.bad
theorem f_{X:Cx}{H:Hp}{α:Type}{xc:Tr->Ab->Prop}{r:Rs α}{A:Ab}{k:α->Ab->Prop}(q:cF xc (ai r A) k):Fi X H r fun a=>k a A:=by
 cases r with
 |ok a=>exact q
 |exc c=>exact(show False from q).elim
 |bad=>exact q
def Nj(K:PySem.W.Frag):Tr->Value
 |.str x=>.ref (clsAt K x)
 |_=>.none
def XE(X:Cx)(B:bP)(H:Hp):Tr->Ab->Prop:=fun c A=>∀B' H',Grows B H B' H'->HA X.K B' A H'->EX X (Nj X.K c) none H'
theorem XE.grow {X:Cx}{B B':bP}{H H':Hp}{c:Tr}{A:Ab}(hb:HB B H)(h:XE X B H c A)(g:Grows B H B' H'):XE X B' H' c A:=fun B2 H2 g2 ha=>h B2 H2 (g.trans hb g2) ha
inductive tE(X:Cx)(F:av->Ab->Rz Tr)(σ:St)(H:Hp)(Q:VK):Prop
 |mk (B:bP) (A:Ab) (ρ:av):HA X.K B A H->bb X.K B H σ ρ->dj ρ->(cF (XE X B H) (F ρ A) fun t A'=>∀v B' H',Grows B H B' H'->HA X.K B' A' H'->Rep X.K (aQ B' H') v t->Q v H')->tE X F σ H Q
inductive Di(X:Cx)(F:av->Ab->Rz Bool)(σ:St)(H:Hp)(Q:Bool->Hp->Prop):Prop
 |mk (B:bP) (A:Ab) (ρ:av):HA X.K B A H->bb X.K B H σ ρ->dj ρ->(cF (XE X B H) (F ρ A) fun b A'=>∀B' H',Grows B H B' H'->HA X.K B' A' H'->Q b H')->Di X F σ H Q
inductive FP(X:Cx)(F:av->Ab->Rz (List Tr))(σ:St)(H:Hp)(Q:List V->Hp->Prop):Prop
 |mk (B:bP) (A:Ab) (ρ:av):HA X.K B A H->bb X.K B H σ ρ->dj ρ->(cF (XE X B H) (F ρ A) fun ts A'=>∀vs B' H',Grows B H B' H'->HA X.K B' A' H'->aL X.K (aQ B' H') vs ts->Q vs H')->FP X F σ H Q
def Jy(H H':Hp)(p:Addr):Prop:=H p=none/\∀o u,H' p≠some (.fZ o u)
theorem Jy.lst {K:PySem.W.Frag}{B:bP}{H H':Hp}{p:Addr}{ts:List Tr}(h:H p=none)(r:Rep K (aQ B H') (.ref p) (.lst ts)):Jy H H' p:=by
 cases r with
 |lst e _=>exact⟨h,fun o u z=>by rw[aG _ _ e]at z;cases z⟩
theorem Jy.upd {H H1:Hp}{p:Addr}{x:HO}(h:H p=none)(hx:∀o u,x≠ .fZ o u):Jy H (L2.upd H1 p x) p:=⟨h,fun o u z=>by rw[aH]at z;cases z;exact hx _ _ rfl⟩
inductive tF(X:Cx)(F:av->Rs Tr)(σ:St)(H:Hp)(Q:VK):Prop
 |mk (B:bP) (ρ:av):HB B H->bb X.K B H σ ρ->(Fi X H (F ρ) fun t=>∀v H',au H H'->Rep X.K (aQ B H') v t->(∀p,v=.ref p->Jy H H' p)->Q v H')->tF X F σ H Q
def pz(r:Rs Tr)(A:Ab):Rz Tr:=match r with
 |.ok t=>if rQ t=true then .ok t A else .bad
 |_=>.bad
def dW(r:Rs Tr)(A:Ab):Rz Tr:=match r with
 |.ok (.lst ts)=>if gp ts=true then .ok (.at A.length) (A++[.lst ts])else .bad
 |.ok (.j6 aB)=>if gp (aB.map (·.2))=true then .ok (.at A.length) (A++[.j6 aB])else .bad
 |.ok (.aE aB)=>if gp (aB.map (·.2))=true then .ok (.at A.length) (A++[.aE aB])else .bad
 |_=>.bad
section
variable {X:Cx}{e:Expr}{es:List Expr}{F:av->Rs Tr}{P:av->Rs Bool}{L:av->Rs (List Tr)}{FZ GZ:av->Ab->Rz Tr}{LZ:av->Ab->Rz (List Tr)}
theorem VB(h:PE X e (tF X F)):PE X e (tP X F):=h.weak fun σ H Q ⟨B,ρ,hb,r,q⟩=>⟨B,ρ,hb,r,q.mono fun t k v H' s rv _=>k v H' s rv⟩
theorem oW{σ:St}{H:Hp}{Q:VK}(q:tE X (fun ρ A=>ai (F ρ) A) σ H Q):tP X F σ H Q:=by
 obtain⟨B,A,ρ,ha,r,_,q⟩:=q;exact⟨B,ρ,ha.hb,r,(f_ q).mono fun t qt v H' s rv=>qt v B H' (.of s) (ha.same s) rv⟩
theorem Jz(h:PE X e (tP X F)):PE X e (tE X fun ρ A=>ai (F ρ) A):=h.weak fun σ H Q q=>oW q
theorem FQ(h:PT X e (tQ X P)):PT X e (Di X fun ρ A=>ai (P ρ) A):=
 h.weak fun σ H Q ⟨B,A,ρ,ha,r,_,q⟩=>⟨B,ρ,ha.hb,r,(f_ q).mono fun t qt H' s=>qt B H' (.of s) (ha.same s)⟩
theorem JA(h:PE X e (tP X F)):PE X e (tE X fun ρ A=>pz (F (aT A ρ)) A):=
 h.weak fun σ H Q ⟨B,A,ρ,ha,r,n,q⟩=>⟨B.un,aT A ρ,wJ ha.hb,r.Jx ha n,by
   have q:cF (XE X B H) (pz (F (aT A ρ)) A) _:=q;cases e:F (aT A ρ)with
   |bad=>rw[e]at q;exact q
   |exc c=>rw[e]at q;exact(show False from q).elim
   |ok t=>
    rw[e]at q;intro v H' s rv;by_cases f:rQ t=true
    ·have q':cF _ (if rQ t=true then Rz.ok t A else .bad) _:=q;rw[ab f]at q';exact q' v B H' (.of s) (ha.same s) (n8 (ha.same s) rv f)
    ·have q':cF _ (if rQ t=true then Rz.ok t A else .bad) _:=q;rw[ae f]at q';exact(show False from q').elim⟩
theorem FR(h:PT X e (tQ X P)):PT X e (Di X fun ρ A=>ai (P (aT A ρ)) A):=
 h.weak fun σ H Q ⟨B,A,ρ,ha,r,n,q⟩=>⟨B.un,aT A ρ,wJ ha.hb,r.Jx ha n,(f_ q).mono fun t qt H' s=>qt B H' (.of s) (ha.same s)⟩
theorem mY{c:Prop}[Decidable c]{α:Type}{xc:Tr->Ab->Prop}{r:Rz α}{k:α->Ab->Prop}(h:cF xc (if c then r else .bad) k):c/\cF xc r k:=by
 by_cases q:c
 ·rw[ab q]at h;exact⟨q,h⟩
 ·rw[ae q]at h;exact(show False from h).elim
theorem lG{σ:St}{H:Hp}{Q:VK}(q:tE X (fun ρ A=>dW (F (aT A ρ)) A) σ H Q):tF X F σ H Q:=by
  obtain⟨B,A,ρ,ha,r,n,q⟩:=q;refine⟨B.un,aT A ρ,wJ ha.hb,r.Jx ha n,?_⟩;have q:cF (XE X B H) (dW (F (aT A ρ)) A) _:=q;cases e:F (aT A ρ)with
  |bad=>rw[e]at q;exact q
  |exc c=>rw[e]at q;exact(show False from q).elim
  |ok t=>
   rw[e]at q;intro v H' s rv fr;have dB:=ha.same s;cases rv with
   |@lst p vs ts h rr=>
    have hp:=(fr p rfl).1;obtain⟨f,q'⟩:=mY q;have h1:H' p=some (.lst vs):=aG _ _ h;obtain⟨g,h2⟩:=ha.push (o:=.lst ts) hp s ⟨pQ,vs,h1,mX ((hU.un dB).trans (.new (ha.free hp) h1 (fun _ z=>by cases z) fun _ _ z=>by cases z)) rr f⟩;exact q' _ _ H' g h2 (.at ic)
   |@j6 p aw aB h ek rr=>
    have hp:=(fr p rfl).1;obtain⟨f,q'⟩:=mY q;have h1:H' p=some (.dK aw):=by
     rcases h.same aG with h|⟨o,h⟩
     ·exact h
     ·exact((fr p rfl).2 _ _ h).elim
    obtain⟨g,h2⟩:=ha.push (o:=.j6 aB) hp s ⟨pQ,aw,h1,ek,mX ((hU.un dB).trans (.new (ha.free hp) h1 (fun _ z=>by cases z) fun _ _ z=>by cases z)) rr f⟩;exact q' _ _ H' g h2 (.at ic)
   |@aE p aw aB h ek rr=>
    have hp:=(fr p rfl).1;obtain⟨f,q'⟩:=mY q;have h1:H' p=some (.dT aw):=by
     rcases h.same aG with h|⟨o,h⟩
     ·exact h
     ·exact((fr p rfl).2 _ _ h).elim
    obtain⟨g,h2⟩:=ha.push (o:=.aE aB) hp s ⟨pQ,aw,h1,ek,mX ((hU.un dB).trans (.new (ha.free hp) h1 (fun _ z=>by cases z) fun _ _ z=>by cases z)) rr f⟩;exact q' _ _ H' g h2 (.at ic)
   |_=>exact(show False from q).elim
theorem Nk(h:PE X e (tF X F)):PE X e (tE X fun ρ A=>dW (F (aT A ρ)) A):=h.weak fun σ H Q q=>lG q
end
end L2
set_option maxRecDepth 6000
namespace L2
open PySem PySem.Spec PySem.Calls PyProof.Rows
def u_:Heap:={}
theorem ko(b:Addr):u_.get? b=none:=by
 cases e:u_.get? b with
 |none=>rfl
 |some o=>exact absurd (ax e) (Nat.not_lt_zero _)
def yq(h:Heap)(L:Addr):List (Addr×Obj):=(List.range h.objs.size).filterMap fun b=>if b=L then none else(h.get? b).map fun o=>(b,o)
theorem yr{h:Heap}{L b:Addr}{o:Obj}:(b,o)∈yq h L↔b≠L/\h.get? b=some o:=by
 unfold yq;rw[jG];constructor
 ·rintro ⟨c,_,e⟩
  by_cases z:c=L
  ·rw[ab z]at e;cases e
  ·rw[ae z]at e;cases q:h.get? c with
   |none=>rw[q]at e;cases e
   |some u=>rw[q]at e;cases e;exact⟨z,q⟩
 ·rintro ⟨n,e⟩
  exact⟨b,cI.mpr (ax e),by rw[ae n,e];rfl⟩
section
variable {X:Cx}{pins:List (Addr×Obj)}{σ:St}{H:Hp}{s:Shared}
theorem Inv.Dj {m:Str->Option Value}{h':Heap}{tk:Nat}(I:Inv X pins σ H s)(VC:s.heap.Ns X.env.locals m)(hn:h'.Ns X.env.locals m)(kp:∀b o,b≠X.env.locals->s.heap.get? b=some o->h'.get? b=some o):Inv X pins σ H {s with heap:=h',toks:=tk}:=by
 obtain⟨m0,VD,hl⟩:=id I.loc;have Cc:=I.Cc;have lo:∀{b:Addr} {o:Obj},X.eZ.heap.get? b=some o->b≠X.env.locals:=fun{b o} e=>aS (bA (ax e) I.ok.above);have em:m0=m:=by
  obtain⟨o1,ue,Xt,a1,b1,_,d1⟩:=VD;obtain⟨o2,JB,Xu,a2,b2,_,d2⟩:=VC;rw[a1]at a2;cases a2;rw[b1]at b2;cases b2;funext x;rw[<-d1 x,<-d2 x]
 subst em;refine⟨I.ok,I.os,I.bare,⟨fun b o e n hb hx=>kp b o (lo e) (I.base.keep b o e n hb hx),fun b o e n hb hx=>?_,I.base.free,fun b o e hx=>?_,I.base.kX,I.base.jx,I.base.jV⟩,⟨m0,hn,fun j y v' e1 e2 e3=>?_⟩,fun y c e=>?_,I.free,I.gr,fun p hp=>?_,fun b u e=>?_,I.len⟩
 ·obtain⟨sl,e1⟩:=I.base.slot b o e n hb hx;exact⟨sl,kp b _ (lo e) e1⟩
 ·obtain⟨o',e1⟩:=I.base.there b o e hx;exact⟨o',kp b o' (lo e) e1⟩
 ·obtain⟨u',r',q⟩:=hl j y v' e1 e2 e3;refine⟨u',r',?_⟩;rcases q with⟨k,e⟩|⟨k,c,e,z⟩
  ·exact .inl ⟨k,e⟩
  ·obtain⟨oc,e5,e6⟩:=id z;exact .inr ⟨k,c,e,oc,kp c oc (Cc y c e) e5,e6⟩
 ·obtain⟨w',z⟩:=I.cell y c e;obtain⟨oc,e5,e6⟩:=id z;exact⟨w',oc,kp c oc (Cc y c e) e5,e6⟩
 ·obtain⟨e,n,ne,nf,d⟩:=I.pin p hp;exact⟨kp p.1 p.2 ne e,n,ne,nf,d⟩
 ·refine(I.bQ b u e).ly (fun c w' hc q=>kp c w' ?_ q) (fun _ q=>q) fun _ _ q=>q
  rintro rfl
  rcases hc with rfl|hc
  ·rw[I.free]at e;cases e
  ·rw[I.free]at hc;cases hc
end
def iY:List Tr->Rs Tr
 |[.j6 aB]=>.ok (.int aB.length)
 |ts=>FE ts
theorem lH{X:Cx}:g9 X (.builtin "len") iY:=by
 intro pins s σ H xs us Q I rv ⟨B,ts,hb,r,q⟩;by_cases z:∃aB,ts=[.j6 aB]
 ·obtain⟨aB,rfl⟩:=z;cases r with
  |cons h r=>
   cases r;cases h with
   |@j6 a aw _ h ek rr=>
    obtain⟨u,rfl,ru⟩:=vals1 rv;cases ru;have hl:aw.length=aB.length:=by have:=bT List.length ek;rw[aj,aj]at this;exact this
    exact L9 I (h.same aG) fun t s' I'=>⟨.int aw.length,H,I',⟨t,rfl⟩,(show∀v H',au H H'->Rep X.K (aQ B H') v (.int aB.length)->Q v H' from q) _ H (au.refl H) (by rw[hl];exact .int _)⟩
 ·have e:iY ts=FE ts:=by
   unfold iY;split
   ·exact absurd ⟨_,rfl⟩ z
   ·rfl
  rw[e]at q;exact MV pins s σ H xs us Q I rv ⟨B,ts,hb,r,q⟩
end L2
namespace L2
open PySem PySem.Spec PyProof.Rows
def iZ(X:Cx)(D:Ends)(B0:bP)(H0:Hp):Out->Ab->Prop
 |.nx ρ,A=>∀bK B' H',Grows B0 H0 B' H'->HA X.K B' A H'->bb X.K B' H' bK ρ->dj ρ->D.nx bK H'
 |.ret t,A=>∀v B' H',Grows B0 H0 B' H'->HA X.K B' A H'->Rep X.K (aQ B' H') v t->D.rt v H'
 |.bk ρ,A=>∀bK B' H',Grows B0 H0 B' H'->HA X.K B' A H'->bb X.K B' H' bK ρ->dj ρ->D.bk bK H'
 |.ct ρ,A=>∀bK B' H',Grows B0 H0 B' H'->HA X.K B' A H'->bb X.K B' H' bK ρ->dj ρ->D.ct bK H'
inductive tZ(X:Cx)(G:av->Ab->Rz Out)(D:Ends)(σ:St)(H:Hp):Prop
 |mk (B0:bP) (H0:Hp) (B:bP) (A:Ab) (ρ:av):HB B0 H0->Grows B0 H0 B H->HA X.K B A H->bb X.K B H σ ρ->dj ρ->cF (XE X B0 H0) (G ρ A) (iZ X D B0 H0)->tZ X G D σ H
section
variable {X:Cx}{a b c e:Expr}{pos:Pos}{F:av->Ab->Rz Tr}{G G':av->Ab->Rz Out}{P:av->Ab->Rz Bool}{st:Stmt}{rest ME:List Stmt}
def bH(r:Rz Out)(G:av->Ab->Rz Out):Rz Out:=r.bind fun o A=>match o with
 |.nx ρ=>G ρ A
 |.ret t=>.ok (.ret t) A
 |.bk ρ=>.ok (.bk ρ) A
 |.ct ρ=>.ok (.ct ρ) A
theorem Nl:jW X [] (tZ X fun ρ A=>.ok (.nx ρ) A):=y1.weak fun D σ H ⟨B0,H0,B,A,ρ,hb,g,ha,r,n,q⟩=>q σ B H g ha r n
theorem JC(h1:PS X st (tZ X G))(h2:jW X rest (tZ X G')):jW X (st::rest) (tZ X fun ρ A=>bH (G ρ A) G'):=
 (vY h1 h2).weak fun D σ H ⟨B0,H0,B,A,ρ,hb,g,ha,r,n,q⟩=>⟨B0,H0,B,A,ρ,hb,g,ha,r,n,q.bind.mono fun o A1 qo=>by
  cases o with
  |nx eK=>exact fun bK B' H' g' dB r' n'=>⟨B0,H0,B',A1,eK,hb,g',dB,r',n',qo⟩
  |ret t=>exact qo
  |bk eK=>exact qo
  |ct eK=>exact qo⟩
theorem Nm(h1:PS X st (tZ X G)):jW X [st] (tZ X G):=y3 h1
theorem ie{B0 B:bP}{H0 H:Hp}{A:Ab}{σ:St}{ρ:av}{k:Tr->Ab->Prop}(hb:HB B0 H0)(g:Grows B0 H0 B H)(ha:HA X.K B A H)(r:bb X.K B H σ ρ)(n:dj ρ)(q:cF (XE X B0 H0) (F ρ A) k){Q:VK}
  (hq:∀t A' v B' H',k t A'->Grows B0 H0 B' H'->HA X.K B' A' H'->bb X.K B' H' σ ρ->Rep X.K (aQ B' H') v t->Grows B H B' H'->Q v H'):tE X F σ H Q:=
 ⟨B,A,ρ,ha,r,n,(q.imp fun c A' x=>x.grow hb g).mono fun t A' qp v B' H' g' dB rv=>hq t A' v B' H' qp (g.trans hb g') dB (r.grow n g') rv g'⟩
theorem Dl{B0 B:bP}{H0 H:Hp}{A:Ab}{σ:St}{ρ:av}{k:Bool->Ab->Prop}(hb:HB B0 H0)(g:Grows B0 H0 B H)(ha:HA X.K B A H)(r:bb X.K B H σ ρ)(n:dj ρ)(q:cF (XE X B0 H0) (P ρ A) k){Q:Bool->Hp->Prop}
  (hq:∀t A' B' H',k t A'->Grows B0 H0 B' H'->HA X.K B' A' H'->bb X.K B' H' σ ρ->Q t H'):Di X P σ H Q:=
 ⟨B,A,ρ,ha,r,n,(q.imp fun c A' x=>x.grow hb g).mono fun t A' qp B' H' g' dB=>hq t A' B' H' qp (g.trans hb g') dB (r.grow n g')⟩
def cE(i:Nat)(r:Rz Tr)(ρ:av):Rz Out:=r.bind fun t A=>.ok (.nx (ρ.set i (.sh t))) A
theorem Nn{i:Nat}{x:Str}{pos':Pos}(he:PE X e (tE X F))(hN:X.N.Nodup:=by assumption) (hi:X.N[i]?=some x:=by rfl) (hx:Loc X.env.scope x:=by first|exact Or.inl rfl|exact Or.inr rfl) (hs:lD e=false:=by rfl) (hf:X.fn x=true\/X.env.scope.names.lookup x=some .local:=by first|exact .inl rfl|exact .inr rfl|assumption):
  PS X (.Assign [.Name x pos'] e pos) (tZ X fun ρ A=>cE i (F ρ A) ρ):=
 (Co hN hi hx he (rn hs) hf).weak fun D σ H ⟨B0,H0,B,A,ρ,hb,g,ha,r,n,q⟩=>ie hb g ha r n q.bind fun t A' v B' H' qt g' dB r' rv _=>qt _ B' H' g' dB (r'.set i rv) (n.set i t)
def hW(r:Rz Tr):Rz Out:=r.bind fun t A=>.ok (.ret t) A
theorem Np(he:PE X e (tE X F)):PS X (.Return (some e) pos) (tZ X fun ρ A=>hW (F ρ A)):=
 (Ck he).weak fun D σ H ⟨B0,H0,B,A,ρ,hb,g,ha,r,n,q⟩=>ie hb g ha r n q.bind fun t A' v B' H' qt g' dB r' rv _=>qt v B' H' g' dB rv
def fG(r:Rz Tr)(ρ:av):Rz Out:=r.bind fun _ A=>.ok (.nx ρ) A
theorem JD(he:PE X e (tE X F))(hs:lD e=false:=by rfl):PS X (.Expr e pos) (tZ X fun ρ A=>fG (F ρ A) ρ):=
 (EI he (rn hs)).weak fun D σ H ⟨B0,H0,B,A,ρ,hb,g,ha,r,n,q⟩=>ie hb g ha r n q.bind fun t A' v B' H' qt g' dB r' rv _=>qt _ B' H' g' dB r' n
def uf(c:Rz Bool)(a b:Ab->Rz Out):Rz Out:=c.bind fun k A=>if k then a A else b A
theorem RC{ys ns:List Stmt}(hc:PT X c (Di X P))(h1:jW X ys (tZ X G))(h2:jW X ns (tZ X G')):PS X (.If c ys ns pos) (tZ X fun ρ A=>uf (P ρ A) (G ρ) (G' ρ)):=
 (GK hc h1 h2).weak fun D σ H ⟨B0,H0,B,A,ρ,hb,g,ha,r,n,q⟩=>Dl hb g ha r n q.bind fun k A' B' H' qk g' dB r'=>by
  cases k with
  |true=>exact IP ⟨B0,H0,B',A',ρ,hb,g',dB,r',n,qk⟩
  |false=>exact IM ⟨B0,H0,B',A',ρ,hb,g',dB,r',n,qk⟩
theorem zF{T:j_}{B0 B:bP}{H0 H:Hp}{A:Ab}{σ:St}{ρ:av}{v:V}{t:Tr}{k:av->Ab->Prop}(hT:gk T)(hb:HB B0 H0)(g:Grows B0 H0 B H)(ha:HA X.K B A H)(r:bb X.K B H σ ρ)(n:dj ρ)(rv:Rep X.K (aQ B H) v t){xc:Tr->Ab->Prop}(q:cF xc (ai (T t ρ) A) k){Q:St->Hp->Prop}
  (hq:∀eK bK H',k eK A->Grows B0 H0 B H'->HA X.K B A H'->bb X.K B H' bK eK->dj eK->au H H'->Q bK H'):tG X T v σ H Q:=by
 refine⟨B,ρ,t,ha.hb,r,rv,?_⟩;cases e:T t ρ with
 |ok eK=>rw[e]at q;exact fun bK H' s r'=>hq eK bK H' q (g.trans hb (.of s)) (ha.same s) r' (hT t ρ eK n e) s
 |exc c=>rw[e]at q;exact(show False from q).elim
 |bad=>rw[e]at q;exact q
def fK(T:j_)(G:av->Ab->Rz Out):List Tr->av->Ab->Rz Out
 |[],ρ,A=>.ok (.nx ρ) A
 |t::ts,ρ,A=>(ai (T t ρ) A).bind fun ρ1 A=>(G ρ1 A).bind fun o A=>match o with
  |.nx ρ2=>fK T G ts ρ2 A
  |.ct ρ2=>fK T G ts ρ2 A
  |.bk ρ2=>.ok (.nx ρ2) A
  |.ret t=>.ok (.ret t) A
def f'(T:j_)(G:av->Ab->Rz Out)(l:Rz (List Tr))(ρ:av):Rz Out:=l.bind fun ts A=>fK T G ts ρ A
theorem Nq{tg iter:Expr}{body:List Stmt}{W:av->Rs (List Tr)}{T:j_}(hi:PI X tg iter (tI X W))(hg:PG X tg (tG X T))(hT:gk T)(hb:jW X body (tZ X G))(hp:PassesOwn (model X.prog X.w) X.A X.env X.xe:=by first|exact gU|exact gP) (hc:X.calm=true:=by rfl)
  (hs:isSet iter=false:=by rfl):PS X (.For tg iter body [] pos) (tZ X fun ρ A=>f' T G (ai (W ρ) A) ρ):=
 (uL hp hc hi hg hb (cL hs)).weak fun D σ H ⟨B0,H0,B,A,ρ,mZ,g,ha,r,n,q⟩=>⟨B,ρ,ha.hb,r,(f_ (cF.bind q)).mono fun ts qt J H1 s1 gt=>by
  have g1:Grows B0 H0 B H1:=g.trans mZ (.of s1);have va:HB B H1:=ha.hb.same s1;refine⟨fun i m bK H'=>m=ts.length - i/\i<=ts.length/\∃B' A' eK,Grows B H1 B' H'/\HA X.K B' A' H'/\bb X.K B' H' bK eK/\dj eK/\cF (XE X B0 H0) (fK T G (ts.drop i) eK A') (iZ X D B0 H0),⟨_,rfl,bG _,B,A,ρ,.refl,ha.same s1,r.same s1,n,qt⟩,?_⟩
  rintro i m bK H' ⟨rfl,hi,B',A',eK,g',dB,r',n',q'⟩
  by_cases fc:i<ts.length
  ·rw[lS fc]at q';refine .inr ⟨gt.go i B' H' fc g'.fH dB.hb,fun pL H2=>∃B2 A2 ρ2,Grows B H1 B2 H2/\HA X.K B2 A2 H2/\bb X.K B2 H2 pL ρ2/\dj ρ2/\cF (XE X B0 H0) (fK T G (ts.drop (i+1)) ρ2 A2) (iZ X D B0 H0),
    fun pL H2 x=>⟨ts.length - (i+1),by omega,rfl,fc,x⟩,fun x H2 hx=>?_⟩
   obtain⟨s2,t,et,rt⟩:=gt.xU i B' H' x H2 fc g'.fH dB.hb hx;have Jh:ts[i]=t:=by rw[aI fc]at et;exact Option.some.inj et
   rw[Jh]at q';have g2:Grows B H1 B' H2:=g'.trans va (.of s2);refine zF hT va g2 (dB.same s2) (r'.same s2) n' rt (cF.bind q') fun ρ1 xQ H3 q1 g3 yt r3 n3 _=>?_
   refine⟨B,H1,B',A',ρ1,va,g3,yt,r3,n3,((cF.bind q1).imp fun c RD x=>x.grow mZ g1).mono fun o A4 qo=>?_⟩;cases o with
   |nx ρ2=>exact fun wM B4 H4 g4 kq r4 n4=>⟨B4,A4,ρ2,g4,kq,r4,n4,qo⟩
   |ct ρ2=>exact fun wM B4 H4 g4 kq r4 n4=>⟨B4,A4,ρ2,g4,kq,r4,n4,qo⟩
   |bk ρ2=>exact fun wM B4 H4 g4 kq r4 n4=>qo wM B4 H4 (g1.trans mZ g4) kq r4 n4
   |ret t=>exact fun v B4 H4 g4 kq r4=>qo v B4 H4 (g1.trans mZ g4) kq r4
  ·have e:i=ts.length:=by omega
   subst e;rw[jI]at q';exact .inl ⟨gt.stop B' H' g'.fH,q' bK B' H' (g1.trans mZ g') dB r' n'⟩⟩
def fj(P:av->Ab->Rz Bool)(G:av->Ab->Rz Out):Nat->av->Ab->Rz Out
 |0,_,_=>.bad
 |m+1,ρ,A=>(P ρ A).bind fun k A=>if k then(G ρ A).bind fun o A=>match o with
   |.nx ρ2=>fj P G m ρ2 A
   |.ct ρ2=>fj P G m ρ2 A
   |.bk ρ2=>.ok (.nx ρ2) A
   |.ret t=>.ok (.ret t) A
  else .ok (.nx ρ) A
theorem FT(m:Nat){body:List Stmt}(hc:PT X c (Di X P))(hb:jW X body (tZ X G))(hp:PassesOwn (model X.prog X.w) X.A X.env X.xe:=by first|exact gU|exact gP):PS X (.While c body [] pos) (tZ X fun ρ A=>fj P G m ρ A):=
 (Cp hp hc hb).weak fun D σ H ⟨B0,H0,B,A,ρ,mZ,g,ha,r,n,q⟩=>by
  refine⟨fun k bK H'=>∃B' A' eK,Grows B0 H0 B' H'/\HA X.K B' A' H'/\bb X.K B' H' bK eK/\dj eK/\cF (XE X B0 H0) (fj P G k eK A') (iZ X D B0 H0),⟨m,B,A,ρ,g,ha,r,n,q⟩,?_⟩
  rintro k GL H1 ⟨B1,A1,ρ1,g1,gq,r1,n1,q1⟩
  cases k with
  |zero=>exact(show False from q1).elim
  |succ k=>
   refine Dl mZ g1 gq r1 n1 (cF.bind q1) fun t A2 B2 H2 q2 g2 sV r2=>?_
   cases t with
   |false=>
    rw[ae cR]at q2⊢;exact q2 GL B2 H2 g2 sV r2 n1
   |true=>
    rw[ab rfl]at q2⊢;refine⟨fun bK H'=>∃B' A' eK,Grows B0 H0 B' H'/\HA X.K B' A' H'/\bb X.K B' H' bK eK/\dj eK/\cF (XE X B0 H0) (fj P G k eK A') (iZ X D B0 H0),fun bK H' h=>⟨k,jJ k,h⟩,?_⟩;refine⟨B0,H0,B2,A2,ρ1,mZ,g2,sV,r2,n1,(cF.bind q2).mono fun o A4 qo=>?_⟩;cases o with
    |nx ρ2=>exact fun wM B4 H4 g4 kq r4 n4=>⟨B4,A4,ρ2,g4,kq,r4,n4,qo⟩
    |ct ρ2=>exact fun wM B4 H4 g4 kq r4 n4=>⟨B4,A4,ρ2,g4,kq,r4,n4,qo⟩
    |bk ρ2=>exact qo
    |ret t=>exact qo
end
section
variable {X:Cx}{a e o:Expr}{es:List Expr}{F:av->Ab->Rz Tr}{L:av->Ab->Rz (List Tr)}{name:Str}{apos jj:Pos}{id:String}
def cb(r:Rz Tr)(l:Ab->Rz (List Tr)):Rz (List Tr):=r.bind fun x A=>(l A).bind fun xs A=>.ok (x::xs) A
theorem Dm:PA X [] (FP X fun _ A=>.ok [] A):=nT.weak fun σ H Q ⟨B,A,ρ,ha,r,n,q⟩=>q [] B H .refl ha .nil
theorem zG(h1:PE X a (tE X F))(hr:PA X es (FP X L))(hs:isStar a=false:=by rfl):PA X (a::es) (FP X fun ρ A=>cb (F ρ A) (L ρ)):=
 (kN h1 hr (br _ _ hs)).weak fun σ H Q ⟨B,A,ρ,ha,r,n,q⟩=>⟨B,A,ρ,ha,r,n,q.bind.mono fun x A1 qx v B1 H1 g1 gq r1=>⟨B1,A1,ρ,gq,r.grow n g1,n,((cF.bind qx).imp fun c A' x=>x.grow ha.hb g1).mono fun xs A2 qs vs B2 H2 g2 sV r2=>qs _ B2 H2 (g1.trans ha.hb g2) sV (.cons (r1.same g2.fH) r2)⟩⟩
def Px(X:Cx)(r:V->List V->Hp->VK->Prop)(h:Nat->List Tr->Ab->Rz Tr):Prop:=
 ∀(B:bP) (A:Ab) (H:Hp) (a:Addr) (i:Nat) (xs:List V) (ts:List Tr) (Q:VK),HA X.K B A H->B.ix a=some i->aL X.K (aQ B H) xs ts->
  cF (XE X B H) (h i ts A) (fun t A'=>∀v B' H',Grows B H B' H'->HA X.K B' A' H'->Rep X.K (aQ B' H') v t->Q v H')->r (.ref a) xs H Q
def Bn(A:Ab)(i:Nat):Bool:=match A[i]? with
 |some (.lst _)=>true
 |_=>false
theorem JE{K:PySem.W.Frag}{B:bP}{A:Ab}{H:Hp}{a:Addr}{i:Nat}(ha:HA K B A H)(e:B.ix a=some i)(h:Bn A i=true):∃xs,H a=some (.lst xs):=by
 obtain⟨o,eo,ao⟩:=ha.ex e;unfold Bn at h;rw[eo]at h;cases o with
 |lst ts=>obtain⟨_,vs,h1,_⟩:=ao;exact⟨vs,h1⟩
 |j6 _=>cases h
 |aE _=>cases h
 |FN _=>cases h
 |tb _ _=>cases h
 |ins _ _=>cases h
def wN(h:Nat->List Tr->Ab->Rz Tr)(r:Rz Tr)(l:Ab->Rz (List Tr)):Rz Tr:=r.bind fun t A=>match t with
 |.at i=>if Bn A i=true then(l A).bind fun ts A=>h i ts A else .bad
 |_=>.bad
variable {r:V->List V->Hp->VK->Prop}{h:Nat->List Tr->Ab->Rz Tr}
theorem Nr(slot:Slot "list" name id)(L4:typeOf (.builtin id)=pure (.type "method_descriptor"))(hm:O9 X id r)(hz:Px X r h)(ho:PE X o (tE X F))(ha:PA X (e::es) (FP X L))(pa:PlainAttrs "list":=by exact PySem.F.plainAttrs_list)
  (v_:isCall o=false:=by rfl) (eJ:bq (e::es)=true:=by rfl) (hn:(e::es).length<30:=by decide) (wa:(apos.endLine==jj.line)=true:=by rfl):
  PE X (.Call (.Attribute o name apos) (e::es) [] jj) (tE X fun ρ A=>wN h (F ρ A) (L ρ)):=
 (L3 pa slot L4 hm ho ha (E9 v_) (by rw[wm eJ,bt (show(e::es).length+([]:List Keyword).length+(if([]:List Keyword).isEmpty then 0 else 1)<30 from hn)];rfl) wa (br _ _ (aO eJ).1) (cy (aO eJ).2)).weak fun σ H Q ⟨B,A,ρ,ha,r,n,q⟩=>⟨B,A,ρ,ha,r,n,q.bind.mono fun t A1 qt v B1 H1 g1 gq rv=>by
  split at qt
  ·rename_i i;obtain⟨a,rfl,ug⟩:=rv.uS;obtain⟨hl,q2⟩:=mY qt;obtain⟨xs,VE⟩:=JE gq ug hl;exact⟨.inl ⟨rfl,xs,iN.of VE⟩,B1,A1,ρ,gq,r.grow n g1,n,((cF.bind q2).imp fun c A' x=>x.grow ha.hb g1).mono fun ts A2 qs vs B2 H2 g2 sV rs=>hz B2 A2 H2 a i vs ts Q sV (g2.fH.x _ _ ug) rs ((qs.imp fun c A' x=>x.grow ha.hb (g1.trans ha.hb g2)).mono fun t A3 qt v B3 H3 g3 yt r3=>qt v B3 H3 ((g1.trans ha.hb g2).trans ha.hb g3) yt r3)⟩
  ·exact qt.elim⟩
def fL(i:Nat):List Tr->Ab->Rz Tr
 |[t],A=>match A[i]? with
  |some (.lst ts)=>if ts.length<iT then .ok .cq (A.set i (.lst (ts++[t])))else .bad
  |_=>.bad
 |_,_=>.bad
theorem n_:Px X zc fL:=by
 intro B A H a i xs ts Q ha ug rs q;unfold fL at q;split at q
 ·obtain⟨y,rfl,r1⟩:=gs rs;split at q
  ·rename_i eo;obtain⟨hz,q⟩:=mY q;obtain⟨hd,vs,h1,h2⟩:=ha.get ug eo;obtain⟨g,h3⟩:=ha.write (o:=.lst (_++[_])) (u:=.lst (vs++[y])) ug ⟨hd,_,aH,by rw[kR hd];exact h2.append (.cons r1 .nil)⟩;exact⟨a,vs,y,rfl,rfl,h1,by rw[h2.length,<-ip];exact hz,q .cq B _ g h3 .cq⟩
  ·exact q.elim
 ·exact q.elim
def Bo(i:Nat):List Tr->Ab->Rz Tr
 |[.int k],A=>match A[i]? with
  |some (.lst ts)=>if-9223372036854775808<=k/\k<9223372036854775808 then match seqIndex? k ts.length with
   |some j=>match ts[j]? with
    |some t=>.ok t (A.set i (.lst (ts.eraseIdx j)))
    |none=>.bad
   |none=>.bad
   else .bad
  |_=>.bad
 |_,_=>.bad
theorem aL.erase {K:PySem.W.Frag}{W:Vw}:∀{vs:List V} {ts:List Tr} (j:Nat),aL K W vs ts->aL K W (vs.eraseIdx j) (ts.eraseIdx j)
 |[],_,_,r=>by cases r;exact .nil
 |_::_,_,0,r=>by cases r with|cons h r=>exact r
 |_::_,_,j+1,r=>by cases r with|cons h r=>exact .cons h (aL.erase j r)
theorem JF:Px X CC Bo:=by
 intro B A H a i xs ts Q ha ug rs q;unfold Bo at q;split at q
 ·obtain⟨y,rfl,r1⟩:=gs rs;cases r1.int_inv;split at q
  ·rename_i eo;obtain⟨⟨k1,k2⟩,q⟩:=mY q;obtain⟨hd,vs,h1,h2⟩:=ha.get ug eo;split at q
   ·rename_i j ej;split at q
    ·rename_i eu;obtain⟨y,ey,ry⟩:=h2.get eu;obtain⟨g,h3⟩:=ha.write (o:=.lst (List.eraseIdx _ j)) (u:=.lst (vs.eraseIdx j)) ug ⟨hd,_,aH,by rw[kR hd];exact h2.erase j⟩;exact⟨a,vs,_,j,y,rfl,rfl,h1,k1,k2,by rw[h2.length];exact ej,ey,q y B _ g h3 (by rw[kR hd];exact ry)⟩
    ·exact q.elim
   ·exact q.elim
  ·exact q.elim
 ·exact q.elim
end
def dF(r:Rz Out):Rs Tr:=match r with
 |.ok (.nx _) _=>.ok .cq
 |.ok (.ret t) A=>if gA (bo 3 A t)=true then .ok (bo 3 A t)else .bad
 |_=>.bad
theorem lI{n:Nat}{ts:List Tr}:dj (startT n ts):=fun i us e=>by
 rcases kO e with q|⟨u,_,q⟩<;>cases q
theorem sS.VF {P:Program}{w:World}{K:PySem.W.Frag}{mg:Str->Option Value}{base:Heap}{x qual:Str}{st:Stmt}{f:Addr}{fd:FuncData}{N ps:List Str}{k:Nat}{h:List Tr->Rs Tr}(Fn:sS K x qual st f fd)(S:dR N ps (aF st))(len:∀ts t,h ts=.ok t->ts.length=ps.length)
  (g7:∀(cX:Value) (A:Around) (outer:List Env) (s:Shared) (H:Hp) (E:XK),dA k (A.deeper (envOfC qual (aF st) s.heap.objs.size f cX))->
   ∃G,jW (jz lz P w K mg base N qual (aF st) f cX A outer s H E).B5 (cY st) (tZ (jz lz P w K mg base N qual (aF st) f cX A outer s H E).B5 G)/\∀ts t,h ts=.ok t->cM ts=true/\dF (G (startT N.length ts) [])=.ok t):f6 P w K mg base lz (k+1) f fd ps (spT K h):=by
 refine Fn.ok S (fun vs H Q E q=>?_) (fun cX A outer s H vs Q E hr q=>?_)
 ·obtain⟨B,ts,hb,r,t,e,_⟩:=q;rw[r.length];exact len ts t e
 ·obtain⟨B,ts,hb,r,t,e,q⟩:=q;obtain⟨G,hG,hE⟩:=g7 cX A outer s H E hr;obtain⟨na,e1⟩:=hE ts t e
  let B0:bP:=⟨B.hd,fun _=>none⟩
  have mZ:HB B0 H:=hb;have VG:HA K B0 [] H:=⟨mZ,fun i o z=>by simp at z,(fun a b i z=>by cases(show(none:Option Nat)=some i from z)),(fun a i z=>by cases(show(none:Option Nat)=some i from z))⟩;have r0:aL K (aQ B0 H) vs ts:=aL.Dg (W:=aQ B H) (W':=aQ B0 H) (fun _ _ e=>e) r na;have sm:∀{B':bP} {H':Hp},Grows B0 H B' H'->au H H':=fun g b o z=>g.kp b o rfl z;refine⟨_,hG,B0,H,B0,[],startT N.length ts,mZ,.refl,VG,bb.start r0,lI,?_⟩;cases eo:G (startT N.length ts) []with
  |ok o A1=>
   rw[eo]at e1;cases o with
   |nx ρ=>cases e1;exact fun bK B' H' g ha r' n'=>q .cq H' (sm g) .cq
   |ret u=>
    have e2:(if gA (bo 3 A1 u)=true then Rs.ok (bo 3 A1 u)else .bad)=.ok t:=e1;by_cases z:gA (bo 3 A1 u)=true
    ·rw[ab z]at e2;cases e2;intro v B' H' g ha r';refine q v H' (sm g) (Rep.Dg (fun b o z=>?_) (fi ha 3 r') z);have z1:=aG b o z;cases hB:B.hd b with
     |false=>rw[cK hB];exact z1
     |true=>
      have h2:B'.hd b=true:=g.hd b rfl hB;have h3:B'.ix b=none:=by
       cases h4:B'.ix b with
       |none=>rfl
       |some i=>have h5:=g.nw b i h4 rfl;obtain⟨o2,h6,_⟩:=hb b hB;rw[h5]at h6;cases h6
      have z2:(if B'.un.hd b=true then none else H' b)=some o:=z;rw[show B'.un.hd b=(B'.hd b&&(B'.ix b).isNone)from rfl,h2,h3]at z2;cases z2
    ·rw[ae z]at e2;cases e2
   |bk ρ=>cases e1
   |ct ρ=>cases e1
  |exc c A1=>rw[eo]at e1;cases e1
  |bad=>rw[eo]at e1;cases e1
def rR(n m:Nat)(G:av->Ab->Rz Out)(ts:List Tr):Rs Tr:=if ts.length=n/\cM ts=true then dF (G (startT m ts) [])else .bad
theorem Dn{n m:Nat}{G:av->Ab->Rz Out}{ts:List Tr}{t:Tr}(h:rR n m G ts=.ok t):ts.length=n:=by
 unfold rR at h;split at h
 ·rename_i z;exact z.1
 ·cases h
theorem FU{n m:Nat}{G:av->Ab->Rz Out}{ts:List Tr}{t:Tr}(h:rR n m G ts=.ok t):cM ts=true/\dF (G (startT m ts) [])=.ok t:=by
 unfold rR at h;split at h
 ·rename_i z;exact⟨z.2,h⟩
 ·cases h
end L2
namespace L2
open PySem PySem.Spec PyProof.Rows
section
variable {X:Cx}{a b e:Expr}{es:List Expr}{pos:Pos}{F G:av->Rs Tr}{L:av->Rs (List Tr)}{A:av->Rs Bool}
theorem Nt(h:PA X es (zi X L)):PE X (.List es pos) (tF X fun ρ=>yf (L ρ)):=
 (Cv h).weak fun σ H Q ⟨B,ρ,hb,r,q⟩=>⟨B,ρ,hb,r,q.bind.mono fun ts qt vs H1 s1 r1=>by
  by_cases hz:ts.length<=iT
  ·rw[ab hz]at qt;refine⟨by rw[r1.length,<-ip];exact hz,fun p hp=>qt (.ref p) _ (s1.IW (s1.free hp)) (.lst ((hb.same s1).new hp) (r1.same (ba (au.upd hp)))) fun p' e=>by cases e;exact .upd (s1.free hp) (fun _ _ z=>by cases z)⟩
  ·rw[ae hz]at qt;exact qt.elim⟩
theorem JG:PE X (.Dict [] [] pos) (tF X fun _=>.ok (.aE [])):=
 CH.weak fun σ H Q ⟨B,ρ,hb,r,q⟩ p hp=>q (.ref p) _ (au.upd hp) (.aE (.inl (hb.new hp)) rfl .nil) fun p' e=>by cases e;exact .upd hp (fun _ _ z=>by cases z)
variable {scope:Scope}{N':List Str}{ix:List (Option Nat)}{elt iter tg:Expr}{ifs:List Expr}{T:j_}{W:av->Rs (List Tr)}
theorem Bp{σ:St}{H:Hp}{Q:VK}(hT:gk T)(q:tF X (fun ρ=>gL ix T A F (W ρ) ρ) σ H Q):IT (tI X W) ix (Fm X.K T) (Fl X.K A) (Fj X.K F) σ H Q:=by
 obtain⟨B,ρ,hb,r,q⟩:=q;refine⟨B,ρ,hb,r,q.bind.mono fun ts qt J H1 s1 gt D hD=>?_⟩;by_cases hz:ts.length<=iT
 ·rw[ab hz]at qt;exact mS hT (mR ix ρ) (hb.same s1) gt hz ((r.same s1).comp ix (g_ hD)) hD (Fi.bind qt) fun ys H' k s' rp=>k _ H' (s1.trans s') rp fun p e=>by cases e;exact .lst (s1.free hD) rp
 ·rw[ae hz]at qt;exact qt.elim
theorem FV{i:Nat}{x:Str}{px g8:Pos}(Lk:e_ X N' ix scope)(hit:PI X tg iter (tI X W))(j5:G0 X scope N' tg elt ifs T A F)(hT:gk T)(hN:X.N.Nodup:=by assumption) (hc:X.calm=true:=by rfl) (hi:X.N[i]?=some x:=by rfl) (hx:Loc X.env.scope x:=by first|exact Or.inl rfl|exact Or.inr rfl)
  (yd:swapsWith (.ListComp elt [⟨tg,iter,ifs,0⟩] scope pos) (some (.Name x px)) g8.line X.env=pure true:=by rfl) (hs:isSet iter=false:=by rfl) (hf:X.fn x=true\/X.env.scope.names.lookup x=some .local:=by first|exact .inl rfl|exact .inr rfl|assumption):
  PS X (.Assign [.Name x px] (.ListComp elt [⟨tg,iter,ifs,0⟩] scope pos) g8) (tZ X fun ρ A'=>cE i (dW (gL ix T A F (W (aT A' ρ)) (aT A' ρ)) A') ρ):=
 (mQ Lk hc hN hi hx hit j5.K9 yd (cL hs) hf).weak fun D σ H ⟨B0,H0,B,A',ρ,hb,g,ha,r,n,q⟩=>Bp hT (lG (F:=fun ρ=>gL ix T A F (W ρ) ρ) (ie (F:=fun ρ A'=>dW (gL ix T A F (W (aT A' ρ)) (aT A' ρ)) A') hb g ha r n q.bind fun t A2 v B' H' qt g' dB r' rv _=>qt _ B' H' g' dB (r'.set i rv) (n.set i t)))
theorem FW{i:Nat}{x:Str}{px g8:Pos}(Lk:e_ X N' ix scope)(hit:PI X tg iter (tI X W))(j5:G0 X scope N' tg elt ifs T A F)(hT:gk T)(hN:X.N.Nodup:=by assumption) (hc:X.calm=true:=by rfl) (hi:X.N[i]?=some x:=by rfl) (hx:Loc X.env.scope x:=by first|exact Or.inl rfl|exact Or.inr rfl)
  (yd:swapsWith (.ListComp elt [⟨tg,iter,ifs,0⟩] scope pos) (some (.Name x px)) g8.line X.env=pure true:=by rfl) (hs:isSet iter=false:=by rfl) (hf:X.fn x=true\/X.env.scope.names.lookup x=some .local:=by first|exact .inl rfl|exact .inr rfl|assumption):
  PS X (.Assign [.Name x px] (.ListComp elt [⟨tg,iter,ifs,0⟩] scope pos) g8) (tZ X fun ρ A'=>cE i (ai (gL ix T A F (W ρ) ρ) A') ρ):=
 (mQ Lk hc hN hi hx hit j5.K9 yd (cL hs) hf).weak fun D σ H ⟨B0,H0,B,A',ρ,hb,g,ha,r,n,q⟩=>wx hT (oW (F:=fun ρ=>gL ix T A F (W ρ) ρ) (ie (F:=fun ρ A'=>ai (gL ix T A F (W ρ) ρ) A') hb g ha r n q.bind fun t A2 v B' H' qt g' dB r' rv _=>qt _ B' H' g' dB (r'.set i rv) (n.set i t)))
inductive rF(X:Cx)(h:List Tr->Rs Tr)(xs:List V)(H:Hp)(Q:VK):Prop
 |mk (B:bP) (ts:List Tr):HB B H->aL X.K (aQ B H) xs ts->(Fi X H (h ts) fun t=>∀v H',au H H'->Rep X.K (aQ B H') v t->(∀p,v=.ref p->Jy H H' p)->Q v H')->rF X h xs H Q
theorem Dp{T:String}{x:Str}{p:Pos}{e:Expr}{h:List Tr->Rs Tr}(hc:e8 X (.type T) (rF X h))(hm:X.mg x=none)(ha:PA X (e::es) (zi X L))(hv:bootBuiltins x=some (.type T):=by rfl) (hg:Gl X x:=by rfl) (hn:x≠"__name__":=by decide) (ji:(x==("__debug__":Str))=false:=by decide)
  (eJ:bq (e::es)=true:=by rfl):PE X (.Call (.Name x p) (e::es) [] pos) (tF X fun ρ=>aC h (L ρ)):=
 (iP hc hg hm hv ha hn ji (br _ _ (aO eJ).1) (cy (aO eJ).2)).weak fun σ H Q ⟨B,ρ,hb,r,q⟩=>⟨B,ρ,hb,r,q.bind.mono fun ts qt vs H1 s1 r1=>⟨B,ts,hb.same s1,r1,(qt.same s1).mono fun t qt v H2 s2 r2 fr=>qt v H2 (s1.trans s2) r2 fun p e=>⟨s1.free (fr p e).1,(fr p e).2⟩⟩⟩
theorem FX:e8 X (.type "list") (rF X zw):=by
 intro pins s σ H xs us Q I rv ⟨B,ts,hb,r,q⟩;unfold zw at q;split at q
 ·obtain⟨x,e,r1⟩:=gs r;obtain⟨a,vs,rfl,h,rr⟩:=r1.cZ;exact mO pins s σ H _ us Q I rv ⟨_,_,e,.inr h.up,fun p hp=>q _ _ (au.upd hp) (.wy hb hp rr) fun p' e=>by cases e;exact .upd hp (fun _ _ z=>by cases z)⟩
 ·obtain⟨x,e,r1⟩:=gs r;obtain⟨a,vs,rfl,h,rr⟩:=r1.lst_inv;exact mO pins s σ H _ us Q I rv ⟨_,_,e,.inl (.of (gm h)),fun p hp=>q _ _ (au.upd hp) (.wy hb hp rr) fun p' e=>by cases e;exact .upd hp (fun _ _ z=>by cases z)⟩
 ·exact q.elim
end
end L2
namespace L2
open PySem PySem.Spec PyProof.Rows
def Py(K:PySem.W.Frag)(B:bP)(H:Hp)(E:XK):Tr->Ab->Prop:=fun c A=>∀B' H',Grows B H B' H'->HA K B' A H'->E (Nj K c) none H'
inductive vb(K:PySem.W.Frag)(f:List Tr->Ab->Rz Tr)(vs:List V)(H:Hp)(Q:VK)(E:XK):Prop
 |mk (B:bP) (A:Ab) (ts:List Tr):HA K B A H->aL K (aQ B H) vs ts->(cF (Py K B H E) (f ts A) fun t A'=>∀v B' H',Grows B H B' H'->HA K B' A' H'->Rep K (aQ B' H') v t->Q v H')->vb K f vs H Q E
theorem f6.RE {P:Program}{w:World}{K:PySem.W.Frag}{mg:Str->Option Value}{base:Heap}{k:Nat}{f:Addr}{fd:FuncData}{ps:List Str}{h:List Tr->Rs Tr}(F:f6 P w K mg base lz k f fd ps (spT K h)):f6 P w K mg base (pR P w) k f fd ps (vb K fun ts A=>ai (h ts) A):=by
 have key:∀{vs:List V} {H:Hp} {Q:VK} {E:XK},vb K (fun ts A=>ai (h ts) A) vs H Q E->∀E',spT K h vs H Q E':=fun{vs H Q E} ⟨B,A,ts,ha,r,q⟩ E'=>by
  have q:cF (Py K B H E) (ai (h ts) A) _:=q;cases e:h ts with
  |ok t=>rw[e]at q;exact⟨B,ts,ha.hb,r,t,e,fun v H' s rv=>q v B H' (.of s) (ha.same s) rv⟩
  |exc c=>rw[e]at q;exact(show False from q).elim
  |bad=>rw[e]at q;exact(show False from q).elim
 refine⟨fun vs H Q E q=>F.len vs H Q E (key q E),fun A outer s H args us vs Q E hr e0 hb hv q=>?_⟩;refine fV (F.run A outer s H args us vs Q E hr e0 hb hv (key q E)) fun r s' z=>?_
 cases r with
 |error e=>exact(show False from z).elim
 |ok fl=>
  cases fl with
  |ret u=>exact z
  |next=>exact z
  |brk=>exact z
  |cont=>exact z
def fk(r:Rz Out):Rz Tr:=r.bind fun o A=>match o with
 |.nx _=>.ok .cq A
 |.ret t=>.ok t A
 |_=>.bad
theorem sS.oa {P:Program}{w:World}{K:PySem.W.Frag}{mg:Str->Option Value}{base:Heap}{x qual:Str}{st:Stmt}{f:Addr}{fd:FuncData}{N ps:List Str}{k:Nat}{h:List Tr->Ab->Rz Tr}(Fn:sS K x qual st f fd)(S:dR N ps (aF st))(len:∀ts A,h ts A≠ .bad->ts.length=ps.length)
  (g7:∀(cX:Value) (A:Around) (outer:List Env) (s:Shared) (H:Hp) (E:XK),dA k (A.deeper (envOfC qual (aF st) s.heap.objs.size f cX))->
   ∃G,jW (jz (pR P w) P w K mg base N qual (aF st) f cX A outer s H E) (cY st) (tZ (jz (pR P w) P w K mg base N qual (aF st) f cX A outer s H E) G)/\∀ts A,h ts A≠ .bad->h ts A=fk (G (startT N.length ts) A)):f6 P w K mg base (pR P w) (k+1) f fd ps (vb K h):=by
 obtain⟨oc,od,kV,doc,pm,an,cX,ct,y9,rfl,lk,o7⟩:=Fn.ex;have nb:∀{B:bP} {A:Ab} {H:Hp} {E:XK} {ts:List Tr} {k:Tr->Ab->Prop},cF (Py K B H E) (h ts A) k->h ts A≠ .bad:=fun{B A H E ts k} q z=>by rw[z]at q;exact q
 refine Cw lk o7 S (fun vs H Q E ⟨B,A,ts,ha,r,q⟩=>by rw[r.length];exact len ts A (nb q)) fun A outer s H vs Q E hr ⟨B,A1,ts,ha,r,q⟩=>?_
 obtain⟨G,hG,hE⟩:=g7 cX A outer s H E hr;refine⟨_,hG,B,H,B,A1,startT N.length ts,ha.hb,.refl,ha,bb.start r,lI,?_⟩;rw[hE ts A1 (nb q)]at q;refine(cF.bind q).imp (fun c A2 z B' H' g dB e s x=>wL x (z B' H' g dB))|>.mono fun o A2 z=>?_
 cases o with
 |nx ρ=>exact fun bK B' H' g dB r' n'=>z .cq B' H' g dB .cq
 |ret t=>exact fun v B' H' g dB r'=>z v B' H' g dB r'
 |bk ρ=>exact(show False from z).elim
 |ct ρ=>exact(show False from z).elim
def m4(n m:Nat)(G:av->Ab->Rz Out)(ts:List Tr)(A:Ab):Rz Tr:=if ts.length=n then fk (G (startT m ts) A)else .bad
theorem rS{n m:Nat}{G:av->Ab->Rz Out}{ts:List Tr}{A:Ab}(h:m4 n m G ts A≠ .bad):ts.length=n:=by
 unfold m4 at h;by_cases z:ts.length=n
 ·exact z
 ·rw[ae z]at h;exact absurd rfl h
theorem zH{n m:Nat}{G:av->Ab->Rz Out}{ts:List Tr}{A:Ab}(h:m4 n m G ts A≠ .bad):m4 n m G ts A=fk (G (startT m ts) A):=by
 unfold m4;rw[ab (rS h)]
section
variable {X:Cx}{o e:Expr}{es:List Expr}{p pos apos:Pos}{F:av->Ab->Rz Tr}{L:av->Ab->Rz (List Tr)}{h:List Tr->Ab->Rz Tr}{x:Str}{st:Stmt}{ps:List Str}{f:Addr}{fd:FuncData}{k:Nat}
theorem JH{B B1:bP}{H H1:Hp}{A1:Ab}{vs:List V}{ts:List Tr}{Q:VK}(hb:HB B H)(g:Grows B H B1 H1)(ha:HA X.K B1 A1 H1)(r:aL X.K (aQ B1 H1) vs ts)(q:cF (XE X B H) (h ts A1) fun t A'=>∀v B' H',Grows B H B' H'->HA X.K B' A' H'->Rep X.K (aQ B' H') v t->Q v H'):vb X.K h vs H1 Q (EX X):=
 ⟨B1,A1,ts,ha,r,(q.imp fun c A' z=>z.grow hb g).mono fun t A' z v B' H' g' dB rv=>z v B' H' (g.trans hb g') dB rv⟩
theorem Nu(D:tW X.K X.mg x st ps f fd)(G:f6 X.prog X.w X.K X.mg X.base (pR X.prog X.w) k f fd ps (vb X.K h))(hr:dA k X.A)(ha:PA X (e::es) (FP X L))(hx:X.ex=[]:=by rfl) (hg:Gl X x:=by rfl) (ji:(x==("__debug__":Str))=false:=by decide) (eJ:bq (e::es)=true:=by rfl):
  PE X (.Call (.Name x p) (e::es) [] pos) (tE X fun ρ A=>(L ρ A).bind h):=
 (y8 (p:=p) (pos:=pos) G hr hg D.mg D.fn.kp D.bd .nil (Bl hx) ha (ji:=ji) (he:=br _ _ (aO eJ).1) (o8:=cy (aO eJ).2)).weak fun σ H Q ⟨B,A,ρ,ha,r,n,q⟩=>⟨B,A,ρ,ha,r,n,q.bind.mono fun ts A1 qt vs B1 H1 g1 gq r1=>by
  show vb X.K h (vs++[]) H1 Q (EX X);rw[cU];exact JH ha.hb g1 gq r1 qt⟩
variable {c m:Str}
end
end L2
namespace L2
open PySem PySem.Spec PyProof.Rows
abbrev TR:List Value:=[.type "ValueError",.type "Exception",.type "BaseException",.type "object"]
structure Nv(K:PySem.W.Frag)(mg:Str->Option Value)(x:Str):Prop where
 mg:mg x=some (.ref (clsAt K x))
 ex:PySem.W.excIn K (clsAt K x) TR "ValueError.__new__"=true
theorem Bq{e o i:Expr}{p:Pos}{n:Nat}{env:Env}:swapsWith e (some (.Subscript o i p)) n env=pure false:=by cases e<;>rfl
structure Nw(K:PySem.W.Frag)(xs:List Str)(f:Str):Prop where
 all:∀x∈xs,K4 K (clsAt K x)/\Io K (clsAt K x) f
end L2
namespace L2
open PySem PySem.Spec PyProof.Rows
theorem zI{X:Cx}{H:Hp}{xc:Tr->Ab->Prop}{r:Rs Tr}{A:Ab}{k:Tr->Ab->Prop}(q:cF xc (pz r A) k):Fi X H r fun t=>rQ t=true/\k t A:=by
 cases r with
 |ok t=>exact mY q
 |exc c=>exact(show False from q).elim
 |bad=>exact q
section
variable {X:Cx}{a b o i e value:Expr}{es:List Expr}{pos pos' p apos jj:Pos}{F G E:av->Ab->Rz Tr}{L:av->Ab->Rz (List Tr)}{h:Tr->Tr->Rs Tr}
def pA(h:Tr->Tr->Rs Tr)(a:Rz Tr)(b:Ab->Rz Tr):Rz Tr:=a.bind fun x A=>(b A).bind fun y A=>pz (h (bo 1 A x) (bo 1 A y)) A
theorem uh{σ:St}{H:Hp}{Q:VK}(q:tE X (fun ρ A=>pA h (F ρ A) (G ρ)) σ H Q):K3 (rT X h) (tE X F) (tE X G) σ H Q:=by
 obtain⟨B,A,ρ,ha,r,n,q⟩:=q;refine⟨B,A,ρ,ha,r,n,q.bind.mono fun x A1 qx v B1 H1 g1 gq rv=>⟨B1,A1,ρ,gq,r.grow n g1,n,((cF.bind qx).imp fun c A' z=>z.grow ha.hb g1).mono fun y A2 qy u B2 H2 g2 sV ru=>?_⟩⟩;refine⟨B2.un,bo 1 A2 x,bo 1 A2 y,wJ sV.hb,fi sV 1 (rv.same g2.fH),fi sV 1 ru,(zI qy).mono fun t ⟨ft,k⟩ w H3 s3 kY=>?_⟩;exact k w B2 H3 ((g1.trans ha.hb g2).trans ha.hb (.of s3)) (sV.same s3) (n8 (sV.same s3) kY ft)
theorem Nx{op:CmpOp}(ho:tX X (compareOp op) h)(h1:PE X a (tE X F))(h2:PE X b (tE X G))(hm:behindInMarks op b=false:=by first|exact jY _|rfl|with_unfolding_all rfl):PE X (.Compare a [op] [b] pos) (tE X fun ρ A=>pA h (F ρ A) (G ρ)):=(y4 ho h1 h2 hm).weak fun _ _ _ q=>uh q
def FY(r:Rz Tr):Rz Bool:=r.bind fun t A=>match t with
 |.bl b=>.ok b A
 |_=>.bad
theorem JI{op:CmpOp}(ho:tX X (compareOp op) h)(h1:PE X a (tE X F))(h2:PE X b (tE X G))(hm:behindInMarks op b=false:=by first|exact jY _|rfl|with_unfolding_all rfl):PT X (.Compare a [op] [b] pos) (Di X fun ρ A=>FY (pA h (F ρ A) (G ρ))):=
 (y6 ho h1 h2 hm).weak fun σ H Q ⟨B,A,ρ,ha,r,n,q⟩=>by
  refine uh (Q:=fun x H'=>∃k,x=.bl k/\Q k H') ⟨B,A,ρ,ha,r,n,(cF.bind q).mono fun t A' qt v B' H' g' dB rv=>?_⟩;cases rv with
  |bl b=>exact⟨b,rfl,qt B' H' g' dB⟩
  |_=>exact(show False from qt).elim
def wO(h:List Tr->Rs Tr)(l:Rz (List Tr)):Rz Tr:=l.bind fun ts A=>pz (h (ts.map (bo 1 A))) A
theorem yu{h:List Tr->Rs Tr}{σ:St}{H:Hp}{Q:VK}(q:tE X (fun ρ A=>wO h (L ρ A)) σ H Q):O7 (rC X h) (FP X L) σ H Q:=by
 obtain⟨B,A,ρ,ha,r,n,q⟩:=q;refine⟨B,A,ρ,ha,r,n,q.bind.mono fun ts A1 qt vs B1 H1 g1 gq rs=>?_⟩;exact⟨B1.un,ts.map (bo 1 A1),wJ gq.hb,iX (fun r=>fi gq 1 r) rs,(zI qt).mono fun t ⟨ft,k⟩ w H3 s3 kY=>k w B1 H3 (g1.trans ha.hb (.of s3)) (gq.same s3) (n8 (gq.same s3) kY ft)⟩
theorem Dq{T:String}{x:Str}{h:List Tr->Rs Tr}(hc:g9 X (.type T) h)(hm:X.mg x=none)(ha:PA X (e::es) (FP X L))(hv:bootBuiltins x=some (.type T):=by rfl) (hg:Gl X x:=by rfl) (hn:x≠"__name__":=by decide) (ji:(x==("__debug__":Str))=false:=by decide)
  (eJ:bq (e::es)=true:=by rfl):PE X (.Call (.Name x p) (e::es) [] pos) (tE X fun ρ A=>wO h (L ρ A)):=
 (iP hc hg hm hv ha hn ji (br _ _ (aO eJ).1) (cy (aO eJ).2)).weak fun _ _ _ q=>yu q
theorem A5.length {K:PySem.W.Frag}{W:Vw}{aw:List (Key×V)}{aB:List (Key×Tr)}(h:A5 K W aw aB):aw.length=aB.length:=by
 have e:=bT List.length h.keys;rw[aj,aj]at e;exact e
end
end L2
namespace L2
open PySem PySem.Spec PyProof.Rows
theorem bb.none {K:PySem.W.Frag}{B:bP}{H:Hp}{σ:St}:bb K B H σ (List.replicate σ.length .no):=by
 have no:∀(i:Nat) (c:Cell),(List.replicate σ.length Cell.no)[i]?=some c->c=.no:=fun i c e=>by
  rw[lY]at e;split at e
  ·exact(Option.some.inj e).symm
  ·cases e
 exact⟨l5,(fun i t e=>by cases no i _ e),(fun i ts e=>by cases no i _ e),(fun i j ts us D _ e=>by cases no i _ e)⟩
end L2
namespace L2
open PySem PySem.Spec PyProof.Rows
structure zJ(K:PySem.W.Frag)(mg:Str->Option Value)(c:Str)(xs:List Str):Prop where
 mg:mg c=some (.ref (clsAt K c))
 all:∀x∈xs,PySem.W.exmOne K (.ref (clsAt K x)) (.ref (clsAt K c))=some true
section
variable {X:Cx}{c n:Str}{tp hp pos:Pos}{xs:List Str}{i:Nat}{body Hl:List Stmt}{Ny:Stmt}{G G2:av->Ab->Rz Out}
end
end L2
namespace L2
open PySem PySem.Spec PyProof.Rows
section
variable {X:Cx}{a b e:Expr}{es:List Expr}{pos:Pos}{F G:av->Rs Tr}{L:av->Rs (List Tr)}{A:av->Rs Bool}{scope:Scope}{N':List Str}{ix:List (Option Nat)}{elt iter tg:Expr}{ifs:List Expr}{T:j_}{W:av->Rs (List Tr)}
theorem yv{σ:St}{H:Hp}{Q:VK}(hT:gk T)(q:tF X (fun ρ=>gL ix T A F (W ρ) ρ) σ H Q):IT (tJ X W) ix (Fm X.K T) (Fl X.K A) (Fj X.K F) σ H (fun v H'=>f9 X H' (Q v)):=by
 obtain⟨B,ρ,hb,r,q⟩:=q;refine⟨B,ρ,hb,r,q.bind.mono fun ts qt J H1 tf gt D hD=>?_⟩;by_cases hz:ts.length<=iT
 ·rw[ab hz]at qt;exact mS hT (mR ix ρ) (tf.hb hb) gt hz ((tf.yj r).comp ix (g_ hD)) hD (Fi.bind qt) fun ys H' k s' rp=>by
   obtain⟨Hu,su,ru,ku⟩:=tf.G_ hb s';exact ku _ (k _ Hu su (ru rp) fun p e=>by cases e;exact .lst (tf.free hD) (ru rp))
 ·rw[ae hz]at qt;exact qt.elim
theorem Dr{i:Nat}{x:Str}{px g8:Pos}(Lk:e_ X N' ix scope)(hit:PI X tg iter (tJ X W))(j5:G0 X scope N' tg elt ifs T A F)(hT:gk T)(hN:X.N.Nodup:=by assumption) (hc:X.calm=true:=by rfl) (hi:X.N[i]?=some x:=by rfl) (hx:Loc X.env.scope x:=by first|exact Or.inl rfl|exact Or.inr rfl)
  (yd:swapsWith (.ListComp elt [⟨tg,iter,ifs,0⟩] scope pos) (some (.Name x px)) g8.line X.env=pure true:=by rfl) (hs:isSet iter=false:=by rfl) (hf:X.fn x=true\/X.env.scope.names.lookup x=some .local:=by first|exact .inl rfl|exact .inr rfl|assumption):
  PS X (.Assign [.Name x px] (.ListComp elt [⟨tg,iter,ifs,0⟩] scope pos) g8) (tZ X fun ρ A'=>cE i (dW (gL ix T A F (W (aT A' ρ)) (aT A' ρ)) A') ρ):=
 (mQ Lk hc hN hi hx hit j5.K9 yd (cL hs) hf).Jo.weak fun D σ H ⟨B0,H0,B,A',ρ,hb,g,ha,r,n,q⟩=>yv (Q:=fun v H'=>D.nx (σ.set i (some v)) H') hT (lG (F:=fun ρ=>gL ix T A F (W ρ) ρ) (ie (F:=fun ρ A'=>dW (gL ix T A F (W (aT A' ρ)) (aT A' ρ)) A') hb g ha r n q.bind fun t A2 v B' H' qt g' dB r' rv _=>qt _ B' H' g' dB (r'.set i rv) (n.set i t)))
end
end L2
namespace L2
open PySem PySem.Spec PyProof.Rows
section
variable {X:Cx}{a b e:Expr}{es:List Expr}{pos:Pos}{F:av->Ab->Rz Tr}{P:av->Ab->Rz Bool}{c n:Str}{tp hp:Pos}{xs:List Str}{i:Nat}{body Hl:List Stmt}{Ny:Stmt}{G G2:av->Ab->Rz Out}
def F1(r:Rz Tr):Rz Bool:=r.bind fun t A=>ai (gz t) A
theorem JJ(h:PE X a (tE X F))(he:iS a=true:=by rfl):PT X a (Di X fun ρ A=>F1 (F ρ A)):=
 (v3 h (ro he)).weak fun σ H Q ⟨B,A,ρ,ha,r,n,q⟩=>⟨B,A,ρ,ha,r,n,q.bind.mono fun t A1 qt v B1 H1 g1 gq rv=>by
  obtain⟨b,h1,h2⟩:=rB (rv.same pO) (f_ (X:=X) (H:=H1) qt);exact⟨b,h1,h2 B1 H1 g1 gq⟩⟩
def F2(r:Rz Bool):Rz Bool:=r.bind fun b A=>.ok (!b) A
theorem eq_not(h:PT X a (Di X P)):PT X (.UnaryOp .Not a pos) (Di X fun ρ A=>F2 (P ρ A)):=
 (Cg h).weak fun σ H Q ⟨B,A,ρ,ha,r,n,q⟩=>⟨B,A,ρ,ha,r,n,q.bind⟩
variable {st:Stmt}
end
end L2
namespace L2
open PySem PySem.Spec PySem.Calls PyProof.Rows PySem.W
structure Nz(K:Frag)(D:Addr):Prop where
 ga:findIn K (.ref D) "__getattribute__"=some (some (.builtin "BaseException.__getattribute__"))
 gh:findIn K (.ref D) "__getattr__"=some none
 cl:findIn K (.ref D) "__class__"=some (some (.builtin "object.__class__"))
 ob:mroIn K D (.type "object")=some true
 be:mroIn K D (.type "BaseException")=some true
structure Hm(K:Frag)(u:Value)(tab:List (Str×Bool)):Prop where
 all:∀x b,tab.lookup x=some b->kitOne K (.ref (clsAt K x)) u=some b/\Nz K (clsAt K x)/\(clsIn K (clsAt K x)).isSome=true
end L2
namespace L2
open PySem PySem.Spec PySem.Calls PyProof.Rows
theorem Br:typeLookup (.type "list") "keys"=pure none:=by rw[mD,l9];kernel_rfl
section
variable {prog:Program}{w:World}{A:Around}{E:Value->Shared->Prop}{s:Shared}{a:Addr}{xs:Array Value}{k:Nat}{sl:Array (Option Value)}
theorem yw{Q:Option Value->Shared->Prop}(hx:s.heap.get? a=some {cls:=.type "list",dict:=none,data:=.seq xs k,slots:=sl}) (hA:A.handled=none)
  (h:∀h' tk,(∀b o,s.heap.get? b=some o->h'.get? b=some o)->Q none {s with heap:=h',toks:=tk}):wpAny (model prog w) A (getAttr? (.ref a) "keys") Q E s:=by
 obtain⟨hp,g,d,tk,os⟩:=s;have hT:∀sW,(⟨hp,g,d,sW,os⟩:Shared).TypeIs (.ref a) "list":=fun _=>⟨_,hx,rfl⟩;have f1:=sub_AttributeError;have f3:=qj.lookup;have f4:=qj.bind (.ref a);have f5:=am_list_getattr_none;unfold getAttr? getAttrBy? getAttrBy
 repeat(any_goals (first|assumption|exact hT _|((with_reducible show wpAny _ _ (call (Value.builtin "list.__getattribute__") _ _) _ _ _);refine iM qj (hT _) am_entry_list_getattribute (F.args_list_getattribute_2 _ _) (meets_getattribute_miss_list a xs k sl "keys" _ Br (by decide+kernel) (by size_fits)) ⟨hx,hA,fun h' sW e Bc=>?_⟩)|wp_step))
 obtain⟨t',u',he⟩:=Bc.there;have RF:∀sW,(⟨h',g,d,sW,os⟩:Shared).TypeIs (.ref e) "AttributeError":=fun _=>⟨_,he,rfl⟩;show wpAny _ _ (getattributeRaised _ _ _ _ _ _ _) _ _ _;unfold getattributeRaised
 repeat(any_goals (first|assumption|exact RF _|wp_step))
 exact h h' sW Bc.of.keeps
theorem ui:entryFor table "dict.update.loop"=some Builtin.«dict.update.loop»:=entryFor_of_tree (by kernel_rfl)
theorem i0:plainId "dict.update.loop"=true:=by decide+kernel
end
end L2
namespace L2
open PySem PySem.Spec PySem.Calls PyProof.Rows Builtin Builtin.ObjectAttr
structure NA(K:PySem.W.Frag)(f:Addr):Prop where
 get:PySem.W.specialIn K (.ref f) "__get__"=some (some (.builtin "function.__get__"))
 tk:PySem.W.takesIn K (.ref f)=some false
end L2
namespace L2
open PySem PySem.Spec PySem.Calls PyProof.Rows
def cN{α:Type}(n:Nat)(lt:Nat->Nat->Bool):PySem.W.KasT α->Option α
 |.ret a=>some a
 |.ask i j k=>if i<n/\j<n/\i≠j then cN n lt (k (lt i j))else none
theorem og{α:Type}{n:Nat}{lt:Nat->Nat->Bool}{cmp:Nat->Nat->(Bool->Shared->Prop)->Shared->Prop}{Q:α->Shared->Prop}{s:Shared}(hc:∀i j C,i<n->j<n->i≠j->C (lt i j) s->cmp i j C s):∀(t:PySem.W.KasT α) {a:α},cN n lt t=some a->Q a s->t.kasWp cmp Q s
 |.ret b,a,e,h=>by cases e;exact h
 |.ask i j k,a,e,h=>by
  unfold cN at e;by_cases z:i<n/\j<n/\i≠j
  ·rw[ab z]at e;exact hc i j _ z.1 z.2.1 z.2.2 (og hc (k (lt i j)) e h)
  ·rw[ae z]at e;cases e
theorem Inv.adopt {X:Cx}{pins:List (Addr×Obj)}{σ:St}{H:Hp}{s:Shared}{b:Addr}{o:HO}(I:Inv X pins σ H s)(h0:X.eZ.heap.objs.size<=b)(f:jy X pins H b)(new:bu X.prog X.w (upd H b o) s.heap b o):Inv X pins σ (upd H b o) s:=by
 obtain⟨hn,hL,_,_,hC,hP⟩:=f;refine⟨I.ok,I.os,I.bare,⟨I.base.keep,I.base.slot,fun c u e n hx=>?_,I.base.there,fun c xs e=>?_,fun c u v e=>?_,fun c ps e=>?_⟩,I.loc,I.cell,?_,fun x c e=>?_,fun p hp=>?_,fun c u e=>?_,I.len⟩
 ·rw[ak (aS (bA (ax e) h0))];exact I.base.free c u e n hx
 ·have q:=I.base.kX c xs e;rw[ak (aN q hn)];exact q
 ·have q:=I.base.jx c u v e;rw[ak (aN q hn)];exact q
 ·obtain⟨more,q⟩:=I.base.jV c ps e;exact⟨more,by rw[ak (aN q hn)];exact q⟩
 ·rw[ak hL.symm];exact I.free
 ·rw[ak (hC x c e)];exact I.gr x c e
 ·obtain⟨e,n,r⟩:=I.pin p hp;exact⟨e,by rw[ak (hP p hp)];exact n,r⟩
 ·by_cases z:c=b
  ·subst z;rw[aH]at e;cases e;exact new
  ·rw[ak z]at e;exact(I.bQ c u e).ly (fun _ _ _ q=>q) (fun d q=>by rw[ak (aN q hn)];exact q) fun d xs q=>by rw[ak (aN q hn)];exact q
end L2
namespace L2
open PySem PySem.Spec PySem.Calls PyProof.Rows
section
variable {prog:Program}{w:World}{A:Around}{E:Value->Shared->Prop}{s:Shared}
theorem pB{a:Addr}{vs:List Value}{n:Nat}{P:PySem.Fin->Shared->Prop}(ho:s.heap.get? a=some (seqObj "list" vs.toArray n))(h2:vs.length<2)
  (h:∀h' c,(∀b o,b≠a->s.heap.get? b=some o->h'.get? b=some o)->h'.get? a=some (seqObj "list" vs.toArray c)->P (.done (.ret .none)) {s with heap:=h'}):
  wpAny (model prog w) A (Builtin.«list.sort» ⟨[.ref a],[]⟩) P E s:=by
 rw[list_sort_plain];have ha:a<s.heap.objs.size:=ax ho;refine aa (listItems_at ho rfl ?_);refine aa (iK ho rfl ?_ (by rw[bf,bS];omega) (bG _));obtain⟨e1,Hn⟩:∃e1,(s.heap.update a (Obj.mapSeq fun _=>#[])).get? a=some (seqObj "list" #[] e1):=⟨_,mH ho (fun _=>#[])⟩;refine aa (seqEpoch_at Hn rfl ?_);refine aa (mG ?_ (by rw[bS];simp;omega));refine aa (iI ?_ (bG _));refine cV ?_
 have TU:(((s.heap.update a (Obj.mapSeq fun _=>#[])).push (seqObj "tuple" vs.toArray 0)).push (seqObj "list" #[] 0)).get? a=some (seqObj "list" #[] e1):=by
  rw[Heap.get?_push_ne _ _ _ (by rw[size_push',Heap.size_update];exact aS (iB ha)),Heap.get?_push_ne _ _ _ (by rw[Heap.size_update];exact aS ha)];exact Hn
 show wpAny (model prog w) A _ P E {s with heap:=((s.heap.update a (Obj.mapSeq fun _=>#[])).push (seqObj "tuple" vs.toArray 0)).push (seqObj "list" #[] 0)};dsimp only;have JK:vs.toArray.size<2:=by simpa using h2
 rw[ab JK,ab JK];refine aa (af ?_);rw[StateT.run_pure];refine aa (af ?_);dsimp only;refine aa (seqEpoch_at TU rfl ?_);refine aa (iK TU rfl ?_ (bG _) (by rw[Array.size_map];show(pairsOf vs).size<=_;rw[pairsOf_size,bS];omega));simp only[iz,bX,bB];refine af ?_
 have eo:(vs.toArray.zip vs.toArray).map (·.2)=vs.toArray:=by
  apply Array.toList_inj.mp;simp only[Array.toList_map,Array.toList_zip];exact List.map_snd_zip (aA _)
 obtain⟨e,he⟩:=sortedHeap_at (out:=(vs.toArray.zip vs.toArray).map (·.2)) ho;refine h (sortedHeap s.heap a vs ((vs.toArray.zip vs.toArray).map (·.2))) e (fun b o hb q=>(sortedHeap_old hb (ax q)).trans q) ?_
 rw[he,eo]
end
def vc(h:Heap)(L D:Addr):List (Addr×Obj):=(yq h L).filter fun p=>decide (p.1≠D)
theorem gb{h:Heap}{L D b:Addr}{o:Obj}:(b,o)∈vc h L D↔b≠L/\b≠D/\h.get? b=some o:=by
 unfold vc;rw[bF,yr,cH];exact⟨fun z=>⟨z.1.1,z.2,z.1.2⟩,fun z=>⟨⟨z.1,z.2.2⟩,z.2.1⟩⟩
section
variable {X:Cx}
variable {o:Expr}{p1 apos jj pos:Pos}{F:av->Rs Tr}
theorem vd{K:PySem.W.Frag}{W:Vw}{f:Nat->V}{g:Nat->Tr}:∀{p:List Nat},(∀i∈p,Rep K W (f i) (g i))->aL K W (p.map f) (p.map g)
 |[],_=>.nil
 |i::p,h=>.cons (h i (aW ..)) (vd fun j m=>h j (aV _ m))
end
end L2
namespace L2
open PySem PySem.Spec PyProof.Rows PySem.W
theorem eD{α β:Type}{n:Nat}{lt:Nat->Nat->Bool}{f:α->KasT β}:∀(t:KasT α),cN n lt (t.bind f)=(cN n lt t).bind fun a=>cN n lt (f a)
 |.ret a=>rfl
 |.ask i j k=>by
  show(if i<n/\j<n/\i≠j then cN n lt ((k (lt i j)).bind f)else none)=_;show _=Option.bind (if i<n/\j<n/\i≠j then cN n lt (k (lt i j))else none) _;by_cases z:i<n/\j<n/\i≠j
  ·rw[ab z,ab z];exact eD _
  ·rw[ae z,ae z];rfl
structure Bs(n:Nat)(lt:Nat->Nat->Bool):Prop where
 as:∀i j,i<n->j<n->i≠j->lt i j=!lt j i
 tr:∀i j k,i<n->j<n->k<n->lt i j=true->lt j k=true->lt i k=true
def Pn(n:Nat)(p:Array Nat):Prop:=p.toList.Perm (List.range n)
def vN(lt:Nat->Nat->Bool)(p:Array Nat)(a b:Nat):Prop:=lt (p.getD a 0) (p.getD b 0)=true
def eC(lt:Nat->Nat->Bool)(p:Array Nat)(k:Nat):Prop:=∀a b,a<b->b<k->vN lt p a b
def wQ(lt:Nat->Nat->Bool)(p:Array Nat)(k:Nat):Prop:=∀a b,a<b->b<k->vN lt p b a
section
variable {n:Nat}{lt:Nat->Nat->Bool}{p:Array Nat}
theorem uj:∀{l:List Nat} {i j x:Nat},l.Nodup->l[i]?=some x->l[j]?=some x->i=j
 |[],_,_,_,_,h,_=>by simp at h
 |a::l,0,0,_,_,_,_=>rfl
 |a::l,0,j+1,x,nd,h1,h2=>by
  rw[dN]at nd;cases h1;exact absurd (bM (show l[j]?=some a from h2)) nd.1
 |a::l,i+1,0,x,nd,h1,h2=>by
  rw[dN]at nd;cases h2;exact absurd (bM (show l[i]?=some a from h1)) nd.1
 |a::l,i+1,j+1,x,nd,h1,h2=>by
  rw[dN]at nd;rw[uj nd.2 (show l[i]?=some x from h1) (show l[j]?=some x from h2)]
theorem Pn.size (h:Pn n p):p.size=n:=by
 have q:=List.Perm.length_eq h;rw[bz,gx]at q;exact q
theorem Pn.getD (h:Pn n p){a:Nat}(ha:a<n):p[a]?=some (p.getD a 0):=by
 rw[cj,du (by rw[h.size];exact ha)];rfl
theorem Pn.lo (h:Pn n p){a:Nat}(ha:a<n):p.getD a 0<n:=by
 have e:=h.getD ha;rw[<-cQ]at e;exact cI.mp ((List.Perm.mem_iff h).mp (bM e))
theorem Pn.ne (h:Pn n p){a b:Nat}(ha:a<n)(hb:b<n)(sU:a≠b):p.getD a 0≠p.getD b 0:=by
 intro e;have e1:=h.getD ha;have e2:=h.getD hb;rw[<-cQ]at e1 e2;have nd:p.toList.Nodup:=(List.Perm.nodup_iff h).mpr qO;rw[<-e]at e2;exact sU (uj nd e1 e2)
theorem Bs.no (L:Bs n lt)(h:Pn n p){a b:Nat}(ha:a<n)(hb:b<n)(sU:a≠b)(e:lt (p.getD a 0) (p.getD b 0)=false):vN lt p b a:=by
 have q:=L.as _ _ (h.lo ha) (h.lo hb) (h.ne ha hb sU);rw[e]at q;unfold vN;cases z:lt (p.getD b 0) (p.getD a 0)with
 |true=>rfl
 |false=>rw[z]at q;cases q
theorem Bs.trans (L:Bs n lt)(h:Pn n p){a b c:Nat}(ha:a<n)(hb:b<n)(hc:c<n)(e1:vN lt p a b)(e2:vN lt p b c):vN lt p a c:=L.tr _ _ _ (h.lo ha) (h.lo hb) (h.lo hc) e1 e2
theorem m5{α:Type}(h:Pn n p){a b:Nat}(ha:a<n)(hb:b<n)(sU:a≠b){k:Bool->KasT α}:cN n lt (.ask (p.getD a 0) (p.getD b 0) k)=cN n lt (k (lt (p.getD a 0) (p.getD b 0))):=ab ⟨h.lo ha,h.lo hb,h.ne ha hb sU⟩
theorem eC.succ (L:Bs n lt)(h:Pn n p){m:Nat}(h1:1<=m)(hm:m<n)(s:eC lt p m)(e:vN lt p (m - 1) m):eC lt p (m+1):=by
 intro a b sU hb;by_cases z:b<m
 ·exact s a b sU z
 ·have:b=m:=by omega
  subst this;by_cases za:a=b - 1
  ·rw[za];exact e
  ·exact L.trans h (by omega) (by omega) hm (s a (b - 1) (by omega) (by omega)) e
theorem wQ.succ (L:Bs n lt)(h:Pn n p){m:Nat}(h1:1<=m)(hm:m<n)(s:wQ lt p m)(e:vN lt p m (m - 1)):wQ lt p (m+1):=by
 intro a b sU hb;by_cases z:b<m
 ·exact s a b sU z
 ·have:b=m:=by omega
  subst this;by_cases za:a=b - 1
  ·rw[za];exact e
  ·exact L.trans h hm (by omega) (by omega) e (s a (b - 1) (by omega) (by omega))
theorem ve(L:Bs n lt)(h:Pn n p):∀(f m:Nat),1<=m->m+f<=n->eC lt p m->∃m',cN n lt (kas_asc p f m)=some m'/\m<=m'/\m'<=m+f/\eC lt p m'/\(m'<m+f->vN lt p m' (m' - 1))
 |0,m,h1,_,s=>⟨m,rfl,aA _,aA _,s,fun z=>absurd z (cJ _)⟩
 |f+1,m,h1,hf,s=>by
  unfold kas_asc;rw[m5 h (by omega) (by omega) (by omega)];cases e:lt (p.getD m 0) (p.getD (m - 1) 0)with
  |true=>exact⟨m,rfl,aA _,by omega,s,fun _=>e⟩
  |false=>
   obtain⟨m',q1,q2,q3,q4,q5⟩:=ve L h f (m+1) (by omega) (by omega) (s.succ L h h1 (by omega) (L.no h (by omega) (by omega) (by omega) e));exact⟨m',q1,by omega,by omega,q4,fun z=>q5 (by omega)⟩
theorem wR(L:Bs n lt)(h:Pn n p):∀(f m:Nat),1<=m->m+f<=n->wQ lt p m->∃m',cN n lt (kas_desc f p m 0)=some (p,m',0)/\m<=m'/\m'<=m+f/\wQ lt p m'
 |0,m,h1,_,s=>⟨m,rfl,aA _,aA _,s⟩
 |f+1,m,h1,hf,s=>by
  unfold kas_desc;rw[m5 h (by omega) (by omega) (by omega)];cases e:lt (p.getD m 0) (p.getD (m - 1) 0)with
  |true=>
   obtain⟨m',q1,q2,q3,q4⟩:=wR L h f (m+1) (by omega) (by omega) (s.succ L h h1 (by omega) e);exact⟨m',q1,by omega,by omega,q4⟩
  |false=>
   refine⟨m,?_,aA _,by omega,s⟩;show cN n lt (.ask (p.getD (m - 1) 0) (p.getD m 0) _)=_;rw[m5 h (by omega) (by omega) (by omega),show lt (p.getD (m - 1) 0) (p.getD m 0)=true from L.no h (by omega) (by omega) (by omega) e]
   rfl
theorem rev_getD(h:Pn n p){m:Nat}(hm:m<=n)(k:Nat):(kas_rev p 0 m).getD k 0=if k<m then p.getD (m - 1 - k) 0 else p.getD k 0:=by
 unfold kas_rev;have e:=getElem?_mirror_all (xs:=p) (i:=0) (j:=m) (by rw[h.size];exact hm) k;rw[Nat.sub_zero]at e;rw[cj,Nat.sub_zero,e];by_cases z:k<m
 ·rw[ab ⟨bG _,z⟩,ab z,cj];congr 3;omega
 ·rw[ae (fun q=>z q.2),ae z,cj]
theorem JL(h:Pn n p){m:Nat}:Pn n (kas_rev p 0 m):=by
 unfold kas_rev;exact(vR.mp (mirror_perm p 0 m _)).trans h
theorem Bt(L:Bs n lt)(h:Pn n p)(h2:2<=n):∃m p',cN n lt (kas_count n p)=some (m,p')/\Pn n p'/\1<=m/\m<=n/\eC lt p' m:=by
 unfold kas_count;rw[eD];obtain⟨m,q1,q2,q3,q4,q5⟩:=ve L h (n - 1) 1 (aA _) (by omega) (fun a b _ hb=>by omega);rw[q1];show∃m' p',cN n lt (if(m==n)=true then _ else if m>1 then _ else _)=_/\_;by_cases z:m=n
 ·rw[ab (by rw[z];exact bD n)];exact⟨m,p,rfl,h,q2,by omega,q4⟩
 ·rw[ae (by simpa using z)];by_cases z1:m>1
  ·rw[ab z1,m5 h (by omega) (by omega) (by omega),show lt (p.getD 0 0) (p.getD (m - 1) 0)=true from q4 0 (m - 1) (by omega) (by omega),ab rfl];exact⟨m,p,rfl,h,q2,by omega,q4⟩
  ·rw[ae z1];have hm:m=1:=by omega
   subst hm;have Pz:vN lt p 1 0:=q5 (by omega);unfold kas_descPart;rw[eD];obtain⟨m',r1,r2,r3,r4⟩:=wR L h (n - (1+1)) (1+1) (by omega) (by omega) (fun a b sU hb=>by
    have jC:b=1:=by omega
    have dB:a=0:=by omega
    rw[jC,dB];exact Pz)
   rw[r1];show∃Xv Xw,cN n lt (if 0>0 then _ else kas_tail3 m' n p)=_/\_;rw[ae (by omega)];unfold kas_tail3;rw[eD];have hr:=JL h (m:=m');obtain⟨m2,s1,s2,s3,s4,_⟩:=ve L hr (n - m') m' (by omega) (by omega) (fun a b sU hb=>by
    unfold vN;rw[rev_getD h (by omega),rev_getD h (by omega),ab (by omega),ab hb];exact r4 (m' - 1 - b) (m' - 1 - a) (by omega) (by omega))
   rw[s1];exact⟨m2,_,rfl,hr,by omega,by omega,s4⟩
theorem oh(L:Bs n lt)(h:Pn n p){k:Nat}(hk:k<n):∀(f l r:Nat),l<=r->r<=k->r - l<=f->(∀a,a<l->vN lt p a k)->(∀a,r<=a->a<k->vN lt p k a)->eC lt p k->∃l',cN n lt (kas_place p k f l r)=some l'/\l'<=k/\(∀a,a<l'->vN lt p a k)/\∀a,l'<=a->a<k->vN lt p k a
 |0,l,r,VH,TV,hf,h1,h2,s=>⟨l,rfl,by omega,h1,fun a ha Le=>h2 a (by omega) Le⟩
 |f+1,l,r,VH,TV,hf,h1,h2,s=>by
  unfold kas_place;by_cases z:l>=r
  ·rw[ab z];exact⟨l,rfl,by omega,h1,fun a ha Le=>h2 a (by omega) Le⟩
  ·rw[ae z,m5 h hk (by omega) (by omega)];cases e:lt (p.getD k 0) (p.getD ((l+r)/2) 0)with
   |true=>
    refine oh L h hk f l ((l+r)/2) (by omega) (by omega) (by omega) h1 (fun a ha Le=>?_) s;by_cases za:a=(l+r)/2
    ·rw[za];exact e
    ·exact L.trans h hk (by omega) (by omega) e (s _ a (by omega) Le)
   |false=>
    have e':=L.no h hk (show(l+r)/2<n by omega) (by omega) e;refine oh L h hk f ((l+r)/2+1) r (by omega) TV (by omega) (fun a ha=>?_) h2 s;by_cases za:a=(l+r)/2
    ·rw[za];exact e'
    ·exact L.trans h (by omega) (by omega) hk (s a _ (by omega) (by omega)) e'
theorem wU(h:Pn n p){k l:Nat}(hk:k<n)(hl:l<=k)(c:Nat):(bubble p k (k - l)).getD c 0=if c=l then p.getD k 0 else if l<c/\c<=k then p.getD (c - 1) 0 else p.getD c 0:=by
 have e:=getElem?_bubble (xs:=p) (src:=k) (by rw[h.size];exact hk) (k - l) (by omega) c;rw[cj,e];have Lf:k - (k - l)=l:=by omega
 rw[Lf];by_cases z:c=l
 ·rw[ab z,ab z,cj]
 ·rw[ae z,ae z];by_cases z2:l<c/\c<=k
  ·rw[ab z2,ab z2,cj]
  ·rw[ae z2,ae z2,cj]
theorem zK(L:Bs n lt):∀(f:Nat) (p:Array Nat) (k:Nat),Pn n p->1<=k->k+f=n->eC lt p k->∃p',cN n lt (kas_bin f p k)=some p'/\Pn n p'/\eC lt p' n
 |0,p,k,h,h1,hf,s=>⟨p,rfl,h,by rw[<-show k=n from hf];exact s⟩
 |f+1,p,k,h,h1,hf,s=>by
  unfold kas_bin;rw[eD];have hk:k<n:=by omega
  obtain⟨l,q1,q2,q3,q4⟩:=oh L h hk k 0 k (by omega) (aA _) (by omega) (fun a ha=>by omega) (fun a ha Le=>by omega) s;rw[q1];have NC:Pn n (bubble p k (k - l)):=(vR.mp (bubble_perm p k (k - l))).trans h;refine zK L f _ (k+1) NC (by omega) (by omega) fun a b sU hb=>?_
  unfold vN;rw[wU h hk q2,wU h hk q2];by_cases zb:b=l
  ·rw[ab zb,ae (by omega),ae (by omega)];exact q3 a (by omega)
  ·rw[ae zb];by_cases za:a=l
   ·rw[ab za,ab (by omega)];exact q4 (b - 1) (by omega) (by omega)
   ·rw[ae za];by_cases z1:l<a/\a<=k
    ·rw[ab z1,ab (by omega)];exact s (a - 1) (b - 1) (by omega) (by omega)
    ·rw[ae z1];by_cases z2:l<b/\b<=k
     ·rw[ab z2];exact s a (b - 1) (by omega) (by omega)
     ·rw[ae z2];exact s a b sU (by omega)
theorem wV(L:Bs n lt)(h2:2<=n):∃p,cN n lt (kas_sort n)=some p/\Pn n p/\eC lt p n:=by
 unfold kas_sort;rw[eD];have h:Pn n (List.toArray (List.range n)):=List.Perm.refl _;obtain⟨m,p',q1,q2,q3,q4,q5⟩:=Bt L h h2;rw[q1];show∃p,cN n lt (if m<n then _ else _)=_/\_;by_cases z:m<n
 ·rw[ab z,qR q3];exact zK L (n - m) p' m q2 q3 (by omega) q5
 ·rw[ae z];have:m=n:=by omega
  exact⟨p',rfl,q2,by rw[<-this];exact q5⟩
theorem Bu(h:Pn n p)(s:eC lt p n):p.toList.Pairwise fun i j=>lt i j=true:=by
 rw[List.pairwise_iff_getElem];intro i j hi hj sL;have uZ:i<n:=by rw[bz,h.size]at hi;exact hi
 have wW:j<n:=by rw[bz,h.size]at hj;exact hj
 have e:=s i j sL wW;unfold vN at e;have e1:=h.getD uZ;have e2:=h.getD wW;rw[<-cQ,aI hi]at e1;rw[<-cQ,aI hj]at e2;rw[Option.some.inj e1,Option.some.inj e2];exact e
end
end L2
namespace L2
open PySem PySem.Spec PyProof.Rows
structure QE(X:Cx)(e:Expr)(F:av->Rs Tr):Prop where
 h:PE X e (tP X F)
structure QT(X:Cx)(e:Expr)(F:av->Rs Bool):Prop where
 h:PT X e (tQ X F)
structure QW(X:Cx)(e:Expr)(F:av->Rs Bool):Prop where
 h:PW X e (tQ X F)
structure QA(X:Cx)(e:List Expr)(F:av->Rs (List Tr)):Prop where
 h:PA X e (zi X F)
structure QS(X:Cx)(e:Stmt)(F:av->Rs Out):Prop where
 h:PS X e (tS X F)
structure QB(X:Cx)(e:List Stmt)(F:av->Rs Out):Prop where
 h:jW X e (tS X F)
structure QG(X:Cx)(e:Expr)(F:j_):Prop where
 h:PG X e (tG X F)
structure PC(X:Cx)(e:List Expr)(F:List Tr->av->Rs av):Prop where
 h:EJ X e (K8 X F)
structure QI(X:Cx)(tg e:Expr)(F:av->Rs (List Tr)):Prop where
 h:PI X tg e (tI X F)
structure QJ(X:Cx)(tg e:Expr)(F:av->Rs (List Tr)):Prop where
 h:PI X tg e (tJ X F)
structure QF(X:Cx)(e:List Expr)(F:av->Rs Bool):Prop where
 h:PF X e (tQ X F)
structure ZE(X:Cx)(e:Expr)(F:av->Ab->Rz Tr):Prop where
 h:PE X e (tE X F)
structure ZO(X:Cx)(e:Expr)(F:av->Ab->Rz Tr):Prop where
 h:PE X e (tE X F)
theorem B8{X:Cx}{e:Expr}{F:av->Ab->Rz Tr}(h:ZE X e F):ZO X e F:=⟨h.h⟩
structure NE(X:Cx)(e:Expr)(F:av->Rs Tr):Prop where
 h:PE X e (tF X F)
structure ZT(X:Cx)(e:Expr)(F:av->Ab->Rz Bool):Prop where
 h:PT X e (Di X F)
structure ZL(X:Cx)(e:List Expr)(F:av->Ab->Rz (List Tr)):Prop where
 h:PA X e (FP X F)
structure ZS(X:Cx)(e:Stmt)(F:av->Ab->Rz Out):Prop where
 h:PS X e (tZ X F)
structure ZB(X:Cx)(e:List Stmt)(F:av->Ab->Rz Out):Prop where
 h:jW X e (tZ X F)
structure wX(X:Cx)(scope:Scope)(N':List Str)(tg elt:Expr)(ifs:List Expr)(T:j_)(A:av->Rs Bool)(F:av->Rs Tr):Prop where
 all:∀s H ex,QG (lN X scope N' s H ex) tg T/\QF (lN X scope N' s H ex) ifs A/\QE (lN X scope N' s H ex) elt F
theorem wX.to {X:Cx}{scope:Scope}{N':List Str}{tg elt:Expr}{ifs:List Expr}{T:j_}{A:av->Rs Bool}{F:av->Rs Tr}(b:wX X scope N' tg elt ifs T A F):G0 X scope N' tg elt ifs T A F:=
 ⟨fun s H ex=>⟨(b.all s H ex).1.h,(b.all s H ex).2.1.h,(b.all s H ex).2.2.h⟩⟩
section
variable {X:Cx}{a b c:Expr}{pos:Pos}{F G E:av->Rs Tr}
theorem ah(i:Nat){x:Str}{pos:Pos}(hN:X.N[i]?=some x:=by rfl) (hv:HX X.env.scope x:=by first|exact Or.inl rfl|exact Or.inr (Or.inl rfl)|exact Or.inr (Or.inr rfl)) (hd:(x==("__debug__":Str))=false:=by decide) (o7:(x==("__classdict__":Str))=false:=by decide):QE X (.Name x pos) (fun ρ=>ar ρ i):=⟨Mq i hN hv hd o7⟩
theorem bU{i:Int}{j pos}:QE X (.Constant (.int i) j pos) (fun _=>.ok (.int i)):=⟨Mr⟩
theorem Bv{b:Bool}{j pos}:QE X (.Constant (.bool b) j pos) (fun _=>.ok (.bl b)):=⟨Ri⟩
theorem Ho{j pos}:QE X (.Constant .none j pos) (fun _=>.ok .cq):=⟨Ms⟩
theorem wY{x:Str}{n:String}(hm:X.mg x=none)(hv:bootBuiltins x=some (.type n):=by rfl) (hg:Gl X x:=by rfl) (hn:x≠"__name__":=by decide) (hd:(x==("__debug__":Str))=false:=by decide):QE X (.Name x pos) (fun _=>.ok (.ty n)):=⟨Rj hm hv hg hn hd⟩
theorem gc{op:Operator}{h:Tr->Tr->Rs Tr}(ho:tX X (binaryOp op) h)(ha:QE X a F)(hb:QE X b G):QE X (.BinOp a op b pos) (fun ρ=>cx h (F ρ) (G ρ)):=⟨Mt ho ha.h hb.h⟩
theorem rU{op:CmpOp}{h:Tr->Tr->Rs Tr}(ho:tX X (compareOp op) h)(ha:QE X a F)(hb:QE X b G)(hm:behindInMarks op b=false:=by first|exact jY _|rfl|with_unfolding_all rfl):QE X (.Compare a [op] [b] pos) (fun ρ=>cx h (F ρ) (G ρ)):=⟨Mu ho ha.h hb.h hm⟩
theorem i3{op:CmpOp}{h:Tr->Tr->Rs Tr}(ho:tX X (compareOp op) h)(ha:QE X a F)(hb:QE X b G)(hm:behindInMarks op b=false:=by first|exact jY _|rfl|with_unfolding_all rfl):QT X (.Compare a [op] [b] pos) (fun ρ=>jA (cx h (F ρ) (G ρ))):=⟨Mv ho ha.h hb.h hm⟩
theorem m6(ha:QE X a F)(he:iS a=true:=by rfl):QT X a (fun ρ=>(F ρ).bind gz):=⟨Mw ha.h he⟩
end
section
variable {X:Cx}{a b c:Expr}{pos:Pos}{F G E:av->Rs Tr}{A B:av->Rs Bool}{rest:List Expr}
theorem Hq(ha:QT X a A):QT X (.UnaryOp .Not a pos) (fun ρ=>CN (A ρ)):=⟨Mx ha.h⟩
theorem Hr(ha:QT X a A):QW X (.BoolOp .Or [a] pos) A:=⟨My ha.h⟩
theorem ND(ha:QT X a A)(hb:QW X (.BoolOp .Or (b::rest) pos) B):QW X (.BoolOp .Or (a::b::rest) pos) (fun ρ=>Pg (A ρ) (B ρ)):=⟨w_or ha.h hb.h⟩
theorem Ds{op}{es:List Expr}(h:QW X (.BoolOp op es pos) A):QT X (.BoolOp op es pos) A:=⟨IZ h.h⟩
theorem zL(ha:QE X a F)(hb:QE X (.BoolOp .And (b::rest) pos) G):QE X (.BoolOp .And (a::b::rest) pos) (fun ρ=>AW (F ρ) (G ρ)):=⟨Mz ha.h hb.h⟩
theorem Dt{op}(h:QE X a F):QE X (.BoolOp op [a] pos) F:=⟨MA h.h⟩
end
section
variable {X:Cx}{a b c:Expr}{pos:Pos}{F G E:av->Rs Tr}{A B:av->Rs Bool}{rest:List Expr}{es:List Expr}{L:av->Rs (List Tr)}
theorem aP:QA X [] (fun _=>.ok []):=⟨MB⟩
theorem aq(ha:QE X a F)(hr:QA X es L)(hs:isStar a=false:=by rfl):QA X (a::es) (fun ρ=>ag (F ρ) (L ρ)):=⟨I0 ha.h hr.h hs⟩
theorem lp{x1}(h:QA X es L):QE X (.Tuple es x1 pos) (fun ρ=>fB (L ρ)):=⟨MC h.h⟩
theorem cp{id:String}{x:Str}{p:Pos}{e:Expr}{h:List Tr->Rs Tr}(hc:g9 X (.builtin id) h)(hm:X.mg x=none)(ha:QA X (e::es) L)(hv:bootBuiltins x=some (.builtin id):=by rfl) (hg:Gl X x:=by rfl) (hn:x≠"__name__":=by decide) (ji:(x==("__debug__":Str))=false:=by decide) (eJ:bq (e::es)=true:=by rfl):QE X (.Call (.Name x p) (e::es) [] pos) (fun ρ=>aC h (L ρ)):=⟨Fe hc hm ha.h hv hg hn ji eJ⟩
theorem i4{T:String}{x:Str}{p:Pos}{e:Expr}{h:List Tr->Rs Tr}(hc:g9 X (.type T) h)(hm:X.mg x=none)(ha:QA X (e::es) L)(hv:bootBuiltins x=some (.type T):=by rfl) (hg:Gl X x:=by rfl) (hn:x≠"__name__":=by decide) (ji:(x==("__debug__":Str))=false:=by decide) (eJ:bq (e::es)=true:=by rfl):QE X (.Call (.Name x p) (e::es) [] pos) (fun ρ=>aC h (L ρ)):=⟨CO hc hm ha.h hv hg hn ji eJ⟩
theorem NF{x:Str}{st:Stmt}{ps:List Str}{f:Addr}{fd:FuncData}{k:Nat}{h:List Tr->Rs Tr}{e:Expr}{p:Pos}(D:tW X.K X.mg x st ps f fd)(G:f6 X.prog X.w X.K X.mg X.base lz k f fd ps (spT X.K h))(hr:dA k X.A)(ha:QA X (e::es) L)(hg:Gl X x:=by rfl) (ji:(x==("__debug__":Str))=false:=by decide) (eJ:bq (e::es)=true:=by rfl):QE X (.Call (.Name x p) (e::es) [] pos) (fun ρ=>aC h (L ρ)):=⟨MD D G hr ha.h hg ji eJ⟩
end
section
variable {X:Cx}{a b c e:Expr}{pos:Pos}{F:av->Rs Tr}{G G':av->Rs Out}{A:av->Rs Bool}{st:Stmt}{rest ME:List Stmt}
theorem wZ:QB X [] (fun ρ=>.ok (.nx ρ)):=⟨MF⟩
theorem oj(h1:QS X st G)(h2:QB X rest G'):QB X (st::rest) (fun ρ=>wq (G ρ) G'):=⟨I_ h1.h h2.h⟩
theorem m7(h1:QS X st G):QB X [st] G:=⟨MG h1.h⟩
theorem NG{i:Nat}{x:Str}{pos':Pos}(he:QE X e F)(hN:X.N.Nodup:=by assumption) (hi:X.N[i]?=some x:=by rfl) (hx:Loc X.env.scope x:=by first|exact Or.inl rfl|exact Or.inr rfl) (hs:lD e=false:=by rfl) (hf:X.fn x=true\/X.env.scope.names.lookup x=some .local:=by first|exact .inl rfl|exact .inr rfl|assumption):QS X (.Assign [.Name x pos'] e pos) (fun ρ=>Ja i (F ρ) ρ):=⟨MI he.h hN hi hx hs hf⟩
theorem m8(he:QE X e F):QS X (.Return (some e) pos) (fun ρ=>j9 (F ρ)):=⟨MJ he.h⟩
theorem Du{ys ns:List Stmt}(hc:QT X c A)(ha:QB X ys G)(hb:QB X ns G'):QS X (.If c ys ns pos) (fun ρ=>MK (A ρ) (G ρ) (G' ρ)):=⟨Rl hc.h ha.h hb.h⟩
theorem c_(i:Nat){x:Str}(hN:X.N.Nodup:=by assumption) (hi:X.N[i]?=some x:=by rfl) (hx:Loc X.env.scope x:=by first|exact Or.inl rfl|exact Or.inr rfl) (hf:X.fn x=true\/X.env.scope.names.lookup x=some .local:=by first|exact .inl rfl|exact .inr rfl|assumption):QG X (.Name x pos) (gN i):=⟨Jc i hN hi hx hf⟩
theorem Hs:PC X [] (yg []):=⟨ML⟩
theorem vf{es:List Expr}{i:Nat}{is:List Nat}{x:Str}(h2:PC X es (yg is))(hN:X.N.Nodup:=by assumption) (hi:X.N[i]?=some x:=by rfl) (hx:Loc X.env.scope x:=by first|exact Or.inl rfl|exact Or.inr rfl) (hf:X.fn x=true\/X.env.scope.names.lookup x=some .local:=by first|exact .inl rfl|exact .inr rfl|assumption) (hs:(assignEach (.Name x pos::es) X.env).map (·.2)=assign (.Name x pos) X.env::(assignEach es X.env).map (·.2):=by rfl):PC X (.Name x pos::es) (yg (i::is)):=⟨Jd h2.h hN hi hx hf hs⟩
theorem Ht{es:List Expr}{k:Nat}{is:List Nat}(h:PC X es (yg is))(hc:X.calm=true:=by rfl) (hn:(assignEach es X.env).length=is.length:=by rfl) (eJ:(assignEach es X.env).findIdx? (·.1)=none:=by rfl):QG X (.Tuple es k pos) (gT is):=⟨MM h.h hc hn eJ⟩
theorem lq{tg l:Expr}(hl:QE X l F):QI X tg l (fun ρ=>iU (F ρ)):=⟨MN hl.h⟩
end
section
variable {X:Cx}{a b c e:Expr}{pos:Pos}{F:av->Rs Tr}{G G':av->Rs Out}{A:av->Rs Bool}{st:Stmt}{rest ME:List Stmt}{L:av->Rs (List Tr)}{tg:Expr}{p:Pos}
theorem w4(hm:X.mg "range"=none)(ha:QA X [a] L)(hg:Gl X "range":=by rfl) (hs:bq [a]=true:=by rfl):QI X tg (.Call (.Name "range" p) [a] [] pos) (fun ρ=>rD (L ρ)):=⟨CQ hm ha.h hg hs⟩
end
section
variable {X:Cx}{a b c e:Expr}{pos:Pos}{F:av->Rs Tr}{G G':av->Rs Out}{A:av->Rs Bool}{st:Stmt}{rest ME:List Stmt}{L:av->Rs (List Tr)}{tg:Expr}{p:Pos}{scope:Scope}{N':List Str}{ix:List (Option Nat)}{elt iter:Expr}{ifs:List Expr}{T:j_}{W:av->Rs (List Tr)}
theorem zM{X:Cx}:QF X [] (fun _=>.ok true):=⟨MP⟩
theorem uk{X:Cx}{c:Expr}{A:av->Rs Bool}(h:QT X c A):QF X [c] A:=⟨MQ h.h⟩
theorem F3(Lk:e_ X N' ix scope)(hi:QI X tg iter W)(j5:wX X scope N' tg elt ifs T A F)(hT:gk T)(hc:X.calm=true:=by rfl) (hs:isSet iter=false:=by rfl):QE X (.ListComp elt [⟨tg,iter,ifs,0⟩] scope pos) (fun ρ=>gL ix T A F (W ρ) ρ):=⟨Ro Lk hi.h j5.to hT hc hs⟩
end
section
variable {X:Cx}{a b e:Expr}{pos:Pos}{F G:av->Rs Tr}
theorem Dv(hu:X.A.units+1<cLine)(ha:QE X a F)(hb:QE X b G)(hs:pM b:=by exact fun _ _=>rfl):QE X (.Subscript a b pos) (fun ρ=>cx G1 (F ρ) (G ρ)):=⟨Rr hu ha.h hb.h hs⟩
end
section
variable {X:Cx}{a b e:Expr}{pos p v5:Pos}{L:av->Rs (List Tr)}{es:List Expr}{x1:Nat}
theorem NH(hm:X.mg "zip"=none)(ha:QA X [a,b] L)(hg:Gl X "zip":=by rfl) (hs:bq [a,b]=true:=by rfl):QI X (.Tuple es x1 v5) (.Call (.Name "zip" p) [a,b] [] pos) (fun ρ=>Rx (L ρ)):=⟨Nc hm ha.h hg hs⟩
end
section
variable {X:Cx}{pins:List (Addr×Obj)}{σ:St}{a b e:Expr}{es:List Expr}{pos:Pos}{F G:av->Rs Tr}{A:av->Rs Bool}{scope:Scope}{N':List Str}{ix:List (Option Nat)}{elt iter tg:Expr}{ifs:List Expr}{T:j_}{W:av->Rs (List Tr)}
theorem Hv(Lk:e_ X N' ix scope)(hi:QJ X tg iter W)(j5:wX X scope N' tg elt ifs T A F)(hT:gk T)(hc:X.calm=true:=by rfl) (hs:isSet iter=false:=by rfl):QE X (.ListComp elt [⟨tg,iter,ifs,0⟩] scope pos) (fun ρ=>gL ix T A F (W ρ) ρ):=⟨MY Lk hi.h j5.to hT hc hs⟩
end
section
variable {X:Cx}{e:Expr}{es:List Expr}{F:av->Rs Tr}{P:av->Rs Bool}{L:av->Rs (List Tr)}{FZ GZ:av->Ab->Rz Tr}{LZ:av->Ab->Rz (List Tr)}
theorem PD(h:NE X e F):QE X e F:=⟨VB h.h⟩
theorem aK(h:QE X e F):ZE X e (fun ρ A=>ai (F ρ) A):=⟨Jz h.h⟩
theorem pS(h:QT X e P):ZT X e (fun ρ A=>ai (P ρ) A):=⟨FQ h.h⟩
theorem rV(h:QE X e F):ZE X e (fun ρ A=>pz (F (aT A ρ)) A):=⟨JA h.h⟩
theorem m9(h:QT X e P):ZT X e (fun ρ A=>ai (P (aT A ρ)) A):=⟨FR h.h⟩
theorem lr(h:NE X e F):ZE X e (fun ρ A=>dW (F (aT A ρ)) A):=⟨Nk h.h⟩
end
section
variable {X:Cx}{a b c e:Expr}{pos:Pos}{F:av->Ab->Rz Tr}{G G':av->Ab->Rz Out}{P:av->Ab->Rz Bool}{st:Stmt}{rest ME:List Stmt}
theorem oX:ZB X [] (fun ρ A=>.ok (.nx ρ) A):=⟨Nl⟩
theorem aZ(h1:ZS X st G)(h2:ZB X rest G'):ZB X (st::rest) (fun ρ A=>bH (G ρ A) G'):=⟨JC h1.h h2.h⟩
theorem cB(h1:ZS X st G):ZB X [st] G:=⟨Nm h1.h⟩
theorem dG{i:Nat}{x:Str}{pos':Pos}(he:ZE X e F)(hN:X.N.Nodup:=by assumption) (hi:X.N[i]?=some x:=by rfl) (hx:Loc X.env.scope x:=by first|exact Or.inl rfl|exact Or.inr rfl) (hs:lD e=false:=by rfl) (hf:X.fn x=true\/X.env.scope.names.lookup x=some .local:=by first|exact .inl rfl|exact .inr rfl|assumption):ZS X (.Assign [.Name x pos'] e pos) (fun ρ A=>cE i (F ρ A) ρ):=⟨Nn he.h hN hi hx hs hf⟩
theorem kr(he:ZE X e F):ZS X (.Return (some e) pos) (fun ρ A=>hW (F ρ A)):=⟨Np he.h⟩
theorem om(he:ZE X e F)(hs:lD e=false:=by rfl):ZS X (.Expr e pos) (fun ρ A=>fG (F ρ A) ρ):=⟨JD he.h hs⟩
theorem w6{ys ns:List Stmt}(hc:ZT X c P)(h1:ZB X ys G)(h2:ZB X ns G'):ZS X (.If c ys ns pos) (fun ρ A=>uf (P ρ A) (G ρ) (G' ρ)):=⟨RC hc.h h1.h h2.h⟩
theorem rX{tg iter:Expr}{body:List Stmt}{W:av->Rs (List Tr)}{T:j_}(hi:QI X tg iter W)(hg:QG X tg T)(hT:gk T)(hb:ZB X body G)(hp:PassesOwn (model X.prog X.w) X.A X.env X.xe:=by first|exact gU|exact gP) (hc:X.calm=true:=by rfl) (hs:isSet iter=false:=by rfl):ZS X (.For tg iter body [] pos) (fun ρ A=>f' T G (ai (W ρ) A) ρ):=⟨Nq hi.h hg.h hT hb.h hp hc hs⟩
theorem zN(m:Nat){body:List Stmt}(hc:ZT X c P)(hb:ZB X body G)(hp:PassesOwn (model X.prog X.w) X.A X.env X.xe:=by first|exact gU|exact gP):ZS X (.While c body [] pos) (fun ρ A=>fj P G m ρ A):=⟨FT m hc.h hb.h hp⟩
end
section
variable {X:Cx}{a e o:Expr}{es:List Expr}{F:av->Ab->Rz Tr}{L:av->Ab->Rz (List Tr)}{name:Str}{apos jj:Pos}{id:String}
theorem dX:ZL X [] (fun _ A=>.ok [] A):=⟨Dm⟩
theorem cC(h1:ZE X a F)(hr:ZL X es L)(hs:isStar a=false:=by rfl):ZL X (a::es) (fun ρ A=>cb (F ρ A) (L ρ)):=⟨zG h1.h hr.h hs⟩
end
section
variable {X:Cx}{a e o:Expr}{es:List Expr}{F:av->Ab->Rz Tr}{L:av->Ab->Rz (List Tr)}{name:Str}{apos jj:Pos}{id:String}{r:V->List V->Hp->VK->Prop}{h:Nat->List Tr->Ab->Rz Tr}
theorem rY(slot:Slot "list" name id)(L4:typeOf (.builtin id)=pure (.type "method_descriptor"))(hm:O9 X id r)(hz:Px X r h)(ho:ZO X o F)(ha:ZL X (e::es) L)(pa:PlainAttrs "list":=by exact PySem.F.plainAttrs_list) (v_:isCall o=false:=by rfl) (eJ:bq (e::es)=true:=by rfl) (hn:(e::es).length<30:=by decide) (wa:(apos.endLine==jj.line)=true:=by rfl):ZE X (.Call (.Attribute o name apos) (e::es) [] jj) (fun ρ A=>wN h (F ρ A) (L ρ)):=⟨Nr slot L4 hm hz ho.h ha.h pa v_ eJ hn wa⟩
end
section
variable {X:Cx}{a b e:Expr}{es:List Expr}{pos:Pos}{F G:av->Rs Tr}{L:av->Rs (List Tr)}{A:av->Rs Bool}
theorem zO(h:QA X es L):NE X (.List es pos) (fun ρ=>yf (L ρ)):=⟨Nt h.h⟩
theorem vg:NE X (.Dict [] [] pos) (fun _=>.ok (.aE [])):=⟨JG⟩
end
section
variable {X:Cx}{a b e:Expr}{es:List Expr}{pos:Pos}{F G:av->Rs Tr}{L:av->Rs (List Tr)}{A:av->Rs Bool}{scope:Scope}{N':List Str}{ix:List (Option Nat)}{elt iter tg:Expr}{ifs:List Expr}{T:j_}{W:av->Rs (List Tr)}
theorem F4{i:Nat}{x:Str}{px g8:Pos}(Lk:e_ X N' ix scope)(hit:QI X tg iter W)(j5:wX X scope N' tg elt ifs T A F)(hT:gk T)(hN:X.N.Nodup:=by assumption) (hc:X.calm=true:=by rfl) (hi:X.N[i]?=some x:=by rfl) (hx:Loc X.env.scope x:=by first|exact Or.inl rfl|exact Or.inr rfl) (yd:swapsWith (.ListComp elt [⟨tg,iter,ifs,0⟩] scope pos) (some (.Name x px)) g8.line X.env=pure true:=by rfl) (hs:isSet iter=false:=by rfl) (hf:X.fn x=true\/X.env.scope.names.lookup x=some .local:=by first|exact .inl rfl|exact .inr rfl|assumption):ZS X (.Assign [.Name x px] (.ListComp elt [⟨tg,iter,ifs,0⟩] scope pos) g8) (fun ρ A'=>cE i (dW (gL ix T A F (W (aT A' ρ)) (aT A' ρ)) A') ρ):=⟨FV Lk hit.h j5.to hT hN hc hi hx yd hs hf⟩
theorem F5{i:Nat}{x:Str}{px g8:Pos}(Lk:e_ X N' ix scope)(hit:QI X tg iter W)(j5:wX X scope N' tg elt ifs T A F)(hT:gk T)(hN:X.N.Nodup:=by assumption) (hc:X.calm=true:=by rfl) (hi:X.N[i]?=some x:=by rfl) (hx:Loc X.env.scope x:=by first|exact Or.inl rfl|exact Or.inr rfl) (yd:swapsWith (.ListComp elt [⟨tg,iter,ifs,0⟩] scope pos) (some (.Name x px)) g8.line X.env=pure true:=by rfl) (hs:isSet iter=false:=by rfl) (hf:X.fn x=true\/X.env.scope.names.lookup x=some .local:=by first|exact .inl rfl|exact .inr rfl|assumption):ZS X (.Assign [.Name x px] (.ListComp elt [⟨tg,iter,ifs,0⟩] scope pos) g8) (fun ρ A'=>cE i (ai (gL ix T A F (W ρ) ρ) A') ρ):=⟨FW Lk hit.h j5.to hT hN hc hi hx yd hs hf⟩
theorem i5{T:String}{x:Str}{p:Pos}{e:Expr}{h:List Tr->Rs Tr}(hc:e8 X (.type T) (rF X h))(hm:X.mg x=none)(ha:QA X (e::es) L)(hv:bootBuiltins x=some (.type T):=by rfl) (hg:Gl X x:=by rfl) (hn:x≠"__name__":=by decide) (ji:(x==("__debug__":Str))=false:=by decide) (eJ:bq (e::es)=true:=by rfl):NE X (.Call (.Name x p) (e::es) [] pos) (fun ρ=>aC h (L ρ)):=⟨Dp hc hm ha.h hv hg hn ji eJ⟩
end
section
variable {X:Cx}{o e:Expr}{es:List Expr}{p pos apos:Pos}{F:av->Ab->Rz Tr}{L:av->Ab->Rz (List Tr)}{h:List Tr->Ab->Rz Tr}{x:Str}{st:Stmt}{ps:List Str}{f:Addr}{fd:FuncData}{k:Nat}
theorem NI(D:tW X.K X.mg x st ps f fd)(G:f6 X.prog X.w X.K X.mg X.base (pR X.prog X.w) k f fd ps (vb X.K h))(hr:dA k X.A)(ha:ZL X (e::es) L)(hx:X.ex=[]:=by rfl) (hg:Gl X x:=by rfl) (ji:(x==("__debug__":Str))=false:=by decide) (eJ:bq (e::es)=true:=by rfl):ZE X (.Call (.Name x p) (e::es) [] pos) (fun ρ A=>(L ρ A).bind h):=⟨Nu D G hr ha.h hx hg ji eJ⟩
end
section
variable {X:Cx}{a b o i e value:Expr}{es:List Expr}{pos pos' p apos jj:Pos}{F G E:av->Ab->Rz Tr}{L:av->Ab->Rz (List Tr)}{h:Tr->Tr->Rs Tr}
theorem NJ{op:CmpOp}(ho:tX X (compareOp op) h)(h1:ZE X a F)(h2:ZE X b G)(hm:behindInMarks op b=false:=by first|exact jY _|rfl|with_unfolding_all rfl):ZE X (.Compare a [op] [b] pos) (fun ρ A=>pA h (F ρ A) (G ρ)):=⟨Nx ho h1.h h2.h hm⟩
theorem JM{op:CmpOp}(ho:tX X (compareOp op) h)(h1:ZE X a F)(h2:ZE X b G)(hm:behindInMarks op b=false:=by first|exact jY _|rfl|with_unfolding_all rfl):ZT X (.Compare a [op] [b] pos) (fun ρ A=>FY (pA h (F ρ A) (G ρ))):=⟨JI ho h1.h h2.h hm⟩
theorem Dw{T:String}{x:Str}{h:List Tr->Rs Tr}(hc:g9 X (.type T) h)(hm:X.mg x=none)(ha:ZL X (e::es) L)(hv:bootBuiltins x=some (.type T):=by rfl) (hg:Gl X x:=by rfl) (hn:x≠"__name__":=by decide) (ji:(x==("__debug__":Str))=false:=by decide) (eJ:bq (e::es)=true:=by rfl):ZE X (.Call (.Name x p) (e::es) [] pos) (fun ρ A=>wO h (L ρ A)):=⟨Dq hc hm ha.h hv hg hn ji eJ⟩
end
section
variable {X:Cx}{a b e:Expr}{es:List Expr}{pos:Pos}{F G:av->Rs Tr}{L:av->Rs (List Tr)}{A:av->Rs Bool}{scope:Scope}{N':List Str}{ix:List (Option Nat)}{elt iter tg:Expr}{ifs:List Expr}{T:j_}{W:av->Rs (List Tr)}
theorem Dx{i:Nat}{x:Str}{px g8:Pos}(Lk:e_ X N' ix scope)(hit:QJ X tg iter W)(j5:wX X scope N' tg elt ifs T A F)(hT:gk T)(hN:X.N.Nodup:=by assumption) (hc:X.calm=true:=by rfl) (hi:X.N[i]?=some x:=by rfl) (hx:Loc X.env.scope x:=by first|exact Or.inl rfl|exact Or.inr rfl) (yd:swapsWith (.ListComp elt [⟨tg,iter,ifs,0⟩] scope pos) (some (.Name x px)) g8.line X.env=pure true:=by rfl) (hs:isSet iter=false:=by rfl) (hf:X.fn x=true\/X.env.scope.names.lookup x=some .local:=by first|exact .inl rfl|exact .inr rfl|assumption):ZS X (.Assign [.Name x px] (.ListComp elt [⟨tg,iter,ifs,0⟩] scope pos) g8) (fun ρ A'=>cE i (dW (gL ix T A F (W (aT A' ρ)) (aT A' ρ)) A') ρ):=⟨Dr Lk hit.h j5.to hT hN hc hi hx yd hs hf⟩
end
section
variable {X:Cx}{a b e:Expr}{es:List Expr}{pos:Pos}{F:av->Ab->Rz Tr}{P:av->Ab->Rz Bool}{c n:Str}{tp hp:Pos}{xs:List Str}{i:Nat}{body Hl:List Stmt}{Ny:Stmt}{G G2:av->Ab->Rz Out}
theorem JN(h:ZE X a F)(he:iS a=true:=by rfl):ZT X a (fun ρ A=>F1 (F ρ A)):=⟨JJ h.h he⟩
theorem JO(h:ZT X a P):ZT X (.UnaryOp .Not a pos) (fun ρ A=>F2 (P ρ A)):=⟨eq_not h.h⟩
end
theorem sS.VI {P:Program}{w:World}{K:PySem.W.Frag}{mg:Str->Option Value}{base:Heap}{x qual:Str}{st:Stmt}{f:Addr}{fd:FuncData}{N ps:List Str}{k:Nat}{h:List Tr->Rs Tr}(Fn:sS K x qual st f fd)(S:dR N ps (aF st))(len:∀ts t,h ts=.ok t->ts.length=ps.length)
  (g7:∀(cX:Value) (A:Around) (outer:List Env) (s:Shared) (H:Hp) (E:XK),dA k (A.deeper (envOfC qual (aF st) s.heap.objs.size f cX))->
   ∃G,QB (jz lz P w K mg base N qual (aF st) f cX A outer s H E).B5 (cY st) G/\∀ts t,h ts=.ok t->fF (G (startT N.length ts))=.ok t):f6 P w K mg base lz (k+1) f fd ps (spT K h):=
 Fn.Ve S len fun cX A outer s H E hr=>let⟨G,h,q⟩:=g7 cX A outer s H E hr;⟨G,h.h,q⟩
theorem sS.RG {P:Program}{w:World}{K:PySem.W.Frag}{mg:Str->Option Value}{base:Heap}{x qual:Str}{st:Stmt}{f:Addr}{fd:FuncData}{N ps:List Str}{k:Nat}{h:List Tr->Rs Tr}(Fn:sS K x qual st f fd)(S:dR N ps (aF st))(len:∀ts t,h ts=.ok t->ts.length=ps.length)
  (g7:∀(cX:Value) (A:Around) (outer:List Env) (s:Shared) (H:Hp) (E:XK),dA k (A.deeper (envOfC qual (aF st) s.heap.objs.size f cX))->
   ∃G,ZB (jz lz P w K mg base N qual (aF st) f cX A outer s H E).B5 (cY st) G/\∀ts t,h ts=.ok t->cM ts=true/\dF (G (startT N.length ts) [])=.ok t):f6 P w K mg base lz (k+1) f fd ps (spT K h):=
 Fn.VF S len fun cX A outer s H E hr=>let⟨G,h,q⟩:=g7 cX A outer s H E hr;⟨G,h.h,q⟩
theorem sS.RH {P:Program}{w:World}{K:PySem.W.Frag}{mg:Str->Option Value}{base:Heap}{x qual:Str}{st:Stmt}{f:Addr}{fd:FuncData}{N ps:List Str}{k:Nat}{h:List Tr->Ab->Rz Tr}(Fn:sS K x qual st f fd)(S:dR N ps (aF st))(len:∀ts A,h ts A≠ .bad->ts.length=ps.length)
  (g7:∀(cX:Value) (A:Around) (outer:List Env) (s:Shared) (H:Hp) (E:XK),dA k (A.deeper (envOfC qual (aF st) s.heap.objs.size f cX))->
   ∃G,ZB (jz (pR P w) P w K mg base N qual (aF st) f cX A outer s H E) (cY st) G/\∀ts A,h ts A≠ .bad->h ts A=fk (G (startT N.length ts) A)):f6 P w K mg base (pR P w) (k+1) f fd ps (vb K h):=
 Fn.oa S len fun cX A outer s H E hr=>let⟨G,h,q⟩:=g7 cX A outer s H E hr;⟨G,h.h,q⟩
end L2
namespace L2
open PySem PySem.Spec PyProof.Rows
def zQ:List Tr->Option (List Key)
 |[]=>some []
 |t::ts=>match Fz t,zQ ts with
  |some k,some ks=>some (k::ks)
  |_,_=>none
def m_:Tr->Option (List Key)
 |.tup ts=>zQ ts
 |_=>none
def ir(aB:List (List Key×Tr))(k:List Key):Option Tr:=(aB.find? fun kv=>decide (kv.1=k)).map (·.2)
section
variable {K:PySem.W.Frag}
theorem um{H:Vw}:∀{ts:List Tr} {vs:List V} {ks:List Key},aL K H vs ts->zQ ts=some ks->vs=ks.map kV
 |[],_,_,r,e=>by cases e;cases r;rfl
 |t::ts,_,ks,r,e=>by
  cases r with
  |cons h r=>
   unfold zQ at e;split at e
   ·rename_i e1 e2;cases e;rw[zt h e1,um r e2];rfl
   ·cases e
theorem kx{B:bP}{H:Hp}{v:V}{t:Tr}{ks:List Key}(r:Rep K (aQ B H) v t)(e:m_ t=some ks):∃b,v=.ref b/\H b=some (.tup (ks.map kV)):=by
 unfold m_ at e;split at e
 ·obtain⟨a,vs,rfl,h,rr⟩:=r.j8;have:=um rr e;subst this;exact⟨a,rfl,aG _ _ h⟩
 ·cases e
theorem rZ{H:Vw}(k:List Key):∀{aw:List (List Key×V)} {aB:List (List Key×Tr)},aw.map (·.1)=aB.map (·.1)->aL K H (aw.map (·.2)) (aB.map (·.2))->(ir aB k=none/\kZ aw k=none)\/∃t v,ir aB k=some t/\kZ aw k=some v/\Rep K H v t
 |[],[],_,_=>.inl ⟨rfl,rfl⟩
 |[],_::_,e,_=>by cases e
 |_::_,[],e,_=>by cases e
 |(k1,v1)::aw,(k2,t2)::aB,e,r=>by
  rw[ay,ay]at e;injection e with e1 e2
  have B6:k1=k2:=e1;subst B6;cases r with
  |cons h r=>
   by_cases q:k1=k
   ·refine .inr ⟨t2,v1,?_,jZ q,h⟩;unfold ir;rw[dO,bt (show(k1,t2).1=k from q)]
    rfl
   ·rw[j1 q];have e3:ir ((k1,t2)::aB) k=ir aB k:=by
     unfold ir;rw[dO,aX (show¬(k1,t2).1=k from q)]
    rw[e3];exact rZ k e2 r
theorem Rep.pT {H:Vw}{v:V}{aB:List (List Key×Tr)}(h:Rep K H v (.aE aB)):∃a aw,v=.ref a/\Rd H.H a (.dT aw)/\aw.map (·.1)=aB.map (·.1)/\aL K H (aw.map (·.2)) (aB.map (·.2)):=by
 cases h;exact⟨_,_,rfl,by assumption,by assumption,by assumption⟩
theorem Dy{B:bP}{H:Hp}{x y:V}{ty:Tr}{aB:List (List Key×Tr)}{k:List Key}(r:Rep K (aQ B H) x (.aE aB))(r2:Rep K (aQ B H) y ty)(ek:m_ ty=some k):
  ∃a o,x=.ref a/\o9 H a y o/\((ir aB k=none/\o=none)\/∃t v,ir aB k=some t/\o=some v/\Rep K (aQ B H) v t):=by
 obtain⟨a,aw,rfl,h,e,rr⟩:=r.pT;obtain⟨b,rfl,hb⟩:=kx r2 ek;refine⟨a,_,rfl,.inr ⟨aw,k,b,h.same aG,rfl,hb,rfl⟩,?_⟩;rcases rZ k e rr with⟨h1,h2⟩|⟨t,v,h1,h2,h3⟩
 ·exact .inl ⟨h1,h2⟩
 ·exact .inr ⟨t,v,h1,h2,h3⟩
end
section
variable {X:Cx}{a b:Expr}{pos:Pos}{F G:av->Rs Tr}
def pC:Tr->Tr->Rs Tr
 |.aE aB,t=>(AZ (m_ t)).bind fun k=>AZ (ir aB k)
 |_,_=>.bad
theorem NK(hu:X.A.units+1<cLine):Ez X (rT X pC):=by
 intro value slice pins s σ H x y v u Q I rx ry ⟨B,tx,ty,hb,r1,r2,q⟩ hs;unfold pC at q;split at q
 ·obtain⟨k,ek,qk⟩:=fR (Fi.bind q);obtain⟨t,et,qt⟩:=fR qk;obtain⟨a,o,rfl,g,ho⟩:=Dy r1 r2 ek;rcases ho with⟨h1,_⟩|⟨t',w,h1,rfl,kY⟩
  ·cases et.symm.trans h1
  ·cases et.symm.trans h1;cases(show v=Value.ref a from rx);exact tail_any (oQ I g) p_.lookup (nU hu I g ry fun w' s' I' rv=>⟨w,H,I',rv,qt w H (au.refl H) kY⟩) hs
 ·exact(show False from q).elim
theorem nc(hu:X.A.units+1<cLine)(ha:QE X a F)(hb:QE X b G)(hs:pM b:=by exact fun _ _=>rfl):QE X (.Subscript a b pos) (fun ρ=>cx pC (F ρ) (G ρ)):=
 ⟨(GS (NK hu) ha.h hb.h hs).weak fun _ _ _ q=>j7 q⟩
def yx:Tr->Tr->Rs Tr
 |x,.aE aB=>(AZ (m_ x)).bind fun k=>.ok (.bl (ir aB k).isSome)
 |_,_=>.bad
def yy:Tr->Tr->Rs Tr
 |x,.aE aB=>(AZ (m_ x)).bind fun k=>.ok (.bl (!(ir aB k).isSome))
 |_,_=>.bad
theorem zR(hu:X.A.units+1<cLine):tX X (compareOp .In) yx:=by
 intro pins s σ H x y v u Q I rx ry ⟨B,tx,ty,hb,r1,r2,q⟩;unfold yx at q;split at q
 ·obtain⟨k,ek,qk⟩:=fR (Fi.bind q);obtain⟨a,o,rfl,g,ho⟩:=Dy r2 r1 ek;cases(show u=Value.ref a from ry);refine Q6 hu I g rx fun s' I'=>⟨.bl _,H,I',rfl,?_⟩;rcases ho with⟨h1,rfl⟩|⟨t',w,h1,rfl,_⟩<;>rw[h1]at qk<;>exact qk _ H (au.refl H) (.bl _)
 ·exact(show False from q).elim
theorem Dz(hu:X.A.units+1<cLine):tX X (compareOp .NotIn) yy:=by
 intro pins s σ H x y v u Q I rx ry ⟨B,tx,ty,hb,r1,r2,q⟩;unfold yy at q;split at q
 ·obtain⟨k,ek,qk⟩:=fR (Fi.bind q);obtain⟨a,o,rfl,g,ho⟩:=Dy r2 r1 ek;cases(show u=Value.ref a from ry);refine EZ hu I g rx fun s' I'=>⟨.bl _,H,I',rfl,?_⟩;rcases ho with⟨h1,rfl⟩|⟨t',w,h1,rfl,_⟩<;>rw[h1]at qk<;>exact qk _ H (au.refl H) (.bl _)
 ·exact(show False from q).elim
end
end L2
namespace L2
open PySem PySem.Spec PyProof.Rows
def i6(aB:List (List Key×Tr))(k:List Key)(t:Tr):List (List Key×Tr):=
 if(aB.any fun kv=>decide (kv.1=k))=true then aB.map (fun kv=>if kv.1=k then(kv.1,t)else kv)else aB++[(k,t)]
def kz(aB more:List (List Key×Tr)):List (List Key×Tr):=more.foldl (fun acc kv=>i6 acc kv.1 kv.2) aB
structure dq(K:PySem.W.Frag)(H:Vw)(aw:List (List Key×V))(aB:List (List Key×Tr)):Prop where
 keys:aw.map (·.1)=aB.map (·.1)
 vals:aL K H (aw.map (·.2)) (aB.map (·.2))
section
variable {K:PySem.W.Frag}{H H':Vw}
theorem dq.nil:dq K H [] []:=⟨rfl,.nil⟩
theorem dq.cons {k:List Key}{v:V}{t:Tr}{aw:List (List Key×V)}{aB:List (List Key×Tr)}(r:Rep K H v t)(h:dq K H aw aB):dq K H ((k,v)::aw) ((k,t)::aB):=⟨by rw[ay,ay,h.keys],.cons r h.vals⟩
theorem dq.inv {k:List Key}{v:V}{aw:List (List Key×V)}{aB:List (List Key×Tr)}(h:dq K H ((k,v)::aw) aB):∃t r,aB=(k,t)::r/\Rep K H v t/\dq K H aw r:=by
 obtain⟨e,r⟩:=h
 match aB,e,r with
 |(k2,t)::rest,e,r=>
  rw[ay,ay]at e;injection e with e1 e2
  have B6:k=k2:=e1;subst B6;cases r with
  |cons h1 h2=>exact⟨t,rest,rfl,h1,e2,h2⟩
theorem dq.any (k:List Key):∀{aw:List (List Key×V)} {aB:List (List Key×Tr)},dq K H aw aB->(aw.any fun kv=>decide (kv.1=k))=aB.any fun kv=>decide (kv.1=k)
 |[],aB,h=>by
  have e:=h.keys;cases aB with
  |nil=>rfl
  |cons a b=>cases e
 |(j,v)::aw,aB,h=>by
  obtain⟨t,r,rfl,_,h2⟩:=h.inv;rw[gV,gV,dq.any k h2]
theorem dq.map (k:List Key){y:V}{u:Tr}(ry:Rep K H y u):∀{aw:List (List Key×V)} {aB:List (List Key×Tr)},dq K H aw aB->dq K H (aw.map fun kv=>if kv.1=k then(kv.1,y)else kv) (aB.map fun kv=>if kv.1=k then(kv.1,u)else kv)
 |[],aB,h=>by
  have e:=h.keys;cases aB with
  |nil=>exact .nil
  |cons a b=>cases e
 |(j,v)::aw,aB,h=>by
  obtain⟨t,r,rfl,h1,h2⟩:=h.inv;rw[ay,ay];by_cases e:j=k
  ·rw[ab (show(j,v).1=k from e),ab (show(j,t).1=k from e)];exact .cons ry (dq.map k ry h2)
  ·rw[ae (show¬(j,v).1=k from e),ae (show¬(j,t).1=k from e)];exact .cons h1 (dq.map k ry h2)
theorem dq.snoc (k:List Key){y:V}{u:Tr}(ry:Rep K H y u):∀{aw:List (List Key×V)} {aB:List (List Key×Tr)},dq K H aw aB->dq K H (aw++[(k,y)]) (aB++[(k,u)])
 |[],aB,h=>by
  have e:=h.keys;cases aB with
  |nil=>exact .cons ry .nil
  |cons a b=>cases e
 |(j,v)::aw,aB,h=>by
  obtain⟨t,r,rfl,h1,h2⟩:=h.inv;exact .cons h1 (dq.snoc k ry h2)
theorem dq.put (k:List Key){y:V}{u:Tr}(ry:Rep K H y u){aw:List (List Key×V)}{aB:List (List Key×Tr)}(h:dq K H aw aB):dq K H (putK aw k y) (i6 aB k u):=by
 unfold putK i6;rw[h.any k];by_cases e:(aB.any fun kv=>decide (kv.1=k))=true
 ·rw[ab e,ab e];exact h.map k ry
 ·rw[ae e,ae e];exact h.snoc k ry
theorem dq.length {aw:List (List Key×V)}{aB:List (List Key×Tr)}(h:dq K H aw aB):aw.length=aB.length:=by
 have e:=bT List.length h.keys;rw[aj,aj]at e;exact e
end
def jv(A:Ab)(t tk tv:Tr):Option Ab:=match t,m_ tk with
 |.at i,some k=>match A[i]? with
  |some (.aE aB)=>if aB.length<iT then some (A.set i (.aE (i6 aB k tv)))else none
  |_=>none
 |_,_=>none
def uo(v:Rz Tr)(o k:Ab->Rz Tr)(ρ:av):Rz Out:=v.bind fun tv A=>(o A).bind fun t A=>(k A).bind fun tk A=>match jv A t tk tv with
 |some A'=>.ok (.nx ρ) A'
 |none=>.bad
theorem r8{A A':Ab}{t tk tv:Tr}(e:jv A t tk tv=some A'):∃j aB key,t=.at j/\m_ tk=some key/\A[j]?=some (.aE aB)/\aB.length<iT/\A'=A.set j (.aE (i6 aB key tv)):=by
 unfold jv at e;split at e
 ·rename_i ek;split at e
  ·rename_i eo;split at e
   ·rename_i hl;cases e;exact⟨_,_,_,rfl,ek,eo,hl,rfl⟩
   ·cases e
  ·cases e
 ·cases e
section
variable {X:Cx}{o i value:Expr}{pos pos':Pos}{F G E:av->Ab->Rz Tr}
theorem pU(hu:X.A.units+1<cLine)(ho:ZO X o F)(hi:ZE X i G)(hv:ZE X value E):
  ZS X (.Assign [.Subscript o i pos'] value pos) (fun ρ A=>uo (E ρ A) (F ρ) (G ρ) ρ):=
 ⟨(E1 hu ho.h hi.h hv.h Bq).weak fun D σ H ⟨B0,H0,B,A,ρ,hb,g,ha,r,n,q⟩=>ie hb g ha r n q.bind fun tv A1 v B1 H1 q1 g1 gq r1 rv _=>ie hb g1 gq r1 n (cF.bind q1) fun t A2 w B2 H2 q2 g2 sV r2 kY RI=>ie hb g2 sV r2 n (cF.bind q2) fun tk A3 y B3 H3 q3 g3 yt r3 ry NL=>by
   have VJ:=kY.same NL.fH;have VL:=(rv.same RI.fH).same NL.fH;split at q3
   ·rename_i ed;obtain⟨j,aB,key,rfl,ek,eo,hl,rfl⟩:=r8 ed;obtain⟨c,rfl,ug⟩:=VJ.uS;obtain⟨hd,aw,h1,h2,h3⟩:=yt.get ug eo;have h2:dq X.K (aQ B3 H3) aw aB:=⟨h2,h3⟩;obtain⟨b,rfl,eb⟩:=kx ry ek;have hp:=h2.put key VL;obtain⟨g4,h6⟩:=yt.write (o:=.aE (i6 aB key tv)) (u:=.dT (putK aw key v)) ug ⟨hd,_,aH,hp.keys,by rw[kR hd];exact hp.vals⟩;exact⟨c,_,rfl,uO.t h1 eb (by rw[h2.length,<-ip];exact hl),q3 σ B3 _ (g3.trans hb g4) h6 (r3.grow n g4) n⟩
   ·exact q3.elim⟩
end
end L2
namespace L2
open PySem PySem.Spec PyProof.Rows
def DA(A:Ab)(t tk:Tr):Option Int:=match t,m_ tk with
 |.at i,some k=>match A[i]? with
  |some (.aE aB)=>match ir aB k with
   |some (.int n)=>some n
   |_=>none
  |_=>none
 |_,_=>none
theorem Bw{A:Ab}{t tk:Tr}{n:Int}(e:DA A t tk=some n):∃j aB key,t=.at j/\m_ tk=some key/\A[j]?=some (.aE aB)/\ir aB key=some (.int n):=by
 unfold DA at e;split at e
 ·rename_i ek;split at e
  ·rename_i eo;split at e
   ·rename_i ev;cases e;exact⟨_,_,_,rfl,ek,eo,ev⟩
   ·cases e
  ·cases e
 ·cases e
def DB(o k v:Ab->Rz Tr)(ρ:av)(A:Ab):Rz Out:=(o A).bind fun t A=>(k A).bind fun tk A=>match DA A t tk with
 |some n=>(v A).bind fun tv A=>match tv with
  |.int c=>match jv A t tk (.int (n - c))with
   |some A'=>.ok (.nx ρ) A'
   |none=>.bad
  |_=>.bad
 |none=>.bad
section
variable {X:Cx}{o i value:Expr}{pos pos':Pos}{F G E:av->Ab->Rz Tr}
theorem F6(hu:X.A.units+1<cLine)(ho:ZO X o F)(hi:ZE X i G)(hv:ZE X value E)(ha:∀ov iv new,augStore i ov iv new=(do holding [new,ov,iv] (setItem ov iv new);release [new,ov,iv] [];pure .next):=by intros;rfl):
  ZS X (.AugAssign (.Subscript o i pos') .Sub value pos) (fun ρ A=>DB (F ρ) (G ρ) (E ρ) ρ A):=
 ⟨(E2 hu ho.h hi.h hv.h Ir ha).weak fun D σ H ⟨B0,H0,B,A,ρ,hb,g,ha,r,n,q⟩=>ie hb g ha r n q.bind fun t A1 w B1 H1 q1 g1 gq r1 kY _=>ie hb g1 gq r1 n (cF.bind q1) fun tk A2 y B2 H2 q2 g2 sV r2 ry RI=>by
   have VM:=kY.same RI.fH;split at q2
   ·rename_i m em;obtain⟨j,aB,key,rfl,ek,eo,ev⟩:=Bw em;obtain⟨c,rfl,ug⟩:=VM.uS;obtain⟨hd,aw,h1,h2,h3⟩:=sV.get ug eo;obtain⟨b,rfl,eb⟩:=kx ry ek;rcases rZ key h2 h3 with⟨z1,_⟩|⟨t',v,z1,z2,rv⟩
    ·cases ev.symm.trans z1
    ·cases ev.symm.trans z1;cases rv.int_inv;refine⟨c,_,rfl,by have:=o9.t h1 eb;rw[z2]at this;exact this,ie hb g2 sV r2 n (cF.bind q2) fun tv A3 u B3 H3 q3 g3 yt r3 ru NL=>?_⟩;split at q3
     ·rename_i cc;refine⟨m,cc,rfl,ru.int_inv,?_⟩;split at q3
      ·rename_i ed;obtain⟨j',NM,VN,ej,VO,VP,hl,rfl⟩:=r8 ed;cases ej;cases ek.symm.trans VO;have NN:=NL.fH.x _ _ ug;obtain⟨TX,NO,f1,f2,f3⟩:=yt.get NN VP;have f2:dq X.K (aQ B3 H3) NO NM:=⟨f2,f3⟩;have hp:=f2.put key (.int (m - cc));obtain⟨b',VQ,VR⟩:=kx (ry.same NL.fH) ek;cases VQ;obtain⟨g4,h6⟩:=yt.write (o:=.aE (i6 NM key (.int (m - cc)))) (u:=.dT (putK NO key (.int (m - cc)))) NN ⟨TX,_,aH,hp.keys,by rw[kR TX];exact hp.vals⟩;exact⟨_,uO.t f1 VR (by rw[f2.length,<-ip];exact hl),q3 σ B3 _ (g3.trans hb g4) h6 (r3.grow n g4) n⟩
      ·exact q3.elim
     ·exact q3.elim
   ·exact q2.elim⟩
end
end L2
namespace L2
open PySem PySem.Spec PyProof.Rows
def JP(i:Nat)(r:Ab->Rz Tr)(ρ:av)(A:Ab):Rz Out:=match ar ρ i with
 |.ok (.int n)=>(r A).bind fun t A=>match t with
  |.int c=>.ok (.nx (ρ.set i (.sh (.int (n+c))))) A
  |_=>.bad
 |_=>.bad
section
variable {X:Cx}{e:Expr}{pos pos':Pos}{F:av->Ab->Rz Tr}
theorem JQ(i:Nat){x:Str}(he:ZE X e F)(hN:X.N.Nodup:=by assumption) (hi:X.N[i]?=some x:=by rfl) (hx:Loc X.env.scope x:=by first|exact Or.inl rfl|exact Or.inr rfl) (hf:X.fn x=true\/X.env.scope.names.lookup x=some .local:=by first|exact .inl rfl|exact .inr rfl|assumption):
  ZS X (.AugAssign (.Name x pos') .Add e pos) (fun ρ A=>JP i (F ρ) ρ A):=
 ⟨(Ie hN hi hx he.h Iq hf).weak fun D σ H ⟨B0,H0,B,A,ρ,hb,g,ha,r,n,q⟩=>by
   unfold JP at q;split at q
   ·rename_i m em;have e1:ρ[i]?=some (.sh (.int m)):=by
     unfold ar at em;split at em
     ·rename_i h;cases em;exact h
     ·cases em
    obtain⟨v,ev,rv⟩:=r.sh i _ e1;cases rv.int_inv;refine⟨_,ev,ie hb g ha r n q.bind fun t A1 w B1 H1 q1 g1 gq r1 kY _=>?_⟩;split at q1
    ·rename_i c;exact⟨m,c,rfl,kY.int_inv,q1 _ B1 H1 g1 gq (r1.set i (.int (m+c))) (n.set i _)⟩
    ·exact q1.elim
   ·exact q.elim⟩
end
end L2
namespace L2
open PySem PySem.Spec PyProof.Rows
section
variable {prog:Program}{w:World}{A:Around}{E:Value->Shared->Prop}{s:Shared}{d it:Addr}{o:Obj}{es:Array DictEntry}{ep i:Nat}
theorem w8{Q:Value->Shared->Prop}(T:s.TypeIs (.ref d) "dict")(nd:(d==sysModules)=false)(e1:s.heap.get? d=some o)(e2:o.data=.dict es ep)
  (q:Q (.ref s.heap.objs.size) {s with heap:=s.heap.push {cls:=.type "dict_keyiterator",data:=.fields #[.ref d,.int 0 0,.int es.size 0,.int ep 0]}}):wpAny (model prog w) A (pyIter (.ref d)) Q E s:=by
 refine qY T F.slot_dict_iter (dy F.slot_dict_iter T F.entry_dict_iter ?G (F.args_dict_iter_1 _))
 case G=>
  unfold Builtin.«dict.__iter__»;refine aa ?G2
  case G2=>
   unfold Builtin.Dict.dictSlotNone;refine aa (wpAny_notOrdered_dict T (show wpAny _ _ (pure (Value.ref d)) _ _ s from af ?G3))
   case G3=>
    show wpAny _ _ (Builtin.Dict.showsAll d>>=_) _ _ s;unfold Builtin.Dict.showsAll;rw[ae (fun z=>by rw[nd]at z;cases z)];refine aa (af (aa (qZ e1 e2 (aa (wpAny_dictEpoch e1 e2 (aa (eQ (af ⟨_,rfl,"dict_keyiterator",_,⟨_,aU _ rfl,rfl⟩,lR.lookup,?_⟩))))))));simpa[rawInt]using q
theorem w_{Q:Option Value->Shared->Prop}(st:s.heap.IsKeyIter it d i es.size ep)(e1:s.heap.get? d=some o)(e2:o.data=.dict es ep)(hi:i<es.size)
  (q:∀h',h'.IsKeyIter it d (i+1) es.size ep->Heap.SameBut it s.heap h'->Q (some es[i].key) {s with heap:=h'}):wpAny (model prog w) A (pyNext (.ref it)) Q E s:=by
 have T:=st.typeIs;obtain⟨oi,f1,f2,f3⟩:=id st;unfold pyNext;refine aa (gX (h_ (name:=Str.ofString "__next__") T lR (dy lR T F.entry_dict_keyiterator_next ?G (F.args_dict_keyiterator_next_1 _))))
 case G=>
  refine aa (af (aa (aa ?G2)))
  case G2=>
   first|refine aa (lT T (af (aa (iH f1 f3 ?G3))))|refine aa (l4 T (af (aa (iH f1 f3 ?G3))))
   case G3=>
    simp only[show Builtin.Dict_items.ownsTuple "dict_keyiterator"=false by decide,bX,bB];show wpAny _ _ (if(Value.ref d==Value.none)=true then _ else _) _ _ s;rw[ae (fun z=>by cases z)];refine aa (af (aa (qZ e1 e2 ?G4)))
    case G4=>
     rw[ae (by simp)];refine aa (af (aa (wpAny_dictEpoch e1 e2 ?G5)))
     case G5=>
      rw[ae (by simp)];refine af ?G6
      case G6=>
       have n0:¬((i:Int)<0):=by omega
       simp only[n0,bB,d0,du hi];have sO:(s.heap.update it (Obj.mapFields (·.setIfInBounds 1 (rawInt ((i:Int)+1))))).IsKeyIter it d (i+1) es.size ep:=
        ⟨_,kK _ f1 (Obj.isFreed_of_fields (mi f3 _)),(Obj.cls_mapFields ..).trans f2,by rw[mi f3];simp[rawInt]⟩
       refine aa ?G7
       case G7=>
        first|refine aa (lT T (af (aa (qB T ?G8))))|refine aa (l4 T (af (aa (qB T ?G8))))
        case G8=>
         show wpAny _ _ (setField (.ref it) 1 (rawInt ((i:Int)+1))>>=_) _ _ s;refine aa (jP f1 f3 (by simp) (aa (cV (aa (qB (s:={s with heap:=s.heap.update it (Obj.mapFields (·.setIfInBounds 1 (rawInt ((i:Int)+1))))}) sO.typeIs ?G9)))))
         case G9=>
          show wpAny _ _ (pure es[i].key) _ _ _;exact af (af ⟨_,rfl,af (q _ sO (eP ..))⟩)
theorem zS{Q:Option Value->Shared->Prop}(hh:A.handled=none)(st:s.heap.IsKeyIter it d i es.size ep)(e1:s.heap.get? d=some o)(e2:o.data=.dict es ep)(hi:es.size<=i)
  (q:∀h',Heap.ExtBut it s.heap h'->Q none {s with heap:=h'}):wpAny (model prog w) A (pyNext (.ref it)) Q E s:=by
 have T:=st.typeIs;obtain⟨oi,f1,f2,f3⟩:=id st;unfold pyNext;refine aa (gX (h_ (name:=Str.ofString "__next__") T lR (dy lR T F.entry_dict_keyiterator_next ?G (F.args_dict_keyiterator_next_1 _))))
 case G=>
  refine aa (af (aa (aa ?G2)))
  case G2=>
   first|refine aa (lT T (af (aa (iH f1 f3 ?G3))))|refine aa (l4 T (af (aa (iH f1 f3 ?G3))))
   case G3=>
    simp only[show Builtin.Dict_items.ownsTuple "dict_keyiterator"=false by decide,bX,bB];show wpAny _ _ (if(Value.ref d==Value.none)=true then _ else _) _ _ s;rw[ae (fun z=>by cases z)];refine aa (af (aa (qZ e1 e2 ?G4)))
    case G4=>
     rw[ae (by simp)];refine aa (af (aa (wpAny_dictEpoch e1 e2 ?G5)))
     case G5=>
      rw[ae (by simp)];refine af ?G6
      case G6=>
       have n0:¬((i:Int)<0):=by omega
       simp only[n0,bB,d0,Array.getElem?_eq_none hi];refine aa ?G7
       case G7=>
        first|refine aa (lT T (af ?G8))|refine aa (l4 T (af ?G8))
        case G8=>
         show wpAny _ _ (setField (.ref it) 0 .none>>=_) _ _ s;refine aa (jP f1 f3 (by simp) (show wpAny _ _ (newExc (.type "StopIteration") []>>=_) _ _ _ from aa ?G9))
         case G9=>
          simp only[newExc,newTuple];refine aa (eQ (aa (m:=firstArgMember _ _) (wpAny_of_eq (a:=Value.none) (by first|rfl|(simp only[firstArgMember];rfl)) (eQ ?VS (by size_fits)))) (by size_fits))
          case VS=>
           simp only[raiseNew];refine aa (wpAny_handled ?VT)
           case VT=>
            rw[show A.in1.handled=none from hh];refine aa (af (wpAny_throw ?VU))
            case VU=>
             refine aa (jN (T:="StopIteration") (b:=true) ⟨_,aU _ rfl,rfl⟩ mF (af (q _ (((eP ..).extBut.push _).push _))))
end
end L2
namespace L2
open PySem PySem.Spec PyProof.Rows
def RJ(a:Addr)(o:Obj)(aw:List (List Key×V)):It:=
 ⟨fun i H=>H a=some (.fZ o (.dT aw))/\i<aw.length,fun i H x H'=>H'=H/\∃k v b,aw[i]?=some (k,v)/\x=.ref b/\H b=some (.tup (k.map kV)),fun i H=>H a=some (.fZ o (.dT aw))/\aw.length<=i⟩
theorem yz{H:Hp}:∀{aw:List (List Key×V)} {xs:List (List Key×Addr×Value)},KT H aw xs->∀{i:Nat} {x:List Key×Addr×Value},xs[i]?=some x->∃v,aw[i]?=some (x.1,v)/\H x.2.1=some (.tup (x.1.map kV))
 |_,_,.nil,_,_,e=>by simp at e
 |(k,v)::_,_,.cons h t,i,x,e=>by
  cases i with
  |zero=>
   simp at e;subst e;obtain⟨h1,h2,_⟩:=h;have JR:k=_:=h1;subst JR;exact⟨v,rfl,h2⟩
  |succ j=>exact yz t (by simpa using e)
theorem DC{P:Program}{w:World}{K:PySem.W.Frag}{tg:Expr}(a it:Addr)(o:Obj)(aw:List (List Key×V))(es:Array DictEntry)(ep:Nat)(hd:o.data=.dict es ep):Turn P w K tg (RJ a o aw) [it] it (fun i h=>h.IsKeyIter it a i es.size ep) where
 mem:=by simp
 obj:=fun i h st b hb=>by
  have e:b=it:=by simpa using hb
  subst e;obtain⟨o,e,c,d⟩:=st;exact⟨o,e,fun v z=>by rw[d]at z;cases z⟩
 keep:=fun i h h' st k=>by
  obtain⟨o,e,c⟩:=st;exact⟨o,k it (by simp) o e,c⟩
 item:=by
  intro X hP hw hK hc i pins s σ H E I hf st ⟨hg,hi⟩;subst hP hw hK;obtain⟨ho,hz,hs,xs,rel,o',HY,yY,h1,h2,h3,h4,h5⟩:=(show bu X.prog X.w H s.heap a (.fZ o (.dT aw))from I.bQ a _ hg);rw[ho]at h1;cases h1;rw[hd]at h3;cases h3;obtain⟨f0,f1,f2,f3,f4,f5⟩:=hf it (by simp);have hl:aw.length=xs.length:=Paired.length rel;have hsz:es.size=xs.length:=by rw[<-bz,h4,aj]
  have uZ:i<es.size:=by rw[hsz,<-hl];exact hi
  have hx:xs[i]?=some xs[i]:=aI (by rw[<-hl];exact hi)
  obtain⟨v,ek,eb⟩:=yz rel hx;have key:es[i].key=Value.ref xs[i].2.1:=by
   have:es.toList[i]?=some (entryOfKey (tupleKind (az X.prog X.w)) xs[i]):=by rw[h4,aJ,hx];rfl
   rw[cQ,du uZ]at this;rw[Option.some.inj this];rfl
  refine w_ st ho hd uZ fun h' sO sb=>?_
  have I1:Inv X pins σ H {s with heap:=h'}:=I.turned (t':=s.toks) (fun b o hb e=>(sb.2 b hb).trans e) f0 f1 f3 f4 f5;obtain⟨oi,e,c,d⟩:=id sO;exact⟨_,rfl,vZ (s:={s with heap:=h'}) e c d (by decide) ⟨.ref xs[i].2.1,H,I1,key,⟨rfl,_,_,_,ek,rfl,eb⟩,sO,fun b hb=>(hf b hb).1⟩⟩
 done:=by
  intro X hP hw hK hc i pins s σ H E I hf st ⟨hg,hi⟩;subst hP hw hK;obtain⟨ho,hz,hs,xs,rel,o',HY,yY,h1,h2,h3,h4,h5⟩:=(show bu X.prog X.w H s.heap a (.fZ o (.dT aw))from I.bQ a _ hg);rw[ho]at h1;cases h1;rw[hd]at h3;cases h3;obtain⟨f0,f1,f2,f3,f4,f5⟩:=hf it (by simp);have hl:aw.length=xs.length:=Paired.length rel;have hsz:es.size=xs.length:=by rw[<-bz,h4,aj]
  exact zS (I.ok.hd hc) st ho hd (by rw[hsz,<-hl];exact hi) fun h' eb=>⟨rfl,I.turned (t':=s.toks) (fun b o hb e=>eb b o hb e) f0 f1 f3 f4 f5⟩
 self:=fun _ _ _ _ _ st h=>wpAny_pyIter_keyiter st h
def DD(aB:List (List Key×Tr)):Rs (List Tr):=if aB.all (fun p=>p.1.all keyOk)=true then .ok (aB.map fun p=>.tup (p.1.map lh))else .bad
def lJ(r:Rs Tr):Rs (List Tr):=r.bind fun t=>match t with
 |.aE aB=>DD aB
 |_=>.bad
theorem oo{K:PySem.W.Frag}{W:Vw}:∀{k:List Key},k.all keyOk=true->aL K W (k.map kV) (k.map lh)
 |[],_=>.nil
 |a::k,h=>by
  rw[eV,aM]at h;exact .cons (A7 h.1) (oo h.2)
theorem Bx{K:PySem.W.Frag}{B:bP}{H:Hp}{a:Addr}{o:Obj}{aw:List (List Key×V)}{aB:List (List Key×Tr)}(h:(aQ B H).H a=some (.fZ o (.dT aw)))(e:aw.map (·.1)=aB.map (·.1))(hk:aB.all (fun p=>p.1.all keyOk)=true):js K B (RJ a o aw) H (aB.map fun p=>.tup (p.1.map lh)):=by
 have hl:aw.length=aB.length:=by have q:=bT List.length e;rw[aj,aj]at q;exact q
 refine⟨fun i B' H' hi s hb=>⟨aG _ _ (s.h _ _ h),by rw[aj]at hi;rw[hl];exact hi⟩,fun i B' H' x Ff hi s hb ⟨eh,k,v,b,ek,ex,eb⟩=>?_,fun B' H' s=>⟨aG _ _ (s.h _ _ h),by rw[aj,hl];exact aA _⟩⟩;subst eh ex;have e1:(aw.map (·.1))[i]?=some k:=by rw[aJ,ek];rfl
 rw[e,aJ]at e1;cases e2:aB[i]? with
 |none=>rw[e2]at e1;cases e1
 |some p=>
  rw[e2]at e1;have e3:p.1=k:=Option.some.inj e1;refine⟨au.refl _,.tup (k.map lh),by rw[aJ,e2,<-e3];rfl,.tup (hb.tup eb) (oo ?_)⟩;rw[<-e3];exact bw.mp hk p (bM e2)
section
variable {X:Cx}{pins:List (Addr×Obj)}{σ:St}
theorem NP{tg l:Expr}{F:av->Rs Tr}(hl:PE X l (tP X F)):PI X tg l (tJ X fun ρ=>lJ (F ρ)):=by
 intro pins s σ H R I ⟨B,ρ,hb,r,q⟩;refine dY (hl pins s σ H (fun x H1=>∃(a:Addr) (aw:List (List Key×V)) (aB:List (List Key×Tr)),x=.ref a/\au H H1/\Rd (aQ B H1).H a (.dT aw)/\aw.map (·.1)=aB.map (·.1)/\aB.all (fun p=>p.1.all keyOk)=true/\∀J H',uY X B H H'->js X.K B J H' (aB.map fun p=>.tup (p.1.map lh))->R J H') I ⟨B,ρ,hb,r,q.bind.mono fun t qt v H1 s1 r1=>?_⟩) fun v s1 ⟨x,H1,I1,r1,a,aw,aB,ex,sm,rd,ek,hk,k⟩=>?_
 ·skip
  split at qt
  ·obtain⟨a,aw,e0,h,e,rr⟩:=r1.pT;obtain⟨z,q1⟩:=fh qt;exact⟨a,aw,_,e0,s1,h,e,z,q1⟩
  ·exact qt.elim
 ·subst ex;cases r1;have TY:Rd H1 a (.dT aw):=rd.same aG;have hv:B.hd a=false:=by
   cases z:B.hd a with
   |false=>rfl
   |true=>
    have n:(aQ B H1).H a=none:=by show(if B.hd a=true then none else H1 a)=none;rw[ab z]
    rcases rd with h|⟨o,h⟩<;>(rw[n]at h;cases h)
  obtain⟨hz,hs,xs,rel,o,es,ep,h1,h2,h3,h4,h5⟩:=(show bu X.prog X.w H1 s1.heap a (.dT aw)from TY.ok I1.bQ);refine w8 ⟨o,h1,h2.1⟩ hs h1 h3 ?_
  have fin:∀{H2:Hp},Inv X pins σ H2 s1->H2 a=some (.fZ o (.dT aw))->uY X B H H2->O2 X pins σ tg R (.ref s1.heap.objs.size) {s1 with heap:=s1.heap.push {cls:=.type "dict_keyiterator",data:=.fields #[.ref a,.int 0 0,.int es.size 0,.int ep 0]}}:=fun{H2} I2 e2 tf=>
   ⟨s1.heap.objs.size,[s1.heap.objs.size],_,RJ a o aw,H2,rfl,I2.kept (t':=s1.toks) fun b o e=>aD _ e,DC a _ o aw es ep h3,⟨_,aU _ rfl,rfl,rfl⟩,fun b hb=>by
    have e:b=s1.heap.objs.size:=by simpa using hb
    subst e;exact I2.uK (aA _) (I2.bQ.fresh (aA _)),k _ H2 tf (Bx (by rw[cK hv];exact e2) ek hk)⟩
  rcases TY with e1|⟨o',e1⟩
  ·refine fin (I1.frozen e1 (.t _) h1) aH (.inr ⟨H1,a,o,_,.t aw,sm,hv,e1,rfl,fun o' u e0=>?_⟩);have q:=I1.base.jx a o' u e0;rw[e1]at q;cases q
  ·have eo:o'=o:=by
    have q:=(show bu X.prog X.w H1 s1.heap a (.fZ o' (.dT aw))from I1.bQ a _ e1).1;rw[h1]at q;cases q;rfl
   subst eo;exact fin I1 e1 (.inl sm)
theorem xa{tg l:Expr}{F:av->Rs Tr}(hl:QE X l F):QJ X tg l (fun ρ=>lJ (F ρ)):=⟨NP hl.h⟩
end
end L2
namespace L2
open PySem PySem.Spec PySem.Calls PyProof.Rows
theorem yA:typeLookup (.type "tuple") "keys"=pure none:=by rw[mD,l9];kernel_rfl
def jm(xs more:List (List Key×Addr×Value)):List (List Key×Addr×Value):=more.foldl (fun acc p=>storedH acc p.1 p.2.1 p.2.2) xs
theorem xb(xs:List (List Key×Addr×Value))(k:List Key)(b:Addr)(u:Value):(storedH xs k b u).length<=xs.length+1:=by
 unfold storedH;split
 ·rw[aj];omega
 ·rw[bc];exact aA _
section
variable {prog:Program}{w:World}{A:Around}{E:Value->Shared->Prop}{s:Shared}
theorem xf{a:Addr}{xs:Array Value}{k:Nat}{sl:Array (Option Value)}{Q:Option Value->Shared->Prop}(hx:s.heap.get? a=some {cls:=.type "tuple",dict:=none,data:=.seq xs k,slots:=sl}) (hA:A.handled=none)
  (h:∀h' tk,(∀b o,s.heap.get? b=some o->h'.get? b=some o)->Q none {s with heap:=h',toks:=tk}):wpAny (model prog w) A (getAttr? (.ref a) "keys") Q E s:=by
 obtain⟨hp,g,d,tk,os⟩:=s;have hT:∀sW,(⟨hp,g,d,sW,os⟩:Shared).TypeIs (.ref a) "tuple":=fun _=>⟨_,hx,rfl⟩;have f1:=sub_AttributeError;have f3:=qg.lookup;have f4:=qg.bind (.ref a);have f5:=am_tuple_getattr_none;unfold getAttr? getAttrBy? getAttrBy
 repeat(any_goals (first|assumption|exact hT _|((with_reducible show wpAny _ _ (call (Value.builtin "tuple.__getattribute__") _ _) _ _ _);refine iM qg (hT _) am_entry_tuple_getattribute (F.args_tuple_getattribute_2 _ _) (meets_getattribute_miss_tuple a xs k sl "keys" _ yA (by decide+kernel) (by size_fits)) ⟨hx,hA,fun h' sW e Bc=>?_⟩)|wp_step))
 obtain⟨t',u',he⟩:=Bc.there;have RF:∀sW,(⟨h',g,d,sW,os⟩:Shared).TypeIs (.ref e) "AttributeError":=fun _=>⟨_,he,rfl⟩;show wpAny _ _ (getattributeRaised _ _ _ _ _ _ _) _ _ _;unfold getattributeRaised
 repeat(any_goals (first|assumption|exact RF _|wp_step))
 exact h h' sW Bc.of.keeps
structure PH(prog:Program)(w:World)(A:Around)(h0:Heap)(I:Addr)(items:List Value)(It:Nat->Heap->Prop):Prop where
 keep:∀{i h h'},It i h->(∀o,h.get? I=some o->h'.get? I=some o)->It i h'
 item:∀{i:Nat} {s:Shared} {x:Value} {E:Value->Shared->Prop} {Q:Option Value->Shared->Prop},It i s.heap->(∀b o,h0.get? b=some o->s.heap.get? b=some o)->items[i]?=some x->(∀h',It (i+1) h'->Heap.SameBut I s.heap h'->Q (some x) {s with heap:=h'})->wpAny (model prog w) A (pyNext (.ref I)) Q E s
 stop:∀{i:Nat} {s:Shared} {E:Value->Shared->Prop} {Q:Option Value->Shared->Prop},A.handled=none->It i s.heap->(∀b o,h0.get? b=some o->s.heap.get? b=some o)->items.length<=i->(∀h',(∀b o,b≠I->s.heap.get? b=some o->h'.get? b=some o)->Q none {s with heap:=h'})->wpAny (model prog w) A (pyNext (.ref I)) Q E s
theorem F7{h0:Heap}{l I:Addr}{items:List Value}(hl:h0.IsList l items.toArray):PH prog w A h0 I items (fun i h=>h.IsListIter I l i):=by
 have NQ:∀{h:Heap},(∀b o,h0.get? b=some o->h.get? b=some o)->h.IsList l items.toArray:=fun{h} k=>by obtain⟨o,e,x⟩:=hl;exact⟨o,k _ _ e,x⟩
 exact⟨fun⟨o,e,x⟩ k=>⟨o,k _ e,x⟩,fun it kp e h=>wpAny_pyNext_list_item it (NQ kp) (by simpa using e) h,fun hh it kp e h=>wpAny_pyNext_list_end hh it (NQ kp) (by simpa using e) h⟩
theorem JS{h0:Heap}{l I:Addr}{items:List Value}(hl:h0.IsTuple l items.toArray):PH prog w A h0 I items (fun i h=>h.IsTupleIter I l i):=by
 have NQ:∀{h:Heap},(∀b o,h0.get? b=some o->h.get? b=some o)->h.IsTuple l items.toArray:=fun{h} k=>by obtain⟨o,e,x⟩:=hl;exact⟨o,k _ _ e,x⟩
 exact⟨fun⟨o,e,x⟩ k=>⟨o,k _ e,x⟩,fun it kp e h=>qm it (NQ kp) (by simpa using e) h,fun hh it kp e h=>wpAny_pyNext_tuple_end hh it (NQ kp) (by simpa using e) h⟩
theorem By{h0:Heap}{d I:Addr}{items:List Value}{It:Nat->Heap->Prop}{pairs:List (List Key×Addr×Value)}{R:Result->Shared->Prop}(hu:A.units+1<cLine)(hh:A.handled=none)(W:PH prog w A.in1 h0 I items It)(hlen:items.length=pairs.length)
  (hp:∀(j:Nat) (t:Value),items[j]?=some t->∃ad b k v,t=.ref ad/\h0.IsTuple ad #[.ref b,v]/\(∀h':Heap,(∀b o,h0.get? b=some o->h'.get? b=some o)->(tupleKind (az prog w)).is h' k b)/\pairs[j]?=some (k,b,v))
  (VV:h0.get? d=none) (RK:h0.get? I=none) (RL:d≠I) (hz:pairs.length<=100000)
  (hR:∀h' sW,(∀b o,h0.get? b=some o->h'.get? b=some o)->h'.DictOfH (tupleKind (az prog w)) d (jm [] pairs)->R (.ok (.ret .none)) {s with heap:=h',toks:=sW}):
  ∀(r i:Nat) (h:Heap) (tk:Nat) (aw:List (List Key×Addr×Value)),pairs.length - i=r->i<=pairs.length->aw.length<=i->jm aw (pairs.drop i)=jm [] pairs->(∀b o,h0.get? b=some o->h.get? b=some o)->It i h->h.DictOfH (tupleKind (az prog w)) d aw->(∀x∈aw,∀h':Heap,(∀b o,h0.get? b=some o->h'.get? b=some o)->(tupleKind (az prog w)).is h' x.1 x.2.1)->
   codeAny (model prog w) A (.builtin "dict.update.loop" ⟨[.ref d,.ref I,rawInt i,.none],[]⟩) R {s with heap:=h,toks:=tk}:=by
 have nd:∀{b:Addr} {o:Obj},h0.get? b=some o->b≠d:=fun{b o} e z=>by rw[z,VV]at e;cases e
 have nI:∀{b:Addr} {o:Obj},h0.get? b=some o->b≠I:=fun{b o} e z=>by rw[z,RK]at e;cases e
 have mv:∀{h h':Heap} {aw:List (List Key×Addr×Value)},(∀b o,h0.get? b=some o->h'.get? b=some o)->(∀o,h.get? d=some o->h'.get? d=some o)->(∀x∈aw,∀h':Heap,(∀b o,h0.get? b=some o->h'.get? b=some o)->(tupleKind (az prog w)).is h' x.1 x.2.1)->h.DictOfH (tupleKind (az prog w)) d aw->h'.DictOfH (tupleKind (az prog w)) d aw:=by
  intro h h' aw kp kd ki ⟨o,es,ep,e1,e2,e3,e4,e5,e6⟩;exact⟨o,es,ep,kd _ e1,e2,e3,e4,fun x hx=>ki x hx h' kp,e6⟩
 intro r
 induction r with
 |zero=>
  intro i h tk aw hr hi hk hm kp it dd ki;have e:i=pairs.length:=by omega
  subst e;refine fQ ui ?_
  rw[gv i0 _];show wpAny _ A.in1 (pyNext (.ref I)>>=_) _ _ _;refine aa (W.stop (s:={s with heap:=h,toks:=tk}) hh it kp (by rw[hlen];exact aA _) fun h' eb=>?_);rw[jI]at hm;have Hw:∀b o,h0.get? b=some o->h'.get? b=some o:=fun b o e=>eb b o (nI e) (kp b o e);have GV:=mv (h':=h') Hw (fun o e=>eb d o RL e) ki dd;show wpAny _ A.in1 (Builtin.Dict.addKeywords d []>>=_) _ _ _;refine aa (af (af ?_));exact hR h' tk Hw (by rw[<-hm];exact GV)
 |succ r ih=>
  intro i h tk aw hr hi hk hm kp it dd ki;have fc:i<pairs.length:=by omega
  have RM:i<items.length:=by omega
  obtain⟨ad,b,k,v,et,tp,EN,ep⟩:=hp i items[i] (by simp[RM]);have yY:pairs[i]=(k,b,v):=by rw[aI fc]at ep;exact Option.some.inj ep
  refine fQ ui ?_
  rw[gv i0 _];show wpAny _ A.in1 (pyNext (.ref I)>>=_) _ _ _;refine aa (W.item (s:={s with heap:=h,toks:=tk}) it kp (x:=.ref ad) (by rw[aI RM,et]) fun h' RN sb=>?_);have Hw:∀b o,h0.get? b=some o->h'.get? b=some o:=fun b o e=>(sb.2 b (nI e)).trans (kp b o e);have GV:=mv (h':=h') Hw (fun o e=>(sb.2 d RL).trans e) ki dd;obtain⟨ot,e1,e2,n,e3⟩:=tp;have hT:Shared.TypeIs {s with heap:=h',toks:=tk} (.ref ad) "tuple":=⟨ot,Hw _ _ e1,e2⟩;refine aa ?_
  refine cV ?_
  refine aa (wpAny_tryCatch ?_);unfold Builtin.Dict.pairItems;refine aa (gY hT ?_);rw[ab (by decide)];refine aa (eU (Hw _ _ e1) e3 ?_);refine af ?_
  show wpAny _ A.in1 (holding [.ref b,v] (dictSet d (.ref b) v)) _ _ _;refine cV (wpAny_dictSet_heap (knd:=tupleKind (az prog w)) (hsz:=by rw[bS];omega) (jf hu) (EN _ Hw) GV fun h2 Ey PJ=>?_);show wpAny _ A.in1 (pure _) _ _ _;refine af ⟨eX i0 _,?_⟩;have hc:rawInt ((i:Int)+1)=rawInt ((i+1:Nat):Int):=by push_cast;rfl
  rw[hc];refine ih (i+1) h2 _ (storedH aw k b v) (by omega) fc ?_ ?_ (fun b o e=>(PJ.2 b (nd e)).trans (Hw b o e)) ?_ Ey ?_
  ·exact bp (xb aw k b v) (by omega)
  ·rw[lS fc,yY]at hm;exact hm
  ·exact W.keep RN fun o e=>(PJ.2 I (bY RL)).trans e
  ·intro x hx;unfold storedH at hx;split at hx
   ·obtain⟨y,hy,rfl⟩:=bg.mp hx;unfold putAt;split
    ·exact ki y hy
    ·exact ki y hy
   ·rcases d_.mp hx with hx|hx
    ·exact ki x hx
    ·rw[cv.mp hx];exact EN
theorem yB{l:Addr}{items:List Value}{pairs:List (List Key×Addr×Value)}{Q:Value->Shared->Prop}{k0:Nat}{PK:Array (Option Value)}{tn:String}(hu:A.units+4<cLine)(hh:A.handled=none)(NR:tn="list"\/tn="tuple")(hx:s.heap.get? l=some {cls:=.type tn,dict:=none,data:=.seq items.toArray k0,slots:=PK}) (hlen:items.length=pairs.length)
  (hp:∀(j:Nat) (t:Value),items[j]?=some t->∃ad b k v,t=.ref ad/\s.heap.IsTuple ad #[.ref b,v]/\(∀h':Heap,(∀b o,s.heap.get? b=some o->h'.get? b=some o)->(tupleKind (az prog w)).is h' k b)/\pairs[j]?=some (k,b,v)) (hz:pairs.length<=100000)
  (h:∀h' sW,(∀b o,s.heap.get? b=some o->h'.get? b=some o)->h'.DictOfH (tupleKind (az prog w)) s.heap.objs.size (jm [] pairs)->Q (.ref s.heap.objs.size) {s with heap:=h',toks:=sW}):
  wpAny (model prog w) A (call (.type "dict") [.ref l]) Q E s:=by
 refine callType_codes (Q₁:=fun obj bV=>obj=.ref s.heap.objs.size/\bV={s with heap:=s.heap.push {cls:=.type "dict",data:=.dict #[]}}) F.kt_called_dict (F.kt_typeCall_dict_1 _) F.entry_dict_init (kt_code_dict_new _ ⟨rfl,rfl⟩) ?_
 rintro obj bV ⟨rfl,rfl⟩
 have EY:(s.heap.push {cls:=.type "dict",data:=.dict #[]}).DictOf (az prog w) s.heap.objs.size []:=Heap.DictOf.new s.heap;have NS:(s.heap.push {cls:=.type "dict",data:=.dict #[]}).DictOfH (tupleKind (az prog w)) s.heap.objs.size []:=Heap.DictOfH.new s.heap;have Hx:=aD {cls:=.type "dict",data:=.dict #[]} hx;refine⟨EY.typeIs,F.args_dict_init_2 _ _,?_⟩;unfold Builtin.«dict.__init__»;refine aa ?_
 unfold Builtin.Dict.selfAndRest;refine aa (wpAny_notOrdered_dict EY.typeIs ?_);show wpAny _ _ (pure (s.heap.objs.size,[Value.ref l])) _ _ _;refine af ?_
 show wpAny _ _ (Builtin.Dict.updateFrom "dict.__init__" s.heap.objs.size (.ref l) [] .none) _ _ _;unfold Builtin.Dict.updateFrom;have tail:∀(h1:Heap) (pE:Nat),(∀b o,(s.heap.push {cls:=.type "dict",data:=.dict #[]}).get? b=some o->h1.get? b=some o)->∀(I:Addr) (It:Nat->Heap->Prop) (oI:Obj),I=h1.objs.size->PH prog w A.in1.in1 s.heap I items It->It 0 (h1.push oI)->
   codeAny (model prog w) A.in1 (.builtin "dict.update.loop" ⟨[.ref s.heap.objs.size,.ref I,rawInt 0,.none],[]⟩) (wants (fun r nR=>r=.none/\Q (.ref s.heap.objs.size) nR) E) {s with heap:=h1.push oI,toks:=pE}:=by
  intro h1 pE k1 I It oI eI W VW;subst eI;have k2:∀b o,s.heap.get? b=some o->h1.get? b=some o:=fun b o e=>k1 b o (aD _ e);have VX:h1.get? s.heap.objs.size=some {cls:=.type "dict",data:=.dict #[]}:=k1 _ _ (aU _ rfl);have fc:s.heap.objs.size<h1.objs.size:=ax VX;refine By (s:=s) (h0:=s.heap) (A:=A.in1) (by show A.units+1+1<cLine;omega) hh W hlen hp (by
   cases e:s.heap.get? s.heap.objs.size with
   |none=>rfl
   |some o=>exact absurd (ax e) (cJ _)) (by
   cases e:s.heap.get? h1.objs.size with
   |none=>rfl
   |some o=>exact absurd (ax (k2 _ _ e)) (cJ _)) (aS fc) hz (fun h' sW kp dd=>⟨rfl,h h' sW kp dd⟩) _ 0 _ _ [] rfl (bG _) (aA _) rfl (fun b o e=>aD _ (k2 b o e)) VW ?_ (fun x hx=>by cases hx)
  obtain⟨o,es,ep,e,x1,x2,x3,x4,x5⟩:=NS;exact⟨o,es,ep,aD _ (k1 _ _ e),x1,x2,x3,(fun x hx=>by cases hx),x5⟩
 rcases NR with rfl|rfl
 ·have hT:Shared.TypeIs {s with heap:=s.heap.push {cls:=.type "dict",data:=.dict #[]}} (.ref l) "list":=⟨_,Hx,rfl⟩;refine aa (gY hT ?_);rw[ab (by decide)];refine aa (yw Hx hh fun h1 pE k1=>?_);rw[ab (show(none:Option Value).isNone=true from rfl)];have hl:s.heap.IsList l items.toArray:=⟨_,hx,rfl,_,rfl⟩;refine aa (fX ?_);refine aa (jL (show h1.IsList l items.toArray from⟨_,k1 _ _ Hx,rfl,_,rfl⟩) ?_);refine af ⟨eX i0 _,?_⟩;exact tail h1 pE k1 _ _ {cls:=.type "list_iterator",data:=.fields #[.ref l,.int 0 0]} rfl (F7 hl) (by exact⟨_,aU _ rfl,rfl,rfl⟩)
 ·have hT:Shared.TypeIs {s with heap:=s.heap.push {cls:=.type "dict",data:=.dict #[]}} (.ref l) "tuple":=⟨_,Hx,rfl⟩;refine aa (gY hT ?_);rw[ab (by decide)];refine aa (xf Hx hh fun h1 pE k1=>?_);rw[ab (show(none:Option Value).isNone=true from rfl)];have hl:s.heap.IsTuple l items.toArray:=⟨_,hx,rfl,_,rfl⟩;refine aa (fX ?_);refine aa (jH (show h1.IsTuple l items.toArray from⟨_,k1 _ _ Hx,rfl,_,rfl⟩) ?_);refine af ⟨eX i0 _,?_⟩;exact tail h1 pE k1 _ _ {cls:=.type "tuple_iterator",data:=.fields #[.ref l,.int 0 0]} rfl (JS hl) (by exact⟨_,aU _ rfl,rfl,rfl⟩)
end
def ng:List Tr->Option (List (List Key×Tr))
 |[]=>some []
 |.tup [k,v]::r=>match m_ k,ng r with
  |some key,some l=>some ((key,v)::l)
  |_,_=>none
 |_=>none
def de:List Tr->Rs Tr
 |[.lst ts]=>match ng ts with
  |some aB=>if aB.length<=100000 then .ok (.aE (kz [] aB))else .bad
  |none=>.bad
 |[.tup ts]=>match ng ts with
  |some aB=>if aB.length<=100000 then .ok (.aE (kz [] aB))else .bad
  |none=>.bad
 |_=>.bad
def gB(aw more:List (List Key×V)):List (List Key×V):=more.foldl (fun acc kv=>putK acc kv.1 kv.2) aw
theorem kA:∀(more aw:List (List Key×V)),(gB aw more).length<=aw.length+more.length
 |[],aw=>by show aw.length<=aw.length+0;omega
 |p::r,aw=>by
  have h1:=kA r (putK aw p.1 p.2);have h2:=j2 aw p.1 p.2;show(gB (putK aw p.1 p.2) r).length<=_;rw[a_];omega
theorem dq.merge {K:PySem.W.Frag}{H:Vw}:∀{more:List (List Key×V)} {Lg:List (List Key×Tr)} {aw:List (List Key×V)} {aB:List (List Key×Tr)},dq K H more Lg->dq K H aw aB->dq K H (gB aw more) (kz aB Lg)
 |[],Lg,aw,aB,h,h0=>by
  have e:=h.keys;cases Lg with
  |nil=>exact h0
  |cons a b=>cases e
 |(j,v)::more,Lg,aw,aB,h,h0=>by
  obtain⟨t,r,rfl,h1,h2⟩:=h.inv;exact dq.merge (more:=more) (Lg:=r) (aB:=i6 aB j t) h2 (h0.put j h1)
theorem KT.merge {H:Hp}:∀{more:List (List Key×V)} {ms:List (List Key×Addr×Value)} {aw:List (List Key×V)} {xs:List (List Key×Addr×Value)},KT H more ms->KT H aw xs->KT H (gB aw more) (jm xs ms):=by
 intro more ms aw xs r;unfold KT at r
 induction r generalizing aw xs with
 |nil=>intro q;exact q
 |@cons p q ps qs h t ih=>
  intro r0;obtain⟨h1,h2,h3⟩:=h;have:=ih (KT.put r0 p.1 (b:=q.2.1) (y:=p.2) (u:=q.2.2) h2 h3);rw[h1]at this;show KT H (gB (putK aw p.1 p.2) ps) (jm (storedH xs q.1 q.2.1 q.2.2) qs);rw[h1];exact this
section
variable {X:Cx}{pins:List (Addr×Obj)}{σ:St}{H:Hp}{s:Shared}{B:bP}
theorem Bz{t:Tr}{ts:List Tr}{aB:List (List Key×Tr)}(h:ng (t::ts)=some aB):∃k v key l,t=.tup [k,v]/\m_ k=some key/\ng ts=some l/\aB=(key,v)::l:=by
 unfold ng at h;split at h
 ·cases‹t::ts=[]›
 ·rename_i k v r e;cases e;cases e1:m_ k with
  |none=>rw[e1]at h;cases h
  |some key=>
   cases e2:ng ts with
   |none=>rw[e1,e2]at h;cases h
   |some l=>rw[e1,e2]at h;cases h;exact⟨k,v,key,l,rfl,e1,rfl,rfl⟩
 ·cases h
theorem gf{h0:Heap}{b:Addr}{k:List Key}{P:Program}{w:World}(e:(tupleKind (az P w)).is h0 k b):∀h':Heap,(∀b o,h0.get? b=some o->h'.get? b=some o)->(tupleKind (az P w)).is h' k b:=by
 intro h' kp;obtain⟨o,aY,n,h1,h2,h3,h4⟩:=e;exact⟨o,aY,n,kp _ _ h1,h2,h3,h4⟩
theorem xg(I:Inv X pins σ H s):∀{vs:List V} {ts:List Tr} {aB:List (List Key×Tr)} {aY:List Value},aL X.K (aQ B H) vs ts->ng ts=some aB->Vals vs aY->
  ∃(aw:List (List Key×V)) (ps:List (List Key×Addr×Value)),dq X.K (aQ B H) aw aB/\KT H aw ps/\aY.length=ps.length/\∀(j:Nat) (t:Value),aY[j]?=some t->∃ad b k v,t=.ref ad/\s.heap.IsTuple ad #[.ref b,v]/\(∀h':Heap,(∀b o,s.heap.get? b=some o->h'.get? b=some o)->(tupleKind (az X.prog X.w)).is h' k b)/\ps[j]?=some (k,b,v)
 |[],[],_,_,_,e,rv=>by cases e;cases rv;exact⟨[],[],.nil,.nil,rfl,fun j t e=>by simp at e⟩
 |[],_::_,_,_,h,_,_=>by cases h
 |v::vs,ts,aB,aY,h,e,rv=>by
  cases h with
  |cons h r=>
   obtain⟨k,w',key,l,rfl,ek,el,rfl⟩:=Bz e;cases rv with
   |cons h1 rv=>
    obtain⟨aw,ps,q1,q2,q3,q4⟩:=xg I r el rv;obtain⟨ad,us,rfl,hq,rr⟩:=h.j8;cases h1;obtain⟨x1,x2,rfl,rk,kY⟩:=rA rr;obtain⟨v9,B7,pl,_⟩:=I.tuple (.inl (.inl (aG _ _ hq)));obtain⟨u1,u2,rfl,r1,r2⟩:=vals2 B7;obtain⟨b,rfl,hb⟩:=kx rk ek;cases(show u1=Value.ref b from r1);refine⟨(key,_)::aw,(key,b,u2)::ps,.cons kY q1,.cons ⟨rfl,hb,r2⟩ q2,by rw[a_,a_,q3],fun j t et=>?_⟩;cases j with
    |zero=>cases et;exact⟨ad,b,key,u2,rfl,pl,gf (j3 I.bQ hb),rfl⟩
    |succ j=>exact q4 j t et
theorem i7(hu:X.A.units+4<cLine)(hc:X.calm=true):e8 X (.type "dict") (rF X de):=by
 intro pins s σ H xs us Q I rv ⟨B,ts,hb,r,q⟩;have key:∃tr nZ aB,ts=[tr]/\(tr=.lst nZ\/tr=.tup nZ)/\ng nZ=some aB/\aB.length<=100000/\∀v H',au H H'->Rep X.K (aQ B H') v (.aE (kz [] aB))->(∀p,v=.ref p->Jy H H' p)->Q v H':=by
  unfold de at q;split at q
  ·rename_i nZ;cases e:ng nZ with
   |none=>rw[e]at q;exact(show False from q).elim
   |some aB=>
    rw[e]at q;obtain⟨h0,z⟩:=fh q;exact⟨_,nZ,aB,rfl,.inl rfl,e,h0,z⟩
  ·rename_i nZ;cases e:ng nZ with
   |none=>rw[e]at q;exact(show False from q).elim
   |some aB=>
    rw[e]at q;obtain⟨h0,z⟩:=fh q;exact⟨_,nZ,aB,rfl,.inr rfl,e,h0,z⟩
  ·exact(show False from q).elim
 obtain⟨tr,nZ,aB,rfl,RO,ep,hz,k⟩:=key;obtain⟨x,rfl,h⟩:=gs r;obtain⟨u,rfl,ru⟩:=vals1 rv;have src:∃(a:Addr) (vs:List V) (tn:String) (aY:List Value) (n0:Nat) (PK:Array (Option Value)),x=.ref a/\(tn="list"\/tn="tuple")/\aL X.K (aQ B H) vs nZ/\Vals vs aY/\s.heap.get? a=some {cls:=.type tn,dict:=none,data:=.seq aY.toArray n0,slots:=PK}:=by
  rcases RO with rfl|rfl
  ·obtain⟨a,vs,rfl,h,rr⟩:=h.lst_inv;obtain⟨z0,aY,n0,uq,hx⟩:=(show bu X.prog X.w H s.heap a (.lst vs)from I.bQ a _ (gm h));exact⟨a,vs,"list",aY,n0,_,rfl,.inl rfl,rr,uq,hx⟩
  ·obtain⟨a,vs,rfl,h,rr⟩:=h.j8;obtain⟨_,aY,uq,o,hx,c1,n0,c2,c3⟩:=(show bu X.prog X.w H s.heap a (.tup vs)from I.bQ a _ (aG _ _ h));obtain⟨oc,od,Xx,y9⟩:=o;simp only at c1 c2 c3;subst c1 c2 c3;exact⟨a,vs,"tuple",aY,n0,y9,rfl,.inr rfl,rr,uq,hx⟩
 obtain⟨a,vs,tn,aY,n0,PK,rfl,NR,rr,uq,hx⟩:=src;cases(show u=Value.ref a from ru);obtain⟨aw,ps,q1,q2,q3,q4⟩:=xg I rr ep uq;have hl:aw.length=aB.length:=q1.length;have VY:ps.length<=100000:=by rw[<-Paired.length q2,hl];exact hz
 refine yB hu (I.ok.hd hc) NR hx q3 q4 VY fun h' sW kp dd=>?_
 have hf:H s.heap.objs.size=none:=I.fresh;have VZ:(gB [] aw).length<=sizeLine:=by have:=kA aw [];rw[dz]at this;rw[bS];omega
 have RP:(s.heap.objs.size==sysModules)=false:=by
  have:=I.big;exact ef (cn this)
 have km:KT (upd H s.heap.objs.size (.dT (gB [] aw))) (gB [] aw) (jm [] ps):=(KT.merge q2 (show KT H [] []from .nil)).keeps fun b ys e=>(ak fun z=>by rw[z,hf]at e;cases e).trans e;obtain⟨o,es,yY,e1,e2,e3,e4,_,e6⟩:=dd;refine⟨.ref s.heap.objs.size,_,I.laid (t':=sW) (o:=.dT (gB [] aw)) kp (aA _) ⟨VZ,RP,_,km,o,es,yY,e1,e2,e3,e4,e6⟩,rfl,k _ _ (au.upd hf) (.aE (.inl (hb.new hf)) ?_ ?_) fun p' e=>by cases e;exact .upd hf (fun _ _ z=>by cases z)⟩
 ·exact(dq.merge q1 dq.nil).keys
 ·exact(dq.merge q1 dq.nil).vals.same (ba (au.upd hf))
end
end L2
namespace L2
open PySem PySem.Spec PyProof.Rows
section
variable {X:Cx}{K:PySem.W.Frag}{B:bP}{H H':Hp}{A:Ab}{a:Addr}{u u' u0:HO}
theorem ph.ha (w:ph H H' a u u' u0)(hv:B.hd a=false)(h:HA K B A H):HA K B A H':=by
 refine⟨w.hb h.hb,fun i o e=>?_,h.inj,h.lt⟩;obtain⟨c,h1,h2⟩:=h.ob i o e;refine⟨c,h1,?_⟩;have fA:c≠a:=fun z=>by have q:=h2.hd;rw[z,hv]at q;cases q
 have eq:H' c=H c:=by rw[w.to,ak fA]
 cases o with
 |lst ts=>obtain⟨h0,vs,h1,h2⟩:=h2;exact⟨h0,vs,eq.trans h1,w.A6 h2⟩
 |j6 aB=>obtain⟨h0,vs,h1,h2⟩:=h2;exact⟨h0,vs,eq.trans h1,h2.keys,w.A6 h2.vals⟩
 |aE aB=>obtain⟨h0,vs,h1,h2,h3⟩:=h2;exact⟨h0,vs,eq.trans h1,h2,w.A6 h3⟩
 |FN x=>obtain⟨h0,oe,h1,h2⟩:=h2;exact⟨h0,oe,eq.trans h1,h2⟩
 |tb x q=>obtain⟨h0,h1,h2⟩:=h2;exact⟨h0,h1,eq.trans h2⟩
 |ins c fs=>
  obtain⟨h0,dx,vL,h1,h2,h3,h4,h5⟩:=h2;exact⟨h0,dx,vL,eq.trans h1,w.lg h2 (fun z=>by cases z) (fun _ _ d z=>by cases z<;>cases d),h3,h4,w.A6 h5⟩
theorem uY.ha (h:uY X B H H')(r:HA K B A H):HA K B A H':=by
 rcases h with s|⟨H1,a,o,u0,hk,s,hv,ha,rfl,h0⟩
 ·exact r.same s
 ·exact ph.ha (u:=u0) ⟨ha,rfl,.inl ⟨rfl,o,rfl⟩,hk⟩ hv (r.same s)
theorem uY.DE {B2:bP}{H2:Hp}{A2:Ab}(h:uY X B H H')(hb:HB B H)(g:Grows B H' B2 H2)(r:HA K B2 A2 H2):
  ∃Hu,Grows B H B2 Hu/\HA K B2 A2 Hu/\(∀{B3:bP} {v:V} {t:Tr},Rep K (aQ B3 H2) v t->Rep K (aQ B3 Hu) v t)/\(∀{σ:St} {ρ:av},bb K B2 H2 σ ρ->bb K B2 Hu σ ρ)/\∀k:Hp->Prop,k Hu->f9 X H2 k:=by
 rcases h with s|⟨H1,a,o,u0,hk,s,hv,ha,rfl,h0⟩
 ·exact⟨H2,(Grows.of s).trans hb g,r,fun r=>r,fun r=>r,fun k q=>.inl q⟩
 ·have e1:(aQ B (upd H1 a (.fZ o u0))).H a=some (.fZ o u0):=by rw[cK hv];exact aH
  have e2:=g.fH.h _ _ e1;have e3:H2 a=some (.fZ o u0):=aG _ _ e2;have w:ph H2 (upd H2 a u0) a (.fZ o u0) u0 u0:=⟨e3,rfl,.inr ⟨rfl,o,rfl⟩,hk⟩;have Pk:B2.hd a=false:=by
   cases q:B2.hd a with
   |false=>rfl
   |true=>
    have n:(aQ B2 H2).H a=none:=by show(if B2.hd a=true then none else H2 a)=none;rw[ab q]
    rw[n]at e2;cases e2
  refine⟨upd H2 a u0,⟨⟨fun b ob e=>?_,fun b i e=>g.fH.x b i e⟩,fun b ob c e=>?_,g.hd,fun b i e n=>?_⟩,w.ha Pk r,fun r=>w.rep r,fun r=>w.yj r,fun k q=>.inr ⟨a,o,u0,hk,e3,h0,q⟩⟩
  ·by_cases z:b=a
   ·subst z;have q:=s _ _ (aG _ _ e);rw[ha]at q;cases q;rw[cK Pk];exact aH
   ·have q:(aQ B (upd H1 a (.fZ o u0))).H b=some ob:=gn e fun e=>by rw[ak z];exact s _ _ e
    exact gn (g.fH.h _ _ q) fun e=>by rw[ak z];exact e
  ·have q:=s _ _ e;by_cases z:b=a
   ·subst z;rw[ha]at q;cases q;exact aH
   ·rw[ak z];exact g.kp b ob c (by rw[ak z];exact q)
  ·have q:=g.nw b i e n;refine s.free ?_
   by_cases z:b=a
   ·subst z;rw[aH]at q;cases q
   ·rw[ak z]at q;exact q
end
def NT(r:Rz Out):Rz Out:=match r with
 |.ok o A=>.ok o A
 |_=>.bad
theorem F8{xc:Tr->Ab->Prop}{r:Rz Out}{k:Out->Ab->Prop}(q:cF xc (NT r) k):cF (fun _ _=>False) r k:=by
 cases r with
 |ok o A=>exact q
 |exc c A=>exact(show False from q).elim
 |bad=>exact q
section
variable {X:Cx}{tg iter:Expr}{body:List Stmt}{W:av->Rs (List Tr)}{T:j_}{G:av->Ab->Rz Out}{pos:Pos}
theorem JT(hi:QJ X tg iter W)(hg:QG X tg T)(hT:gk T)(hb:ZB X body G)(hp:PassesOwn (model X.prog X.w) X.A X.env X.xe:=by first|exact gU|exact gP) (hc:X.calm=true:=by rfl)
  (hs:isSet iter=false:=by rfl):ZS X (.For tg iter body [] pos) (fun ρ A=>NT (f' T G (ai (W ρ) A) ρ)):=
 ⟨(uL hp hc hi.h hg.h hb.h (cL hs)).Jo.weak fun D σ H ⟨B0,H0,B,A,ρ,mZ,g,ha,r,n,q⟩=>⟨B,ρ,ha.hb,r,(f_ (cF.bind (F8 q))).mono fun ts qt J H1 tf gt=>by
   have gq:=tf.ha ha;have va:HB B H1:=gq.hb;refine⟨fun i m bK H'=>m=ts.length - i/\i<=ts.length/\∃B' A' eK,Grows B H1 B' H'/\HA X.K B' A' H'/\bb X.K B' H' bK eK/\dj eK/\cF (fun _ _=>False) (fK T G (ts.drop i) eK A') (iZ X D B0 H0),⟨_,rfl,bG _,B,A,ρ,.refl,gq,tf.yj r,n,qt⟩,?_⟩
   rintro i m bK H' ⟨rfl,hi,B',A',eK,g',dB,r',n',q'⟩
   by_cases fc:i<ts.length
   ·rw[lS fc]at q';refine .inr ⟨gt.go i B' H' fc g'.fH dB.hb,fun pL H2=>∃B2 A2 ρ2,Grows B H1 B2 H2/\HA X.K B2 A2 H2/\bb X.K B2 H2 pL ρ2/\dj ρ2/\cF (fun _ _=>False) (fK T G (ts.drop (i+1)) ρ2 A2) (iZ X D B0 H0),
     fun pL H2 x=>⟨ts.length - (i+1),by omega,rfl,fc,x⟩,fun x H2 hx=>?_⟩
    obtain⟨s2,t,et,rt⟩:=gt.xU i B' H' x H2 fc g'.fH dB.hb hx;have Jh:ts[i]=t:=by rw[aI fc]at et;exact Option.some.inj et
    rw[Jh]at q';have g2:Grows B H1 B' H2:=g'.trans va (.of s2);refine zF hT va g2 (dB.same s2) (r'.same s2) n' rt (cF.bind q') fun ρ1 xQ H3 q1 g3 yt r3 n3 _=>?_
    refine⟨B,H1,B',A',ρ1,va,g3,yt,r3,n3,((cF.bind q1).imp fun c RD x=>x.elim).mono fun o A4 qo=>?_⟩;cases o with
    |nx ρ2=>exact fun wM B4 H4 g4 kq r4 n4=>⟨B4,A4,ρ2,g4,kq,r4,n4,qo⟩
    |ct ρ2=>exact fun wM B4 H4 g4 kq r4 n4=>⟨B4,A4,ρ2,g4,kq,r4,n4,qo⟩
    |bk ρ2=>
     intro wM B4 H4 g4 kq r4 n4;obtain⟨Hu,gu,NU,ru,rs,ku⟩:=tf.DE ha.hb g4 kq;exact ku _ (qo wM B4 Hu (g.trans mZ gu) NU (rs r4) n4)
    |ret t=>
     intro v B4 H4 g4 kq r4;obtain⟨Hu,gu,NU,ru,rs,ku⟩:=tf.DE ha.hb g4 kq;exact ku _ (qo v B4 Hu (g.trans mZ gu) NU (ru r4))
   ·have e:i=ts.length:=by omega
    subst e;rw[jI]at q';obtain⟨Hu,gu,NU,ru,rs,ku⟩:=tf.DE ha.hb g' dB;exact .inl ⟨gt.stop B' H' g'.fH,ku _ (q' bK B' Hu (g.trans mZ gu) NU (rs r') n')⟩⟩⟩
def gg(T:j_)(G:av->Ab->Rz Out)(j:Nat):Nat->Nat->av->Ab->Rz Out
 |0,_,_,_=>.bad
 |m+1,i,ρ,A=>match A[j]? with
  |some (.lst us)=>match us[i]? with
   |none=>.ok (.nx ρ) A
   |some t=>(ai (T t ρ) A).bind fun ρ1 A=>(G ρ1 A).bind fun o A=>match o with
    |.nx ρ2=>gg T G j m (i+1) ρ2 A
    |.ct ρ2=>gg T G j m (i+1) ρ2 A
    |.bk ρ2=>.ok (.nx ρ2) A
    |.ret t=>.ok (.ret t) A
  |_=>.bad
def loopAt(T:j_)(G:av->Ab->Rz Out)(m:Nat)(r:Rz Tr)(ρ:av):Rz Out:=r.bind fun t A=>match t with
 |.at j=>match A[j]? with
  |some (.lst _)=>gg T G j m 0 ρ A
  |_=>.bad
 |_=>.bad
inductive TZ(X:Cx)(F:av->Ab->Rz Tr)(σ:St)(H:Hp)(R:It->Hp->Prop):Prop
 |mk (B:bP) (A:Ab) (ρ:av):HA X.K B A H->bb X.K B H σ ρ->dj ρ->(cF (XE X B H) (F ρ A) fun t A'=>∃j us,t=.at j/\A'[j]?=some (.lst us)/\∀a B' H',Grows B H B' H'->HA X.K B' A' H'->B'.ix a=some j->R (O4 X.K a) H')->TZ X F σ H R
theorem RQ{F:av->Ab->Rz Tr}(h:PE X iter (tE X F)):PI X tg iter (TZ X F):=by
 intro pins s σ H R I ⟨B,A,ρ,ha,r,n,q⟩;refine dY (h pins s σ H (fun x H1=>∃a vs,x=.ref a/\H1 a=some (.lst vs)/\R (O4 X.K a) H1) I ⟨B,A,ρ,ha,r,n,q.mono fun t A1 ⟨j,us,et,ej,k⟩ v B1 H1 g1 gq rv=>?_⟩) fun v s1 ⟨x,H1,I1,r1,a,vs,ex,e1,k⟩=>?_
 ·subst et;obtain⟨a,rfl,ug⟩:=rv.uS;obtain⟨hd,vs,h1,h2⟩:=gq.get ug ej;exact⟨a,vs,rfl,h1,k a B1 H1 g1 gq ug⟩
 ·subst ex;cases r1;obtain⟨aY,rv,pl,hz⟩:=I1.list (iN.of e1);refine jL pl.isList ?_
  refine⟨s1.heap.objs.size,[s1.heap.objs.size],_,_,H1,rfl,I1.kept (t':=s1.toks) fun b o e=>aD _ e,tj a _,⟨_,aU _ rfl,rfl,rfl⟩,fun b hb=>?_,k⟩;have e:b=s1.heap.objs.size:=by simpa using hb
  subst e;exact I1.uK (aA _) (I1.bQ.fresh (aA _))
theorem JU{K:PySem.W.Frag}{B:bP}{A:Ab}{H:Hp}{a:Addr}{j:Nat}{us:List Tr}(ha:HA K B A H)(hx:B.ix a=some j)(ej:A[j]?=some (.lst us)):∃vs,H a=some (.lst vs)/\aL K (aQ B H) vs us:=by
 obtain⟨hd,vs,h1,h2⟩:=ha.get hx ej;exact⟨vs,h1,h2⟩
theorem zT(m:Nat){F:av->Ab->Rz Tr}(hi:ZE X iter F)(hg:QG X tg T)(hT:gk T)(hb:ZB X body G)(hp:PassesOwn (model X.prog X.w) X.A X.env X.xe:=by first|exact gU|exact gP) (hc:X.calm=true:=by rfl)
  (hs:isSet iter=false:=by rfl):ZS X (.For tg iter body [] pos) (fun ρ A=>loopAt T G m (F ρ A) ρ):=
 ⟨(uL hp hc (RQ hi.h) hg.h hb.h (cL hs)).weak fun D σ H ⟨B0,H0,B,A,ρ,mZ,g,ha,r,n,q⟩=>⟨B,A,ρ,ha,r,n,((cF.bind q).imp fun c A' x=>x.grow mZ g).mono fun t A1 qt=>by
   have key:∃j us,t=.at j/\A1[j]?=some (.lst us)/\cF (XE X B0 H0) (gg T G j m 0 ρ A1) (iZ X D B0 H0):=by
    split at qt
    ·rename_i j;split at qt
     ·rename_i us ej;exact⟨j,us,rfl,ej,qt⟩
     ·exact qt.elim
    ·exact qt.elim
   obtain⟨j,us,et,ej,qt⟩:=key;refine⟨j,us,et,ej,fun a B1 H1 NV gq Hx=>?_⟩;have g1:Grows B0 H0 B1 H1:=g.trans mZ NV;have va:HB B1 H1:=gq.hb;refine⟨fun i k bK H'=>∃B' A' eK,Grows B1 H1 B' H'/\HA X.K B' A' H'/\bb X.K B' H' bK eK/\dj eK/\cF (XE X B0 H0) (gg T G j k i eK A') (iZ X D B0 H0),⟨m,B1,A1,ρ,.refl,gq,r.grow n NV,n,qt⟩,?_⟩
   rintro i k bK H' ⟨B',A',eK,g',dB,r',n',q'⟩
   have Bc:B'.ix a=some j:=g'.fH.x a j Hx;cases k with
   |zero=>exact(show False from q').elim
   |succ k=>
    unfold gg at q';split at q'
    ·rename_i nZ V0;obtain⟨vs,e1,rr⟩:=JU dB Bc V0;have hl:=rr.length;split at q'
     ·rename_i eu;refine .inl ⟨⟨vs,iN.of e1,?_⟩,q' bK B' H' (g1.trans mZ g') dB r' n'⟩;rw[hl];exact lW.mp eu
     ·rename_i t eu;obtain⟨v,ev,rv⟩:=rr.get eu;refine .inr ⟨⟨vs,v,iN.of e1,ev⟩,fun pL H2=>∃B2 A2 ρ2,Grows B1 H1 B2 H2/\HA X.K B2 A2 H2/\bb X.K B2 H2 pL ρ2/\dj ρ2/\cF (XE X B0 H0) (gg T G j k (i+1) ρ2 A2) (iZ X D B0 H0),
       fun pL H2 x=>⟨k,jJ k,x⟩,fun x H2 hx=>?_⟩
      obtain⟨eh,hx⟩:=hx;subst eh;have ex:v=x:=by have z:=hx vs (iN.of e1);rw[ev]at z;exact Option.some.inj z
      subst ex;refine zF hT va g' dB r' n' rv (cF.bind q') fun ρ1 xQ H3 q1 g3 yt r3 n3 _=>?_
      refine⟨B1,H1,B',A',ρ1,va,g3,yt,r3,n3,((cF.bind q1).imp fun c RD x=>x.grow mZ g1).mono fun o A4 qo=>?_⟩;cases o with
      |nx ρ2=>exact fun wM B4 H4 g4 kq r4 n4=>⟨B4,A4,ρ2,g4,kq,r4,n4,qo⟩
      |ct ρ2=>exact fun wM B4 H4 g4 kq r4 n4=>⟨B4,A4,ρ2,g4,kq,r4,n4,qo⟩
      |bk ρ2=>exact fun wM B4 H4 g4 kq r4 n4=>qo wM B4 H4 (g1.trans mZ g4) kq r4 n4
      |ret t=>exact fun v B4 H4 g4 kq r4=>qo v B4 H4 (g1.trans mZ g4) kq r4
    ·exact(show False from q').elim⟩⟩
end
end L2
namespace L2
open PySem
def PL(m:Nat):Nat->Nat->Nat
 |0,i=>i
 |k+1,i=>PL m k ((i*5+1) % (m+1))
def zU(m:Nat):Bool:=(List.range (m+1)).all fun i=>(List.range (m+1)).all fun j=>(List.range (m+1)).any fun k=>PL m k i==j
theorem V1:zU 7=true:=by decide+kernel
theorem RR:zU 31=true:=by decide+kernel
theorem DF{m i j:Nat}(hm:m=7\/m=31)(hi:i<=m)(hj:j<=m):∃k,k<=m/\PL m k i=j:=by
 have h:zU m=true:=by rcases hm with rfl|rfl;exact V1;exact RR
 unfold zU at h;have h1:=bw.mp (bw.mp h i (cI.mpr (qI hi))) j (cI.mpr (qI hj));obtain⟨k,hk,e⟩:=List.any_eq_true.mp h1;exact⟨k,gy (cI.mp hk),eq_of_beq e⟩
def yC(m:Nat):Nat->Nat×Nat->Nat×Nat
 |0,p=>p
 |k+1,p=>yC m k (SetTable.leap m p.1 p.2)
theorem zV{m:Nat}:∀(a b:Nat) (p:Nat×Nat),yC m (a+b) p=yC m b (yC m a p)
 |0,b,p=>by rw[jR];rfl
 |a+1,b,p=>by rw[Nat.add_right_comm];exact zV a b _
theorem zW{m:Nat}:∀(k:Nat) (p:Nat×Nat),(yC m k p).2=p.2/32 ^k
 |0,p=>by rw[Nat.pow_zero,Nat.div_one];rfl
 |k+1,p=>by
  show(yC m k (SetTable.leap m p.1 p.2)).2=_;rw[zW k];show p.2/32/32 ^k=_;rw[Nat.div_div_eq_div_mul,Nat.pow_succ,Nat.mul_comm]
theorem DG{m:Nat}:∀(k:Nat) (p:Nat×Nat),p.1<=m->(yC m k p).1<=m
 |0,p,h=>h
 |k+1,p,h=>DG k _ (gy (g0 _ (jS m)))
theorem xh{m:Nat}:∀(k i:Nat),yC m k (i,0)=(PL m k i,0)
 |0,i=>rfl
 |k+1,i=>by
  show yC m k ((i*5+1+0/32) % (m+1),0/32)=_;rw[Nat.zero_div,Nat.add_zero,xh k];rfl
theorem reach{m i j pt:Nat}(hm:m=7\/m=31)(hi:i<=m)(hp:pt<2 ^64)(hj:j<=m):∃k,k<=m+13/\(yC m k (i,pt)).1=j:=by
 have h2:(yC m 13 (i,pt)).2=0:=by
  rw[zW];exact Nat.div_eq_of_lt (bA hp (by decide))
 have h1:=DG (m:=m) 13 (i,pt) hi;obtain⟨k,hk,e⟩:=DF hm h1 hj;refine⟨13+k,by omega,?_⟩;rw[zV,show yC m 13 (i,pt)=((yC m 13 (i,pt)).1,0) by rw[<-h2],xh];exact e
theorem zX(h:Int):SetTable.bits h<2 ^64:=by
 unfold SetTable.bits;have h1:=qS h (show(2 ^64:Int)≠0 by decide);have h2:=qC h (show(0:Int)<2 ^64 by decide);omega
theorem i8{m i:Nat}:i<=SetTable.runEnd m i/\SetTable.runEnd m i<=i+9/\(i<=m->SetTable.runEnd m i<=m):=by
 unfold SetTable.runEnd;split<;>exact⟨by omega,by omega,fun _=>by omega⟩
theorem zY{m j:Nat}{owner:Array (Option Nat)}(ho:owner.getD j (some 0)=none):∀(k fuel i pt:Nat),k<fuel->(yC m k (i,pt)).1=j->∃j',SetTable.layClean.free m owner fuel i pt=some j'/\owner.getD j' (some 0)=none
 |k,0,i,pt,h,_=>by omega
 |k,f+1,i,pt,h,e=>by
  unfold SetTable.layClean.free;cases q:(List.range (SetTable.runEnd m i+1 - i)).find? (fun k=>(owner.getD (i+k) (some 0)).isNone)with
  |some c=>
   have hc:=List.find?_some q;refine⟨i+c,rfl,?_⟩;cases z:owner.getD (i+c) (some 0)with
   |none=>rfl
   |some _=>rw[z]at hc;cases hc
  |none=>
   have h0:=List.find?_eq_none.mp q 0 (cI.mpr (by have:=(i8 (m:=m) (i:=i)).1;omega));cases k with
   |zero=>
    have e':i=j:=e;subst e';rw[Nat.add_zero,ho]at h0;exact absurd rfl h0
   |succ k=>exact zY ho k f _ _ (by omega) e
structure LC(m:Nat)(L:List Nat)(owner:Array (Option Nat)):Prop where
 sz:owner.size=m+1
 nd:L.Nodup
 le:∀x∈L,x<=m
 at':∀(j c:Nat),owner[j]?=some (some c)↔L[c]?=some j
theorem RS:∀(n:Nat) (L:List Nat),L.length<n->∃j,j<n/\j∉L
 |0,_,h=>by omega
 |n+1,L,h=>by
  by_cases q:n∈L
  ·obtain⟨j,hj,nj⟩:=RS n (L.erase n) (by rw[List.length_erase_of_mem q];have:=List.length_pos_of_mem q;omega);exact⟨j,by omega,fun z=>nj ((List.mem_erase_of_ne (by omega)).mpr z)⟩
  ·exact⟨n,by omega,q⟩
theorem getD_none{owner:Array (Option Nat)}{j:Nat}(h:owner.getD j (some 0)=none):owner[j]?=some none:=by
 rw[cj]at h;cases e:owner[j]? with
 |none=>rw[e]at h;cases h
 |some x=>rw[e]at h;exact bT some h
theorem LC.free {m:Nat}{L:List Nat}{owner:Array (Option Nat)}(h:LC m L owner){j:Nat}(hj:j<=m)(n:j∉L):owner.getD j (some 0)=none:=by
 have fc:j<owner.size:=by rw[h.sz];omega
 rw[cj,du fc];cases e:owner[j]with
 |none=>rfl
 |some c=>
  have:=(h.at' j c).mp (by rw[du fc,e]);exact absurd (bM this) n
theorem LC.snoc {m:Nat}{L:List Nat}{owner:Array (Option Nat)}(h:LC m L owner){j:Nat}(hj:owner[j]?=some none):LC m (L++[j]) (owner.setIfInBounds j (some L.length)):=by
 have fc:j<owner.size:=(vS.mp hj).1;have nm:j∉L:=fun z=>by
  obtain⟨c,hc⟩:=jF z;have:=(h.at' j c).mpr hc;rw[hj]at this;cases this
 refine⟨by rw[Array.size_setIfInBounds];exact h.sz,?_,?_,fun i c=>?_⟩
 ·rw[jg];refine⟨h.nd,by simp,fun a ha b hb=>?_⟩;rw[cv.mp hb];exact fun z=>nm (z▸ha)
 ·intro x hx;rcases d_.mp hx with hx|hx
  ·exact h.le x hx
  ·rw[cv.mp hx];rw[h.sz]at fc;omega
 ·by_cases z:i=j
  ·subst z;rw[Array.getElem?_setIfInBounds_self_of_lt fc];constructor
   ·intro e;cases e;rw[dJ (aA _),eY];rfl
   ·intro e;by_cases hc:c<L.length
    ·rw[bZ hc]at e;exact absurd (bM e) nm
    ·have h1:=(dt.mp e).1;rw[bc,kI]at h1;have:c=L.length:=by omega
     rw[this]
  ·rw[Array.getElem?_setIfInBounds_ne (bY z),h.at'];by_cases hc:c<L.length
   ·rw[bZ hc]
   ·rw[dJ (by omega),lW.mpr (by omega)];constructor
    ·intro e;cases e
    ·intro e;have h2:=bM e;exact absurd (cv.mp h2) z
def pV(m:Nat)(acc:Option (Array (Option Nat)×Nat))(h:Int):Option (Array (Option Nat)×Nat):=do
    let(owner,k)<-acc
    let j<-SetTable.layClean.free m owner (SetTable.turns m) (SetTable.bits h % (m+1)) (SetTable.bits h)
    pure (owner.setIfInBounds j (some k),k+1)
theorem xi{m:Nat}(hm:m=7\/m=31):∀(hs:List Int) (L:List Nat) (owner:Array (Option Nat)),LC m L owner->L.length+hs.length<=m+1->∃L' vh,hs.foldl (pV m) (some (owner,L.length))=some (vh,L'.length)/\LC m L' vh/\L'.length=L.length+hs.length
 |[],L,owner,h,_=>⟨L,owner,rfl,h,rfl⟩
 |x::hs,L,owner,h,hl=>by
  rw[a_]at hl;obtain⟨j,hj,nj⟩:=RS (m+1) L (by omega);have hf:=h.free (gy hj) nj;obtain⟨k,hk,e⟩:=reach (pt:=SetTable.bits x) (i:=SetTable.bits x % (m+1)) hm (gy (g0 _ (jS m))) (zX x) (gy hj);obtain⟨j',e1,e2⟩:=zY hf k (SetTable.turns m) _ _ (by unfold SetTable.turns;omega) e;have h':=h.snoc (getD_none e2);obtain⟨L',vh,q1,q2,q3⟩:=xi hm hs _ _ h' (by rw[bc,kI];omega);refine⟨L',vh,?_,q2,by rw[q3,bc,kI,a_];omega⟩;rw[List.foldl_cons];have es:pV m (some (owner,L.length)) x=some (owner.setIfInBounds j' (some L.length),L.length+1):=by
   unfold pV;show(SetTable.layClean.free m owner (SetTable.turns m) (SetTable.bits x % (m+1)) (SetTable.bits x)).bind _=_;rw[e1];rfl
  rw[es];rw[bc]at q1;exact q1
theorem jw{α:Type}:∀(l:List α),(List.range l.length).filterMap (fun i=>l[i]?)=l
 |[]=>rfl
 |x::l=>by
  rw[a_,List.range_succ_eq_map,iw,List.filterMap_map];show x::(List.range l.length).filterMap (fun i=>l[i]?)=_;rw[jw l]
theorem F9{m f mv:Nat}{ld pl:Bool}(hm:m=7\/m=31){es:Array (Int×Value)}(hn:es.size<=m):∃t' order,SetTable.laid m f mv ld pl (es.map (·.1))=some (t',order)/\t'.mask=m/\t'.dummies=#[]/\t'.led=ld/\t'.plain=pl/\lF t'.place/\(∀x∈t'.place.toList,x<=m)/\t'.place.size=es.size/\(order.filterMap (es[·]?)).toList.Perm es.toList:=by
 have h0:LC m [] (Array.replicate (m+1) none):=⟨by simp,en,(fun x hx=>by cases hx),fun j c=>by
  constructor
  ·intro e;rw[Array.getElem?_replicate]at e;split at e<;>cases e
  ·intro e;simp at e⟩
 have JV:(es.map (·.1)).toList.length=es.size:=by simp
 obtain⟨L,owner,q1,q2,q3⟩:=xi hm (es.map (·.1)).toList [] _ h0 (by rw[JV];show 0+es.size<=_;omega);rw[JV]at q3;have q3:L.length=es.size:=q3.trans (jR _);have ec:SetTable.layClean m (es.map (·.1))=some owner:=by
  unfold SetTable.layClean;rw[<-Array.foldl_toList];show Option.map _ ((es.map (·.1)).toList.foldl (pV m) (some (Array.replicate (m+1) none,([]:List Nat).length)))=_;rw[q1];rfl
 have PM:∀j c,owner.getD j none=some c↔L[c]?=some j:=fun j c=>by
  rw[<-q2.at',cj];cases e:owner[j]? with
  |none=>simp
  |some x=>simp
 have NW:((List.range (m+1)).filterMap fun j=>(owner.getD j none).map (j,·)).Pairwise fun a b=>a.1<b.1:=by
  refine List.Pairwise.filterMap _ (fun a a' RT b hb b' jC=>?_) List.pairwise_lt_range;cases e:owner.getD a none with
  |none=>rw[e]at hb;cases hb
  |some c=>
   cases e':owner.getD a' none with
   |none=>rw[e']at jC;cases jC
   |some c'=>rw[e]at hb;rw[e']at jC;cases hb;cases jC;exact RT
 have NX:((List.range (m+1)).filterMap fun j=>(owner.getD j none).map (j,·)).Pairwise fun a b=>a.2≠b.2:=by
  refine List.Pairwise.filterMap _ (fun a a' RT b hb b' jC=>?_) List.pairwise_lt_range;cases e:owner.getD a none with
  |none=>rw[e]at hb;cases hb
  |some c=>
   cases e':owner.getD a' none with
   |none=>rw[e']at jC;cases jC
   |some c'=>
    rw[e]at hb;rw[e']at jC;cases hb;cases jC;intro z;have z:c=c':=z;subst z;have h1:=(PM _ _).mp e;have h2:=(PM _ _).mp e';rw[h1]at h2;cases h2;exact absurd RT (cJ _)
 have mem:∀p:Nat×Nat,p∈((List.range (m+1)).filterMap fun j=>(owner.getD j none).map (j,·))↔L[p.2]?=some p.1:=fun p=>by
  rw[jG];constructor
  ·rintro ⟨j,_,e⟩
   cases q:owner.getD j none with
   |none=>rw[q]at e;cases e
   |some c=>rw[q]at e;cases e;exact(PM _ _).mp q
  ·intro e;refine⟨p.1,cI.mpr (qI (q2.le _ (bM e))),?_⟩;rw[(PM _ _).mpr e];rfl
 have Hy:(((List.range (m+1)).filterMap fun j=>(owner.getD j none).map (j,·)).map (·.2)).Perm (List.range es.size):=by
  refine(lU ?_ qO).mpr fun c=>?_
  ·exact List.Pairwise.map _ (fun a b h=>h) NX
  ·rw[bg,cI];constructor
   ·rintro ⟨p,hp,rfl⟩
    have:=(dt.mp ((mem p).mp hp)).1;omega
   ·intro hc;exact⟨(L[c]'(by omega),c),(mem _).mpr (aI (by omega)),rfl⟩
 refine⟨_,_,by unfold SetTable.laid;rw[ec];rfl,rfl,rfl,rfl,rfl,?_,?_,?_,?_⟩
 ·show List.Pairwise _ ((List.map _ _).toArray).toList;exact List.Pairwise.map _ (fun a b h=>h) NW
 ·intro x hx;have Bc:x∈((List.range (m+1)).filterMap fun j=>(owner.getD j none).map (j,·)).map (·.1):=by simpa using hx
  obtain⟨p,hp,rfl⟩:=bg.mp Bc;exact q2.le _ (bM ((mem p).mp hp))
 ·have:=Hy.length_eq;rw[aj,gx]at this;show((List.map _ _).toArray).size=_;rw[bf,aj];exact this
 ·rw[Array.toList_filterMap];have:=Hy.filterMap (fun i=>es[i]?);refine(show List.Perm (List.filterMap _ _) _ from this).trans ?_
  have e:=jw es.toList;rw[bz]at e;have e2:(fun i:Nat=>es.toList[i]?)=fun i=>es[i]? :=funext fun i=>by rw[cQ]
  rw[e2]at e;rw[e]
section
variable {t:SetTable}
def fE(t:SetTable):Nat->SetTable.Probe->SetTable.Probe
 |0,p=>p
 |k+1,p=>fE t k (t.advance p)
theorem r9:∀(a b:Nat) (p:SetTable.Probe),fE t (a+b) p=fE t b (fE t a p)
 |0,b,p=>by rw[jR];rfl
 |a+1,b,p=>by rw[Nat.add_right_comm];exact r9 a b _
theorem vl:∀(c:Nat) (p:SetTable.Probe),p.more=c->(fE t (c+1) p).j=(SetTable.leap t.mask p.i p.perturb).1/\(fE t (c+1) p).i=(SetTable.leap t.mask p.i p.perturb).1/\(fE t (c+1) p).perturb=(SetTable.leap t.mask p.i p.perturb).2/\(fE t (c+1) p).more<=9
 |0,p,h=>by
  show(t.advance p).j=_/\(t.advance p).i=_/\(t.advance p).perturb=_/\(t.advance p).more<=9;unfold SetTable.advance;rw[ae (by omega)];refine⟨rfl,rfl,rfl,?_⟩;show SetTable.runEnd t.mask _ - _<=9;have:=(i8 (m:=t.mask) (i:=(SetTable.leap t.mask p.i p.perturb).1)).2.1;omega
 |c+1,p,h=>by
  have e:t.advance p={p with j:=p.j+1,more:=p.more - 1}:=by unfold SetTable.advance;rw[ab (by omega)]
  have:=vl c {p with j:=p.j+1,more:=p.more - 1} (by show p.more - 1=c;omega);show(fE t (c+1) (t.advance p)).j=_/\(fE t (c+1) (t.advance p)).i=_/\(fE t (c+1) (t.advance p)).perturb=_/\(fE t (c+1) (t.advance p)).more<=9;rw[e];exact this
theorem ur{j0:Nat}:∀(k:Nat) (p:SetTable.Probe),p.more<=9->(yC t.mask (k+1) (p.i,p.perturb)).1=j0->∃N,N<=10*(k+1)/\(fE t N p).j=j0
 |0,p,h,e=>⟨p.more+1,by omega,(vl p.more p rfl).1.trans e⟩
 |k+1,p,h,e=>by
  obtain⟨h1,h2,h3,h4⟩:=vl (t:=t) p.more p rfl;obtain⟨N,hN,q⟩:=ur (j0:=j0) k (fE t (p.more+1) p) h4 (by rw[h2,h3];exact e);exact⟨p.more+1+N,by omega,by rw[r9];exact q⟩
theorem xk(hm:t.mask=7\/t.mask=31)(h:Int){j0:Nat}(hj:j0<=t.mask):∃N,N<=10*(t.mask+13)/\(fE t N (t.probeStart h)).j=j0:=by
 obtain⟨k,hk,e⟩:=reach (pt:=SetTable.bits h) (i:=SetTable.bits h % (t.mask+1)) hm (gy (g0 _ (jS _))) (zX h) hj;cases k with
 |zero=>exact⟨0,bG _,e⟩
 |succ k=>
  obtain⟨N,hN,q⟩:=ur k (t.probeStart h) (by
   show SetTable.runEnd t.mask _ - _<=9;have:=(i8 (m:=t.mask) (i:=SetTable.bits h % (t.mask+1))).2.1;omega) e
  exact⟨N,by omega,q⟩
def PB(t:SetTable)(p:SetTable.Probe):Prop:=p.j+p.more<=t.mask/\p.dummy=none
theorem PB.T1 {p:SetTable.Probe}(h:PB t p):PB t (t.advance p):=by
 unfold SetTable.advance;split
 ·exact⟨by have:=h.1;show p.j+1+(p.more - 1)<=_;omega,h.2⟩
 ·refine⟨?_,h.2⟩;show(SetTable.leap t.mask p.i p.perturb).1+(SetTable.runEnd t.mask (SetTable.leap t.mask p.i p.perturb).1 - (SetTable.leap t.mask p.i p.perturb).1)<=_;have hl:(SetTable.leap t.mask p.i p.perturb).1<=t.mask:=gy (g0 _ (jS _));have:=i8 (m:=t.mask) (i:=(SetTable.leap t.mask p.i p.perturb).1);have:=this.2.2 hl;omega
theorem PB.start (h:Int):PB t (t.probeStart h):=by
 refine⟨?_,rfl⟩;show SetTable.bits h % (t.mask+1)+(SetTable.runEnd t.mask _ - SetTable.bits h % (t.mask+1))<=_;have hl:SetTable.bits h % (t.mask+1)<=t.mask:=gy (g0 _ (jS _));have:=i8 (m:=t.mask) (i:=SetTable.bits h % (t.mask+1));have:=this.2.2 hl;omega
theorem nh(hd:t.dummies=#[]) (j:Nat):t.slot j=.empty\/∃i,t.slot j=.live i/\t.place[i]?=some j:=by
 unfold SetTable.slot;dsimp only;split
 ·rename_i e;exact .inr ⟨_,rfl,eq_of_beq e⟩
 ·rw[hd,ae (by unfold SetTable.has;simp)];exact .inl rfl
theorem yD(hd:t.dummies=#[]) {j:Nat} (h:j∉t.place.toList):t.slot j=.empty:=by
 rcases nh hd j with e|⟨i,_,e⟩
 ·exact e
 ·exact absurd (by rw[<-cQ]at e;exact bM e) h
theorem zZ(hd:t.dummies=#[]) {ha:Nat->Int} {h:Int}:∀(N fuel:Nat) (p:SetTable.Probe),N<fuel->PB t p->t.slot (fE t N p).j=.empty->
  (∃j,SetTable.probe.go t ha h fuel p=some (.empty j none)/\t.slot j=.empty/\j<=t.mask)\/∃j i n,SetTable.probe.go t ha h fuel p=some (.candidate j i (fE t (n+1) p))/\n<N/\t.slot j=.live i/\t.place[i]?=some j/\ha i=h
 |N,0,p,hf,_,_=>by omega
 |N,f+1,p,hf,pb,e=>by
  unfold SetTable.probe.go;rcases nh hd p.j with q|⟨i,q,qi⟩
  ·rw[q];refine .inl ⟨p.j,by rw[pb.2],q,?_⟩;have:=pb.1;omega
  ·rw[q];cases N with
   |zero=>
    rw[show(fE t 0 p).j=p.j from rfl,q]at e;cases e
   |succ N=>
    show(∃j,(if(ha i==h)=true then _ else _)=_/\_)\/∃j i' n,(if(ha i==h)=true then _ else _)=_/\_;by_cases z:(ha i==h)=true
    ·rw[ab z];exact .inr ⟨p.j,i,0,rfl,by omega,q,qi,eq_of_beq z⟩
    ·rw[ae z];rcases zZ hd N f (t.advance p) (by omega) pb.T1 e with⟨j,a1,a2,a3⟩|⟨j,i',n,a1,a2,a3⟩
     ·exact .inl ⟨j,a1,a2,a3⟩
     ·exact .inr ⟨j,i',n+1,a1,by omega,a3⟩
end
end L2
namespace L2
open PySem PySem.Spec PySem.Calls PyProof.Rows
def ni(w:World)(p:Int×Value):Int×Value:=p
def pF(w:World)(h:Heap)(a:Addr)(ss:List Value):Prop:=
 ∃(o:Obj) (es:Array (Int×Value)) (ep:Nat) (t:SetTable) (l:List (Int×Value)),h.get? a=some o/\o.ExactSet/\o.data=.set es ep t/\es.toList=l.map (ni w)/\(l.map (·.2)).Perm ss/\True/\es.size<scanBound/\
  t.fits es.size=true/\(vM w=true\/t.led=true)/\lF t.place
theorem pF.typeIs {w:World}{s:Shared}{a:Addr}{ss:List Value}(h:pF w s.heap a ss):s.TypeIs (.ref a) "set":=by
 obtain⟨o,es,ep,t,l,ho,hex,_⟩:=h;exact⟨o,ho,hex.1⟩
theorem pF.keep {w:World}{h h':Heap}{a:Addr}{ss:List Value}(x:pF w h a ss)(k:∀o,h.get? a=some o->h'.get? a=some o):pF w h' a ss:=by
 obtain⟨o,es,ep,t,l,ho,r⟩:=x;exact⟨o,es,ep,t,l,k o ho,r⟩
theorem r_{w:World}(l:List (Int×Value)):l.map (ni w)=l:=List.map_id' l
theorem yE{w:World}{l es:List (Int×Value)}(hp:es.Perm (l.map (ni w))):∃l':List (Int×Value),es=l'.map (ni w)/\l'.Perm l:=⟨es,(r_ es).symm,by rw[r_]at hp;exact hp⟩
def sX(p:Int×Value):Value:=p.2
def iu(l:List (Int×Value))(i:Nat)(v:Value):Prop:=(l[i]?).map sX=some v
section
variable {prog:Program}{w:World}{A:Around}{E:Value->Shared->Prop}{s:Shared}{I a:Addr}{o:Obj}{es:Array (Int×Value)}{ep:Nat}{t:SetTable}
theorem xl{l:List (Int×Value)}(he:es.toList=l.map (ni w))(p:Nat):es[p]?=(l[p]?).map (ni w):=by
 rw[<-cQ,he,aJ]
theorem yF(hb:vM w=true)(hd:o.data=.set es ep t)(hf:t.fits es.size=true){l:List (Int×Value)}(he:(pickOrder (w.params.setOrder a ep) es).toList=l.map (ni w))(hl:l.length=es.size)(fA:I≠a)(A':Around)(hh:A'.handled=none):
  Walks prog w A' I [I,a] [I] l.length (iu l) (fun i h=>h.get? I=some (oV (rawInt 0) i a es.size ep)/\h.get? a=some o) where
 sub:=fun b hb=>by simp at hb;simp[hb]
 frame:=fun i h h' st k=>⟨k I (by simp) _ st.1,k a (by simp) _ st.2⟩
 item:=fun i s Q E hi st hQ=>by
  have e1:(pickOrder (w.params.setOrder a ep) es)[i]?=(l[i]?).map (ni w):=by rw[<-cQ,he,aJ]
  rw[aI hi]at e1;refine u4 (slot:=0) (r:=some ((ni w l[i]).2,0)) hh st.1 st.2 hd hf (fun B E' Q' q=>t9 hb st.2 hd hf (by rw[e1];exact q)) (fun x nx e h' g sb=>?_) fun e=>nomatch e;cases e;exact hQ _ h' s.toks (by unfold iu;rw[aI hi];rfl) ⟨g,(sb.2 a (bY fA)).trans st.2⟩ fun b o hb e=>sb.extBut b o (fun z=>hb (by simp[z])) e
 done:=fun s Q E st hQ=>by
  have e1:(pickOrder (w.params.setOrder a ep) es)[l.length]?=none:=by
   rw[<-cQ,he,aJ,lW.mpr (aA _)];rfl
  refine u4 (slot:=0) (r:=none) hh st.1 st.2 hd hf (fun B E' Q' q=>t9 hb st.2 hd hf (by rw[e1];exact q)) (fun x nx e=>nomatch e) fun _ h' eb=>?_
  exact hQ h' s.toks fun b o hb e=>eb b o (fun z=>hb (by simp[z])) e
 self:=fun i s Q E st hQ=>u5 st.1 hQ
theorem BA(hb:vM w=false)(hl:t.led=true)(hz:t.plain=true\/es.size<=1)(hr:lF t.place)(hd:o.data=.set es ep t)(hf:t.fits es.size=true){l:List (Int×Value)}(he:es.toList=l.map (ni w))(fA:I≠a)(A':Around)(hh:A'.handled=none):
  Walks prog w A' I [I,a] [I] l.length (iu l) (fun i h=>h.get? I=some (oV (rawInt (slotAt t i:Nat)) i a es.size ep)/\h.get? a=some o):=by
 have hlen:l.length=es.size:=by have q:=bT List.length he;rw[bz,aj]at q;exact q.symm
 have Lh:t.place.size=es.size:=by
  simp only[SetTable.fits,aM,iL]at hf;exact hf.1
 exact{
  sub:=fun b hb=>by simp at hb;simp[hb]
  frame:=fun i h h' st k=>⟨k I (by simp) _ st.1,k a (by simp) _ st.2⟩
  item:=fun i s Q E hi st hQ=>by
   have e0:es[i]?=some (ni w l[i]):=by rw[xl he,aI hi];rfl
   have e1:t.place[i]?=some (t.place.getD i 0):=by rw[cj,du (by omega)];rfl
   refine u4 (slot:=slotAt t i) (r:=some ((ni w l[i]).2,t.place.getD i 0+1)) hh st.1 st.2 hd hf (fun B E' Q' q=>wG hb hl hz st.2 hd hf (by rw[rN hr (by omega),e0,e1];exact q)) (fun x nx e h' g sb=>?_) fun e=>nomatch e;cases e;exact hQ _ h' s.toks (by unfold iu;rw[aI hi];rfl) ⟨g,(sb.2 a (bY fA)).trans st.2⟩ fun b o hb e=>sb.extBut b o (fun z=>hb (by simp[z])) e
  done:=fun s Q E st hQ=>by
   have e1:es[l.length]?=none:=lV.mpr (by omega)
   refine u4 (slot:=slotAt t l.length) (r:=none) hh st.1 st.2 hd hf (fun B E' Q' q=>wG hb hl hz st.2 hd hf (by rw[rN hr (by omega),e1];exact q)) (fun x nx e=>nomatch e) fun _ h' eb=>?_
   exact hQ h' s.toks fun b o hb e=>eb b o (fun z=>hb (by simp[z])) e
  self:=fun i s Q E st hQ=>u5 st.1 hQ}
theorem xm{tp:Addr}{ot:Obj}{ps:List Nat}{m:Nat}(hd:o.data=.set es ep t)(hf:t.fits es.size=true)(Pl:ot.data=.seq (ps.map fun i=>rawInt (i:Nat)).toArray m){l l':List (Int×Value)}(he:es.toList=l.map (ni w))(V2:∀i:Nat,l'[i]?=(ps[i]?).bind fun p=>l[p]?)(Lh:∀p∈ps,p<l.length)
  (hlen:l'.length=ps.length) (fA:I≠a) (V3:I≠tp) (A':Around) (hh:A'.handled=none):
  Walks prog w A' I [I,a,tp] [I] l'.length (iu l') (fun i h=>h.get? I=some (oV (.ref tp) i a es.size ep)/\h.get? a=some o/\h.get? tp=some ot) where
 sub:=fun b hb=>by simp at hb;simp[hb]
 frame:=fun i h h' st k=>⟨k I (by simp) _ st.1,k a (by simp) _ st.2.1,k tp (by simp) _ st.2.2⟩
 item:=fun i s Q E hi st hQ=>by
  have RU:i<ps.length:=by omega
  have o8:(ps.map fun i=>rawInt (i:Nat)).toArray[i]?=some (rawInt (ps[i]:Nat)):=by simp[RU]
  have hp:ps[i]<l.length:=Lh _ (iE RU);have e1:es[ps[i]]?=some (ni w l[ps[i]]):=by rw[xl he,aI hp];rfl
  have e2:l'[i]?=some l[ps[i]]:=by rw[V2,aI RU];exact aI hp
  refine C2 hh st.1 st.2.1 hd hf st.2.2 Pl (fun p e h1 h2 h' g sb=>?_) (fun z=>by rw[o8]at z;cases z) (fun v hv=>?_)
  ·rw[o8]at h1;have RV:((ps[i]:Nat):Int)=(p:Int):=by
    have q:=Option.some.inj h1;injection q
   have RW:ps[i]=p:=by omega
   subst RW;rw[e1]at h2;cases h2;exact hQ _ h' s.toks (by unfold iu;rw[e2];rfl) ⟨g,(sb.2 a (bY fA)).trans st.2.1,(sb.2 tp (bY V3)).trans st.2.2⟩ fun b o hb e=>sb.extBut b o (fun z=>hb (by simp[z])) e
  ·rw[o8]at hv;cases hv;exact⟨_,_,rfl,e1⟩
 done:=fun s Q E st hQ=>by
  have o8:(ps.map fun i=>rawInt (i:Nat)).toArray[l'.length]?=none:=by simp[hlen]
  refine C2 hh st.1 st.2.1 hd hf st.2.2 Pl (fun p e h1=>by rw[o8]at h1;cases h1) (fun _ h' eb=>?_) (fun v hv=>by rw[o8]at hv;cases hv);exact hQ h' s.toks fun b o hb e=>eb b o (fun z=>hb (by simp[z])) e
 self:=fun i s Q E st hQ=>u5 st.1 hQ
theorem BB{ss:List Value}{Q:Value->Shared->Prop}(hS:pF w s.heap a ss)
  (hQ:∀(h':Heap) (d:Drawn) (I:Addr) (fp:List Addr) (St:Nat->Heap->Prop) (l:List (Int×Value)),(l.map (·.2)).Perm ss->(∀b o,s.heap.get? b=some o->h'.get? b=some o)->s.heap.objs.size<=I->(∀b∈fp,b=a\/s.heap.objs.size<=b)->
   (∀A':Around,A'.handled=none->Walks prog w A' I fp [I] l.length (iu l) St)->St 0 h'->Q (.ref I) {s with heap:=h',drawn:=d}):wpAny (model prog w) A (pyIter (.ref a)) Q E s:=by
 obtain⟨o,es,ep,t,l,ho,hex,hd,he,hp,hn,hb,hf,hl,o8⟩:=id hS;have fc:a<s.heap.objs.size:=ax ho;have hlen:l.length=es.size:=by have q:=bT List.length he;rw[bz,aj]at q;exact q.symm
 refine qY hS.typeIs PySem.F.slot_set_iter (dy PySem.F.slot_set_iter hS.typeIs pj ?_ (PySem.F.args_set_iter_1 _));unfold Builtin.«frozenset.__iter__»;refine aa (m:=Builtin.Frozenset.slot0 "__iter__" _) (af ?_);refine aa ?_
 unfold Builtin.Frozenset.sizeOf;refine aa (iq ho hd hf (af ?_));refine aa ?_
 unfold setDrawn;refine aa (eR ho hd hf ?_);dsimp only;refine aa (kQ (af ?_));refine fT (fun T2=>?_) (fun T2=>?_)
 ·
  refine aa (lj _ _ _ _ (gx ..) fun ps d Lh=>?_);have hz:((ps.map fun(i:Nat)=>rawInt i)).length<=sizeLine:=by
   rw[aj,Lh.length_eq,gx];exact fits_of_scanBound hb
  refine aa (mG (hsz:=hz) ?_);have Hn:(s.heap.push {cls:=.type "tuple",data:=.seq (ps.map fun(i:Nat)=>rawInt i).toArray}).get? a=some o:=aD _ ho;have IU:(s.heap.push {cls:=.type "tuple",data:=.seq (ps.map fun(i:Nat)=>rawInt i).toArray}).objs.size=s.heap.objs.size+1:=gW ..;refine aa (wpAny_setEpoch_of Hn hd hf ?_);refine aa (eQ ?_);refine af ⟨_,rfl,"set_iterator",_,⟨_,aU _ rfl,rfl⟩,cg.lookup,?_⟩;have NY:∀p∈ps,p<l.length:=fun p hm=>by
   have q:=cI.mp (Lh.mem_iff.mp hm);omega
  have uu:(ps.map fun p=>l.getD p (0,Value.none)).Perm l:=by
   have q:=Lh.map fun p=>l.getD p (0,Value.none);have e:(List.range es.size).map (fun p=>l.getD p (0,Value.none))=l:=by
    rw[<-hlen];refine List.ext_getElem (by simp) fun i h1 h2=>?_
    simp[h2]
   rw[e]at q;exact q
  refine hQ _ d _ [_,a,s.heap.objs.size] _ (ps.map fun p=>l.getD p (0,Value.none)) ((uu.map _).trans hp) (fun b o e=>aD _ (aD _ e)) (by rw[IU];exact iJ _) (fun b hm=>?_)
   (fun A' hA=>xm (ot:={cls:=.type "tuple",data:=.seq (ps.map fun(i:Nat)=>rawInt i).toArray}) (ps:=ps) hd hf rfl he (fun i=>?_) NY (aj ..) ?_ ?_ A' hA)
   ⟨aU _ rfl,aD _ Hn,aD _ (aU _ rfl)⟩
  ·simp only[aR,eS,dC]at hm;rcases hm with rfl|rfl|rfl
   ·right;rw[IU];exact iJ _
   ·left;rfl
   ·right;exact aA _
  ·rw[aJ];cases e:ps[i]? with
   |none=>rfl
   |some p=>
    have o8:=NY p (bM e);show some (l.getD p (0,Value.none))=l[p]?
    rw[bJ,aI o8];rfl
  ·rw[IU];exact cn (iB fc)
  ·rw[IU];exact Nat.succ_ne_self _
 ·refine aa (af ?_);refine aa (wpAny_setEpoch_of ho hd hf ?_);refine aa (eQ ?_);refine af ⟨_,rfl,"set_iterator",_,⟨_,aU _ rfl,rfl⟩,cg.lookup,?_⟩;have PN:∀b∈[s.heap.objs.size,a],b=a\/s.heap.objs.size<=b:=fun b hm=>by
   simp only[aR,eS,dC]at hm;rcases hm with rfl|rfl
   ·exact .inr (aA _)
   ·exact .inl rfl
  have fA:s.heap.objs.size≠a:=cn fc;cases PO:vM w with
  |true=>
   have RV:=A_ (w.params.setOrder a ep) es;rw[he]at RV;obtain⟨l2,e2,p2⟩:=yE RV;exact hQ _ s.drawn _ [_,a] _ l2 ((p2.map _).trans hp) (fun b o e=>aD _ e) (aA _) PN (fun A' hA=>yF PO hd hf e2 (p2.length_eq.trans hlen) fA A' hA) ⟨aU _ rfl,aD _ ho⟩
  |false=>
   have V4:t.plain=true\/es.size<=1:=by
    cases hp:t.plain with
    |true=>exact .inl rfl
    |false=>
     refine .inr (qN fun hz=>T2 ?_);show(!vM w&&(!t.plain&&decide (es.size>1)))=true;rw[PO,hp,bt hz]
     rfl
   have RX:t.led=true:=hl.resolve_left (by rw[PO];exact cR);exact hQ _ s.drawn _ [_,a] _ l hp (fun b o e=>aD _ e) (aA _) PN (fun A' hA=>BA PO RX V4 o8 hd hf he fA A' hA) ⟨aU _ rfl,aD _ ho⟩
variable {ss:List Value}
theorem xn{R:Result->Shared->Prop}(hh:A.handled=none)(hS:pF w s.heap a ss)(L:Addr)(T3:L≠a)(res:Value)(hL:s.heap.get? L=some {cls:=.type "list",data:=.seq #[] 0})
  (hR:∀h' tk d h8 c' l,(l.map (·.2)).Perm ss->(∀b o,b≠L->s.heap.get? b=some o->h'.get? b=some o)->h'.get? L=some {cls:=.type "list",dict:=none,data:=.seq h8 c',slots:=#[]}->ItemsOf (iu l) h8 l.length->
   R (.ok (.ret res)) {s with heap:=h',toks:=tk,drawn:=d}) (hn:ss.length<=sizeLine):
  wpAny (model prog w) A.in1 (Builtin.List.listExtendWith (.ref L) (.ref a) res) (fun fin s'=>match fin with|.done f=>R (.ok f) s'|.again c'=>c'.quiet=true/\codeAny (model prog w) A c' R s') (fun e s'=>R (.error e) s') s:=by
 have NZ:L<s.heap.objs.size:=ax hL;unfold Builtin.List.listExtendWith;refine aa (gY (T:="set") hS.typeIs ?_);have h1:Builtin.List.listSameRef (.ref L) (.ref a)=false:=by simp[Builtin.List.listSameRef,T3]
 have h2:(Value.type "set"==Value.type "list")=false:=by decide
 have h3:(Value.type "set"==Value.type "tuple")=false:=by decide
 simp only[h1,h2,h3,mB,bX,bB];refine aa (BB hS fun dD d I fp St l hp hk hI PN W st=>?_);have hlen:l.length=ss.length:=by have q:=hp.length_eq;rw[aj]at q;exact q
 have RY:Shared.TypeIs {s with heap:=dD,drawn:=d} (.ref a) "set":=by
  obtain⟨o,ho,hc⟩:=hS.typeIs;exact⟨o,hk _ _ ho,hc⟩
 have T4:L∉fp:=fun m=>by
  rcases PN L m with e|e
  ·exact T3 e
  ·exact absurd (bA NZ e) (cJ _)
 have Xy:L≠I:=aS (bA NZ hI);have Na:=hk _ _ hL;have key:∀(h:Heap) (c₁ tk:Nat),St 0 h->(∀b o,b≠L->s.heap.get? b=some o->h.get? b=some o)->h.get? L=some {cls:=.type "list",data:=.seq #[] c₁}->
   codeAny (model prog w) A (.builtin "list.extend.loop" ⟨[.ref L,.ref I,res],[]⟩) R {s with heap:=h,toks:=tk,drawn:=d}:=by
  intro h c₁ tk eJ PQ N0;refine codeAny_extend_loopS (W A.in1 hh).toS (by omega) L T4 res l.length 0 _ #[] c₁ rfl (bG _) eJ N0 (ItemsOf.nil _) fun s' h8 c' hm yG oq=>?_
  rw[Moved.eq_with hm];refine hR s'.heap s'.toks d h8 c' l hp (fun b o hb e=>hm.heap b o (fun JW=>?_) (PQ b o hb e)) yG oq;rcases aR.mp JW with e'|JW
  ·exact hb e'
  ·exact absurd (bA (ax e) hI) (by rw[cv.mp JW];exact cJ _)
 refine aa (cV (C4 RY ?_));refine fT (fun _=>?_) (fun _=>af ⟨eX PySem.F.plain_extend_loop _,key _ 0 _ st (fun b o _ e=>hk b o e) Na⟩);refine aa (fX ?_);refine aa ?_
 show wpAny _ _ (updateSeq L (·.push .none)>>=fun _=>updateSeq L (·.pop)) _ _ _;refine aa (wpAny_updateSeq Na rfl ?_);have Hz:=kK (Obj.mapSeq (·.push Value.none)) Na rfl;refine wpAny_updateSeq (hz:=by seq_fits) Hz rfl ?_
 have N1:=kK (Obj.mapSeq (·.pop)) Hz rfl;refine af ⟨eX PySem.F.plain_extend_loop _,key _ _ _ ?_ (fun b o hb e=>?_) N1⟩
 ·refine(W A.in1 hh).frame 0 _ _ st fun b hb o e=>?_
  have T5:b≠L:=fun z=>T4 (z▸hb);exact(jE _ _ (bY T5)).trans ((jE _ _ (bY T5)).trans e)
 ·exact(jE _ _ (bY hb)).trans ((jE _ _ (bY hb)).trans (hk b o e))
theorem vm{R:List Value->Shared->Prop}(hh:A.handled=none)(hS:pF w s.heap a ss)(hn:ss.length<=sizeLine)
  (h:∀(h':Heap) (tk:Nat) (d:Drawn) (l:List (Int×Value)),(l.map (·.2)).Perm ss->(∀b o,s.heap.get? b=some o->h'.get? b=some o)->s.heap.objs.size<=h'.objs.size->R (l.map sX) {s with heap:=h',toks:=tk,drawn:=d}):wpAny (model prog w) A (collect (.ref a)) R E s:=by
 have fc:a<s.heap.objs.size:=by obtain⟨o,ho,_⟩:=hS.typeIs;exact ax ho
 have items:∀(l:List (Int×Value)) (acc:Array Value),ItemsOf (iu l) acc l.length->acc.toList=l.map sX:=fun l acc hi=>by
  refine qJ fun i=>?_
  rw[aJ,cQ];cases e:acc[i]? with
  |none=>
   have h1:acc.size<=i:=lV.mp e;rw[hi.1]at h1;rw[lW.mpr h1];rfl
  |some v=>exact(hi.2 i v e).symm
 unfold collect;refine aa (wpAny_runValue (fQ entry_proto_collect' ?_));rw[gv vQ _];show wpAny _ A.in1 (newList []>>=fun l=>again (.builtin "list.__iadd__" ⟨[l,.ref a],[]⟩)) _ _ s;refine aa (eQ ?_);refine af ⟨eX lZ _,fQ entry_list_iadd' ?_⟩;rw[gv lZ _];have hL:(s.heap.push {cls:=.type "list",data:=.seq ([]:List Value).toArray}).get? s.heap.objs.size=some {cls:=.type "list",data:=.seq #[]}:=aU _ rfl;show wpAny _ A.in1 (Builtin.List.listExtendWith (.ref s.heap.objs.size) (.ref a) (.ref s.heap.objs.size)) _ _ _;have key:=xn (prog:=prog) (A:=A) (s:={s with heap:=s.heap.push {cls:=.type "list",data:=.seq ([]:List Value).toArray}}) (ss:=ss)
  (R:=fun(q:Result) (s':Shared)=>∃(h':Heap) (tk:Nat) (d:Drawn) (h8:Array Value) (c':Nat) (l:List (Int×Value)),q=.ok (.ret (.ref s.heap.objs.size))/\s'={s with heap:=h',toks:=tk,drawn:=d}/\
   (l.map (·.2)).Perm ss/\(∀b o,s.heap.get? b=some o->h'.get? b=some o)/\h'.get? s.heap.objs.size=some {cls:=.type "list",dict:=none,data:=.seq h8 c',slots:=#[]}/\ItemsOf (iu l) h8 l.length)
  hh (hS.keep fun o e=>aD _ e) s.heap.objs.size (cn fc) (.ref s.heap.objs.size) hL
  (fun h' tk d h8 c' l hp hk yG oq=>⟨h',tk,d,h8,c',l,rfl,rfl,hp,fun b o e=>hk b o (aS (ax e)) (aD _ e),yG,oq⟩) hn
 refine dQ key (fun fin s' x=>?_) fun e s' x=>?_
 ·cases fin with
  |done f=>
   obtain⟨h',tk,d,h8,c',l,e,rfl,hp,hk,yG,oq⟩:=x;cases e;show wpAny _ A (load s.heap.objs.size>>=_) _ _ _;refine aa (jT yG ?_);refine af ?_
   rw[items l h8 oq];exact h h' tk d l hp hk (fU (ax yG))
  |again c₁=>
   refine⟨x.1,fV x.2 fun q nR y=>?_⟩;obtain⟨h',tk,d,h8,c',l,rfl,rfl,hp,hk,yG,oq⟩:=y;show wpAny _ A (load s.heap.objs.size>>=_) _ _ _;refine aa (jT yG ?_);refine af ?_
   rw[items l h8 oq];exact h h' tk d l hp hk (fU (ax yG))
 ·obtain⟨_,_,_,_,_,_,e',_⟩:=x;cases e'
end
end L2
namespace L2
open PySem PySem.Spec PyProof.Rows
section
variable {prog:Program}{w:World}{A:Around}{E:Value->Shared->Prop}{s:Shared}
theorem BC{d:Nat}{v:Value}(h:carriedByValue v=true):ofAClassStatement d v=pure false:=by
 cases v<;>first|(cases h;done)|(unfold ofAClassStatement;rfl)
theorem uv{ks:List Key}{a:Addr}{Q:Bool->Shared->Prop}(hk:(tupleKind (az prog w)).is s.heap ks a)(h:Q false s):wpAny (model prog w) A (ofAClassStatement 8 (.ref a)) Q E s:=by
 have hT:s.TypeIs (.ref a) "tuple":=IsTupleKey.typeIs hk;obtain⟨o,items,n,ho,hc,hd,hi⟩:=hk;unfold ofAClassStatement;refine aa (gY hT ?_);dsimp only;rw[ab (by decide)];refine aa (af ?_);simp only[iG,bX,bB];refine aa (eU ho hd ?_);dsimp only;refine aa ?_
 show wpAny _ _ (forIn items _ _) _ _ s;rw[<-ma];refine jM _ (fun rest r s'=>r.1=none/\s'=s/\∀v∈rest,carriedByValue v=true) _ ?_ ?_ _ _ ⟨rfl,rfl,hi.byValue⟩
 ·rintro v rest r s' ⟨hr,rfl,sR⟩
  rw[BC (sR v aW)];refine aa (af ?_);simp only[bX,bB];exact af ⟨rfl,rfl,fun u HC=>sR u (aV _ HC)⟩
 ·rintro ⟨r1,r2⟩ s' ⟨hr,rfl,_⟩
  simp only at hr;subst hr;exact af h
theorem F_{d:Nat}{k:Key}{v:Value}(h:(az prog w).is k v=true):∃b,hashByValue d v=pure b:=by
 have h:mJ k v=true:=h;cases k with
 |inl i=>cases v<;>first|exact⟨_,by unfold hashByValue;rfl⟩|cases h
 |inr z=>cases v<;>first|exact⟨_,by unfold hashByValue;rfl⟩|cases h
theorem Ga{ks:List Key}{a:Addr}{Q:Bool->Shared->Prop}(hk:(tupleKind (az prog w)).is s.heap ks a)(h:∀b,Q b s):wpAny (model prog w) A (hashByValue 8 (.ref a)) Q E s:=by
 have hT:s.TypeIs (.ref a) "tuple":=IsTupleKey.typeIs hk;obtain⟨o,items,n,ho,hc,hd,hi⟩:=hk;unfold hashByValue;refine aa (wpAny_specialOf hT F.slot_tuple_hash.lookup ?_);refine aa (eU ho hd ?_);dsimp only;refine aa ?_
 show wpAny _ _ (forIn items _ _) _ _ s;rw[<-ma];refine jM _ (fun rest r s'=>r.1=none/\s'=s/\∀v∈rest,∃k,(az prog w).is k v=true) _ ?_ ?_ _ _ ⟨rfl,rfl,?_⟩
 ·rintro v rest r s' ⟨hr,rfl,sR⟩
  obtain⟨k,hk⟩:=sR v aW;obtain⟨b,e⟩:=F_ (d:=7) hk;rw[e];refine aa (af ?_);cases b with
  |true=>exact af ⟨rfl,rfl,fun u HC=>sR u (aV _ HC)⟩
  |false=>exact af (af (h _))
 ·rintro ⟨r1,r2⟩ s' ⟨hr,rfl,_⟩
  simp only at hr;subst hr;exact af (h _)
 ·clear ho hc hd hT
  generalize items.toList=aY at hi
  induction hi with
  |nil=>intro v hv;simp at hv
  |cons h1 _ ih=>
   intro v hv;rcases aR.mp hv with rfl|hv
   ·exact⟨_,h1⟩
   ·exact ih v hv
theorem JX{k:List Key}{b:Addr}{Q:Bool->Shared->Prop}(hk:(tupleKind (az prog w)).is s.heap k b){l:List Value}(hl:∀y∈l,∃k' c,y=.ref c/\(tupleKind (az prog w)).is s.heap k' c)(h:Q false s):wpAny (model prog w) A (searchCouldBeSeen (.ref b) l) Q E s:=by
 unfold searchCouldBeSeen;refine aa ?_
 refine jM _ (fun rest r s'=>r.1=none/\s'=s/\∀y∈rest,∃k' c,y=.ref c/\(tupleKind (az prog w)).is s.heap k' c) _ ?_ ?_ _ _ ⟨rfl,rfl,hl⟩
 ·rintro v rest r s' ⟨hr,rfl,sR⟩
  obtain⟨k',c,rfl,hc⟩:=sR v aW;have nx:r.1=none/\s'=s'/\∀y∈rest,∃k' c,y=Value.ref c/\(tupleKind (az prog w)).is s'.heap k' c:=⟨hr,rfl,fun u HC=>sR u (aV _ HC)⟩;dsimp only;refine fT (fun _=>af ⟨rfl,rfl,nx.2.2⟩) (fun _=>?_);refine aa ((tupleKind (az prog w)).quiet hk ?_);simp only[iG,bX,bB];refine aa ((tupleKind (az prog w)).quiet hc ?_);simp only[iG,bX,bB];refine aa (uv hk ?_);simp only[bX,bB];refine aa (uv hc ?_);simp only[bX,bB];exact af ⟨rfl,rfl,nx.2.2⟩
 ·rintro ⟨r1,r2⟩ s' ⟨hr,rfl,_⟩
  simp only at hr;subst hr;exact af h
structure se(t:SetTable)(n:Nat):Prop where
 dm:t.dummies=#[]
 ms:t.mask=7\/t.mask=31
 le:∀x∈t.place.toList,x<=t.mask
 sz:t.place.size=n
 PR:n*5<t.mask*3
 rise:lF t.place
theorem se.fits {t:SetTable}{n:Nat}(h:se t n):t.fits n=true:=by
 unfold SetTable.fits SetTable.fill;rw[h.dm,h.sz,bD,jO,cH];have:=h.PR;show n+0<=_;omega
theorem se.odd {t:SetTable}{n:Nat}(h:se t n):t.gaveWay=false:=by
 unfold SetTable.gaveWay;rcases h.ms with e|e<;>rw[e]<;>rfl
def JY(prog:Program)(w:World)(p:List Key×Addr):Int×Value:=((tupleKind (az prog w)).hash p.1,.ref p.2)
theorem DH{t:SetTable}(hd:t.dummies=#[]) {ha:Nat->Int} {h:Int} {N fuel:Nat} {p:SetTable.Probe} {g:Option SetTable.Met} (hg:SetTable.probe.go t ha h fuel p=g) (hN:N<fuel) (pb:PB t p) (hs:t.slot (fE t N p).j=.empty):
  (∃j,g=some (.empty j none)/\t.slot j=.empty/\j<=t.mask)\/∃j i n,g=some (.candidate j i (fE t (n+1) p))/\n<N/\t.slot j=.live i/\t.place[i]?=some j:=by
 subst hg;rcases zZ hd N fuel p hN pb hs with⟨j,e,e1,e2⟩|⟨j,i,n,e,hn,e1,e2,e3⟩
 ·exact .inl ⟨j,e,e1,e2⟩
 ·exact .inr ⟨j,i,n,e,hn,e1,e2⟩
theorem xo{a b:Addr}{o:Obj}{es:Array (Int×Value)}{ep:Nat}{t:SetTable}{k:List Key}{Q:SetFound->Shared->Prop}(hu:A.units<cLine)(ho:s.heap.get? a=some o)(hd:o.data=.set es ep t)(tk:se t es.size)(hk:(tupleKind (az prog w)).is s.heap k b)
  (JV:∀e∈es.toList,∃k' c,e.2=.ref c/\(tupleKind (az prog w)).is s.heap k' c/\k'≠k) {h:Int}
  (hQ:∀j,t.slot j=.empty->j<=t.mask->Q (.free j false) s):∀(N fuel:Nat) (st:Option SetTable.Probe),N<fuel->N<10*SetTable.turns t.mask->PB t (st.getD (t.probeStart h))->t.slot (fE t N (st.getD (t.probeStart h))).j=.empty->
   wpAny (model prog w) A (setSearchFrom a (.ref b) h true fuel st) Q E s:=by
 have hf:=tk.fits;intro N
 induction N using Nat.strongRecOn with
 |ind N ih=>
  intro fuel st hN V5 pb hs;cases fuel with
  |zero=>omega
  |succ fuel=>
   unfold setSearchFrom;refine aa (eR ho hd hf ?_);dsimp only;rw[tk.odd];simp only[bX,bB];unfold SetTable.probe;generalize hg:SetTable.probe.go t _ h (10*SetTable.turns t.mask) (st.getD (t.probeStart h))=g;rcases DH tk.dm hg V5 pb hs with⟨j,e,e1,e2⟩|⟨j,i,n,e,hn,e1,e2⟩
   ·rw[e];exact af (hQ j e1 e2)
   ·rw[e];dsimp only;have hi:i<es.size:=by rw[<-tk.sz];exact(vS.mp e2).1
    have N2:es[i]?=some es[i]:=du hi
    obtain⟨k',c,ey,hc,fA⟩:=JV es[i] (by rw[qv];exact Array.getElem_mem hi);have rest:wpAny (model prog w) A (do
      let some (_,y):=es[i]? |unsupported "internal:set-entry"
      let equal<-holding [y] (eqBool y (.ref b))
      let(HY,_,t')<-setState a
      if true&&equal then return .there none
      let some same:=t'.sameMemory t.moves t.mask|unsupported "set.changed-during-lookup:is-the-new-block-at-the-old-address"
      let N3<-match(if same then t'.slot j else .empty)with
       |.live i'=>match HY[i']? with
        |some (_,y')=>do pure (if<-isSame y' y then some i' else none)
        |none=>pure none
       |_=>pure none
      match N3 with
      |none=>rule "set.search.anew";setSearchFrom a (.ref b) h true fuel none
      |some i'=>if equal then return .there (some i')else setSearchFrom a (.ref b) h true fuel (some (fE t (n+1) (st.getD (t.probeStart h))))) Q E s:=by
     rw[N2];generalize es[i]=ee at ey N2;obtain⟨eh,ev⟩:=ee;have ey:ev=.ref c:=ey;subst ey;dsimp only;refine aa (cV ((tupleKind (az prog w)).eqBool hu hc hk ?_));rw[aX fA];refine aa (eR ho hd hf ?_);dsimp only;simp only[mw,bX,bB];have RP:t.sameMemory t.moves t.mask=some true:=by unfold SetTable.sameMemory;rw[ab (bD _)]
     rw[RP];dsimp only;simp only[fY];rw[e1];dsimp only;rw[N2];dsimp only;refine aa (wpAny_isSame_ref_self ?_);refine aa (af ?_);simp only[fY];refine ih (N - (n+1)) (by omega) fuel (some (fE t (n+1) (st.getD (t.probeStart h)))) (by omega) (by omega) ?_ ?_
     ·show PB t (fE t (n+1) _);have:∀(m:Nat) (p:SetTable.Probe),PB t p->PB t (fE t m p):=by
       intro m
       induction m with
       |zero=>exact fun p h=>h
       |succ m Nf=>exact fun p h=>Nf _ h.T1
      exact this _ _ pb
     ·show t.slot (fE t (N - (n+1)) (fE t (n+1) _)).j=_;rw[<-r9,show n+1+(N - (n+1))=N by omega];exact hs
    cases hl:t.led with
    |true=>
     simp only[iG,bX,bB];exact rest
    |false=>
     simp only[qX,fY];refine aa (JX hk (fun y hy=>?_) ?_)
     ·obtain⟨e',T6,rfl⟩:=bg.mp hy;have V6:e'∈es.toList:=by
       rw[qv]at T6⊢;exact(Array.mem_filter.mp T6).1
      obtain⟨k2,c2,h1,h2,_⟩:=JV e' V6;exact⟨k2,c2,h1,h2⟩
     ·simp only[bX,bB];exact rest
end
end L2
namespace L2
open PySem PySem.Spec PyProof.Rows
def V7:TE:=fun σ H Q=>∃v,σ[0]?=some (some v)/\∀p,H p=none->∀q,upd H p (.lst []) q=none->Q (.ref q) (upd (upd H p (.lst [])) q (.tup [v,.ref p]))
structure NB(Y:Cx)(tg elt:Expr):Prop where
 g:PG Y tg (Cm 0)
 e:PE Y elt V7
theorem NB.of {Y:Cx}{x:Str}{p0 p1 p2 p3:Pos}{x1:Nat}(hN:Y.N.Nodup)(hi:Y.N[0]?=some x:=by rfl) (hx:Loc Y.env.scope x:=by first|exact Or.inl rfl|exact Or.inr rfl) (hf:Y.fn x=true\/Y.env.scope.names.lookup x=some .local:=by first|exact .inl rfl|exact .inr rfl|assumption)
  (hv:HX Y.env.scope x:=by first|exact Or.inl rfl|exact Or.inr (Or.inl rfl)|exact Or.inr (Or.inr rfl)) (hd:(x==("__debug__":Str))=false:=by decide) (o7:(x==("__classdict__":Str))=false:=by decide):NB Y (.Name x p0) (.Tuple [.Name x p1,.List [] p2] x1 p3):=
 ⟨uJ hN hi hx hf,(Cu (kN (Cf hi hv hd o7) (kN (Cv nT) nT))).weak fun σ H Q ⟨v,e,k⟩=>⟨v,e,(show 0<=sizeLine from bG _),fun p hp=>⟨(show 2<=sizeLine by decide),fun q hq=>k p hp q hq⟩⟩⟩
def JZ:Nat->List Tr->List Tr
 |_,[]=>[]
 |n,t::ts=>.tup [t,.at n]::JZ (n+1) ts
def sf(r:Rs (List Tr))(A:Ab):Rz Tr:=match r with
 |.ok ts=>if gp ts=true/\ts.length<=iT then .ok (.lst (JZ A.length ts)) (A++List.replicate ts.length (.lst []))else .bad
 |_=>.bad
def DI(H:Hp):List Addr->Hp
 |[]=>H
 |p::ps=>DI (upd H p (.lst [])) ps
theorem z5:∀{ps:List Addr} {H:Hp} {b:Addr} {o:HO},DI H ps b=some o->(b∈ps/\o=.lst [])\/H b=some o
 |[],_,_,_,e=>.inr e
 |p::ps,H,b,o,e=>by
  rcases z5 (ps:=ps) e with⟨h,z⟩|h
  ·exact .inl ⟨aV _ h,z⟩
  ·by_cases z:b=p
   ·subst z;rw[aH]at h;cases h;exact .inl ⟨aW ..,rfl⟩
   ·rw[ak z]at h;exact .inr h
theorem HA.HD {K:PySem.W.Frag}:∀(ps:List Addr) {B:bP} {A:Ab} {H:Hp},HA K B A H->ps.Nodup->(∀p∈ps,H p=none)->
  ∃B',Grows B H B' (DI H ps)/\HA K B' (A++List.replicate ps.length (.lst [])) (DI H ps)/\(∀k p,ps[k]?=some p->B'.ix p=some (A.length+k))/\∀b,b∉ps->B'.hd b=B.hd b
 |[],B,A,H,ha,_,_=>⟨B,.refl,by rw[show List.replicate ([]:List Addr).length (Ao.lst [])=[]from rfl,cU];exact ha,fun k p e=>by simp at e,fun _ _=>rfl⟩
 |p::ps,B,A,H,ha,nd,hn=>by
  rw[dN]at nd;have hp:=hn p (aW ..);obtain⟨g1,gq⟩:=ha.push (o:=.lst []) (H':=upd H p (.lst [])) hp (au.upd hp) ⟨pQ,[],aH,.nil⟩;obtain⟨B',g,h1,h2,h3⟩:=HA.HD ps gq nd.2 fun q m=>by
   rw[ak fun z=>nd.1 (by rw[<-z];exact m)];exact hn q (aV _ m)
  refine⟨B',g1.trans ha.hb g,?_,fun k q e=>?_,fun b m=>?_⟩
  ·rw[ib]at h1;exact h1
  ·cases k with
   |zero=>cases e;exact g.fH.x p A.length ic
   |succ k=>
    have q:=h2 k q e;rw[bc]at q;rw[q];show some (A.length+1+k)=_;rw[Nat.add_assoc,Nat.add_comm 1 k]
  ·rw[h3 b fun z=>m (aV _ z)];exact kn fun z=>m (by rw[z];exact aW ..)
theorem uY.N4 {X:Cx}{B:bP}{H H1 H2:Hp}(h:uY X B H H1)(s2:au H1 H2):∃Hu,au H Hu/\(∀b,H1 b=none->Hu b=H2 b)/\(∀{K:PySem.W.Frag} {B3:bP} {v:V} {t:Tr},Rep K (aQ B3 H2) v t->Rep K (aQ B3 Hu) v t)/\∀k:Hp->Prop,k Hu->f9 X H2 k:=by
 rcases h with s|⟨H0,a,o,u0,hk,s,hv,ha,rfl,h0⟩
 ·exact⟨H2,s.trans s2,fun _ _=>rfl,fun r=>r,fun k q=>.inl q⟩
 ·have e3:H2 a=some (.fZ o u0):=s2 _ _ aH;have w:ph H2 (upd H2 a u0) a (.fZ o u0) u0 u0:=⟨e3,rfl,.inr ⟨rfl,o,rfl⟩,hk⟩;refine⟨upd H2 a u0,fun b ob e=>?_,fun b e=>?_,fun r=>w.rep r,fun k q=>.inr ⟨a,o,u0,hk,e3,h0,q⟩⟩
  ·have q:=s _ _ e;by_cases z:b=a
   ·subst z;rw[ha]at q;cases q;exact aH
   ·rw[ak z];exact s2 _ _ (by rw[ak z];exact q)
  ·exact ak fun z=>by subst z;rw[aH]at e;cases e
structure N5(K:PySem.W.Frag)(B:bP)(D:Addr)(H1 H:Hp)(e:Addr×Addr×V×Tr):Prop where
 q:H e.1=some (.tup [e.2.2.1,.ref e.2.1])
 p:H e.2.1=some (.lst [])
 n:H1 e.2.1=none
 m:H1 e.1=none
 d:e.2.1≠D
 r:Rep K (aQ (fg B D) H) e.2.2.1 e.2.2.2
theorem N5.up {K:PySem.W.Frag}{B:bP}{D:Addr}{H1 H H':Hp}{e:Addr×Addr×V×Tr}(h:N5 K B D H1 H e)(s:au H H'):N5 K B D H1 H' e:=⟨s _ _ h.q,s _ _ h.p,h.n,h.m,h.d,h.r.same (ba s)⟩
theorem xp{K:PySem.W.Frag}{B B':bP}{D:Addr}{Hu:Hp}(hT:hU (aQ (fg B D) Hu) (aQ B' Hu)):∀(L:List (Addr×Addr×V×Tr)) (n:Nat),(∀e∈L,Hu e.1=some (.tup [e.2.2.1,.ref e.2.1])/\B'.hd e.1=false/\Rep K (aQ (fg B D) Hu) e.2.2.1 e.2.2.2)->(∀k e,L[k]?=some e->B'.ix e.2.1=some (n+k))->gp (L.map (·.2.2.2))=true->aL K (aQ B' Hu) (L.map fun e=>V.ref e.1) (JZ n (L.map (·.2.2.2)))
 |[],_,_,_,_=>.nil
 |e::L,n,h,hx,f=>by
  rw[ay,gp,aM]at f;obtain⟨h1,h2,h3⟩:=h e (aW ..);refine .cons (.tup (by rw[cK h2];exact h1) (.cons (u9 hT h3 f.1) (.cons (.at (hx 0 e rfl)) .nil))) (xp hT L (n+1) (fun e m=>h e (aV _ m)) (fun k e q=>?_) f.2);rw[Nat.add_assoc,Nat.add_comm 1 k];exact hx (k+1) e q
section
variable {X:Cx}{tg iter elt:Expr}{W:av->Rs (List Tr)}{pos:Pos}{scope:Scope}{N':List Str}{ix:List (Option Nat)}
theorem Gb(Lk:e_ X N' ix scope)(hi:QJ X tg iter W)(j5:∀s H ex,NB (lN X scope N' s H ex) tg elt)(ug:ix.length=1:=by rfl) (hc:X.calm=true:=by rfl) (hs:isSet iter=false:=by rfl):
  ZE X (.ListComp elt [⟨tg,iter,[],0⟩] scope pos) (fun ρ A=>sf (W ρ) A):=
 ⟨(CL Lk hc hi.h (fun s H ex=>⟨(j5 s H ex).g,CK,(j5 s H ex).e⟩) (cL hs)).Jo.weak fun σ H Q ⟨B,A,ρ,ha,r,n,q⟩=>⟨B,ρ,ha.hb,r,by
   have q:cF (XE X B H) (sf (W ρ) A) _:=q;cases eW:W ρ with
   |bad=>rw[eW]at q;exact q
   |exc c=>rw[eW]at q;exact(show False from q).elim
   |ok ts=>
    rw[eW]at q;obtain⟨⟨hf,hz⟩,q⟩:=mY q;intro J H1 tf gt D hD;have va:HB B H1:=tf.hb ha.hb;refine⟨fun i m bK H'=>m=ts.length - i/\i<=ts.length/\bK.length=1/\au H1 H'/\HB (fg B D) H'/\cw (aQ B H1) (aQ (fg B D) H')/\∃L:List (Addr×Addr×V×Tr),(∀e∈L,N5 X.K B D H1 H' e)/\(L.map (·.2.1)).Nodup/\H' D=some (.lst (L.map fun e=>V.ref e.1))/\L.map (·.2.2.2)=ts.take i,
     ⟨_,rfl,bG _,by unfold fb;rw[aj];exact ug,au.upd hD,zm va hD,g_ hD,[],(fun e m=>by cases m),en,aH,rfl⟩,?_⟩
    rintro i m bK H' ⟨rfl,hi,V8,sm,jC,fH,L,hL,nd,hd,eL⟩
    have T7:L.length=i:=by have z:=bT List.length eL;rw[aj,qM,Nat.min_eq_left hi]at z;exact z
    by_cases fc:i<ts.length
    ·refine .inr ⟨gt.go i _ H' fc fH jC,fun pL H2=>pL.length=1/\au H1 H2/\HB (fg B D) H2/\cw (aQ B H1) (aQ (fg B D) H2)/\∃L:List (Addr×Addr×V×Tr),(∀e∈L,N5 X.K B D H1 H2 e)/\(L.map (·.2.1)).Nodup/\H2 D=some (.lst (L.map fun e=>V.ref e.1))/\L.map (·.2.2.2)=ts.take (i+1),
      fun pL H2 h=>⟨ts.length - (i+1),by omega,rfl,fc,h⟩,fun x H2 hx=>?_⟩
     obtain⟨s2,t,et,rt⟩:=gt.xU i _ H' x H2 fc fH jC hx;refine⟨x,by rw[dM (by omega)],fun p hp q' J0=>?_⟩;have RZ:H2 D=some (.lst (L.map fun e=>V.ref e.1)):=s2 _ _ hd;have pD:p≠D:=fun z=>by rw[z,RZ]at hp;cases hp
     have qp:q'≠p:=fun z=>by rw[z,aH]at J0;cases J0
     have Jq:H2 q'=none:=by rw[ak qp]at J0;exact J0
     have qD:q'≠D:=fun z=>by rw[z,RZ]at Jq;cases Jq
     have s3:au H2 (upd (upd H2 p (.lst [])) q' (.tup [x,.ref p])):=(au.upd hp).trans (au.upd J0);have V9:au H1 (upd (upd H2 p (.lst [])) q' (.tup [x,.ref p])):=(sm.trans s2).trans s3;have nb:HB (fg B D) (upd (upd H2 p (.lst [])) q' (.tup [x,.ref p])):=(jC.same s2).same s3;have PU:upd (upd H2 p (.lst [])) q' (.tup [x,.ref p]) D=some (.lst (L.map fun e=>V.ref e.1)):=s3 _ _ RZ;have xq:∀{b:Addr} {u:HO},b≠D->upd (upd H2 p (.lst [])) q' (.tup [x,.ref p]) b=some u->upd (upd (upd H2 p (.lst [])) q' (.tup [x,.ref p])) D (.lst ((L.map fun e=>V.ref e.1)++[.ref q'])) b=some u:=fun hb e=>(ak hb).trans e;have R0:cw (aQ B H1) (aQ (fg B D) (upd (upd (upd H2 p (.lst [])) q' (.tup [x,.ref p])) D (.lst ((L.map fun e=>V.ref e.1)++[.ref q'])))):=by
      rw[iV];exact fH.trans (ba (s2.trans s3))
     refine⟨_,PU,by rw[aj,T7,<-ip];omega,by rw[gQ];exact V8,fun b u e=>?_,?_,R0,L++[(q',p,x,t)],?_,?_,?_,?_⟩
     ·exact xq (fun z=>by rw[z,hD]at e;cases e) (V9 _ _ e)
     ·intro b e;by_cases z:b=D
      ·subst z;exact⟨_,aH,fun _ z=>by cases z⟩
      ·rw[ak z];exact nb b e
     ·intro e m;rcases d_.mp m with m|m
      ·have h:=(hL e m).up (s2.trans s3);refine⟨xq ?_ h.q,xq h.d h.p,h.n,h.m,h.d,?_⟩
       ·intro z;have h1:=h.q;rw[z,PU]at h1;cases h1
       ·rw[iV];exact h.r
      ·rw[cv.mp m];refine⟨xq qD aH,xq pD ?_,(sm.trans s2).free hp,(sm.trans s2).free Jq,pD,?_⟩
       ·exact(ak (bY qp)).trans aH
       ·rw[iV];exact rt.same (ba s3)
     ·rw[dP,jg];refine⟨nd,by simp,fun a m b m'=>?_⟩;obtain⟨e,me,rfl⟩:=bg.mp m;have eb:b=p:=by simpa using m'
      subst eb;intro z;have h1:=(hL e me).p;rw[z]at h1;have h2:=s2 _ _ h1;rw[hp]at h2;cases h2
     ·rw[dP];exact aH
     ·rw[dP,eL,List.take_succ,et];rfl
    ·have e:i=ts.length:=by omega
     subst e;rw[List.take_length]at eL;refine .inl ⟨gt.stop _ H' fH,?_⟩;obtain⟨Hu,su,fu,ru,ku⟩:=tf.N4 sm;refine ku _ ?_
     have V_:∀p∈L.map (·.2.1),H p=none:=fun p m=>by
      obtain⟨e,me,rfl⟩:=bg.mp m;exact tf.free (hL e me).n
     obtain⟨B',g,dB,Bc,R1⟩:=ha.HD _ nd V_;have T8:∀e∈L,Hu e.2.1=some (.lst []):=fun e me=>(fu _ (hL e me).n).trans (hL e me).p;have ss:au (DI H (L.map (·.2.1))) Hu:=fun b o e=>by
      rcases z5 e with⟨m,rfl⟩|h
      ·obtain⟨z,me,rfl⟩:=bg.mp m;exact T8 z me
      ·exact su _ _ h
     have ll:L.length=ts.length:=T7;rw[aj,ll]at dB;have V':D∉L.map (·.2.1):=fun m=>by obtain⟨e,me,z⟩:=bg.mp m;exact(hL e me).d z
     have Wa:H D=none:=tf.free hD;have Wb:B'.hd D=false:=(R1 D V').trans (ha.hb.free Wa);have Wc:Hu D=some (.lst (L.map fun e=>V.ref e.1)):=(fu D hD).trans hd;have nP:∀{b:Addr} {o:HO},Hu b=some o->o≠ .lst []->b∉L.map (·.2.1):=fun{b o} e ne m=>by
      obtain⟨z,me,rfl⟩:=bg.mp m;have q:=T8 z me;rw[e]at q;cases q;exact ne rfl
     have hT:hU (aQ (fg B D) Hu) (aQ B' Hu):=⟨fun a x e hx=>by
      have e1:=aG _ _ e;have nl:x≠ .lst []:=fun z=>by subst z;rcases hx with⟨_,z⟩|⟨_,_,z⟩<;>cases z
      have hB:(fg B D).hd a=false:=by
       cases q:(fg B D).hd a with
       |false=>rfl
       |true=>
        have e2:(if(fg B D).hd a=true then none else Hu a)=some x:=e;rw[q,ab rfl]at e2;cases e2
      have Wd:B.hd a=false:=by
       have z:(B.hd a||a==D)=false:=hB;rw[Bool.or_eq_false_iff]at z;exact z.1
      rw[cK ((R1 a (nP e1 nl)).trans Wd)];exact e1,fun a j e=>g.fH.x a j e⟩
     refine q (.ref D) B' Hu (g.trans ha.hb (.of ss)) (dB.same ss) (.lst (by rw[cK Wb];exact Wc) ?_);rw[<-eL];refine xp hT L A.length (fun e me=>?_) (fun k e ek=>Bc k _ (by rw[aJ,ek];rfl)) (by rw[eL];exact hf);have eq:Hu e.1=some (.tup [e.2.2.1,.ref e.2.1]):=(fu _ (hL e me).m).trans (hL e me).q;exact⟨eq,(R1 _ (nP eq fun z=>by cases z)).trans (ha.hb.free (tf.free (hL e me).m)),ru (hL e me).r⟩⟩⟩
def ou(h:List Tr->Rs Tr)(r:Rz Tr):Rz Tr:=r.bind fun t A=>ai (h [t]) A
theorem BD{T:String}{x:Str}{p:Pos}{e:Expr}{h:List Tr->Rs Tr}{F:av->Ab->Rz Tr}(hc:e8 X (.type T) (rF X h))(hm:X.mg x=none)(he:ZE X e F)(hv:bootBuiltins x=some (.type T):=by rfl) (hg:Gl X x:=by rfl) (hn:x≠"__name__":=by decide) (ji:(x==("__debug__":Str))=false:=by decide)
  (eJ:bq [e]=true:=by rfl):ZE X (.Call (.Name x p) [e] [] pos) (fun ρ A=>ou h (F ρ A)):=
 ⟨(iP hc hg hm hv (zG he.h Dm (aO eJ).1) hn ji (br _ _ (aO eJ).1) (cy (aO eJ).2)).weak fun σ H Q ⟨B,A,ρ,ha,r,n,q⟩=>⟨B,A,ρ,ha,r,n,by
   have q:cF (XE X B H) (ou h (F ρ A)) _:=q;show cF (XE X B H) ((F ρ A).bind fun t A1=>Rz.bind (.ok [] A1) fun ts A2=>.ok (t::ts) A2) _;cases eF:F ρ A with
   |bad=>rw[eF]at q;exact q
   |exc c A1=>rw[eF]at q;exact q
   |ok t A1=>
    rw[eF]at q;intro vs B1 H1 g1 gq rs;exact⟨B1,[t],gq.hb,rs,(f_ (show cF (XE X B H) (ai (h [t]) A1) _ from q)).mono fun u qu v H2 s2 rv _=>qu v B1 H2 (g1.trans ha.hb (.of s2)) (gq.same s2) rv⟩⟩⟩
end
end L2
namespace L2
open PySem PySem.Spec PySem.Calls PyProof.Rows
section
variable {prog:Program}{w:World}{A:Around}{E:Value->Shared->Prop}{s:Shared}
def nk(prog:Program)(w:World)(h:Heap)(a:Addr)(xs:List (List Key×Addr)):Prop:=
 ∃(o:Obj) (es:Array (Int×Value)) (ep:Nat) (t:SetTable),h.get? a=some o/\o.ExactSet/\o.data=.set es ep t/\es.toList.Perm (xs.map (JY prog w))/\se t es.size/\(vM w=true\/t.led=true)
theorem nk.keep {h h':Heap}{a:Addr}{xs:List (List Key×Addr)}(x:nk prog w h a xs)(k:∀o,h.get? a=some o->h'.get? a=some o):nk prog w h' a xs:=by
 obtain⟨o,es,ep,t,ho,r⟩:=x;exact⟨o,es,ep,t,k o ho,r⟩
theorem nk.size {h:Heap}{es:Array (Int×Value)}{xs:List (List Key×Addr)}(hp:es.toList.Perm (xs.map (JY prog w))):es.size=xs.length:=by
 have q:=hp.length_eq;rw[bz,aj]at q;exact q
theorem xr{α:Type}(xs:Array α)(p:Nat)(x:α):(SetTable.insertAt xs p x).size=xs.size+1:=by
 have q:=(qz xs p x).length_eq;rw[bz,bz,Array.size_push]at q;exact q
theorem J1{t:SetTable}{n j:Nat}(tk:se t n)(hs:t.slot j=.empty)(hj:j<=t.mask):(t.put j).1.dummies=#[]/\(t.put j).1.mask=t.mask/\(t.put j).1.place.size=n+1/\(∀x∈(t.put j).1.place.toList,x<=t.mask)/\lF (t.put j).1.place/\(t.put j).1.led=t.led:=by
 have fA:¬t.place[SetTable.below t.place j]?=some j:=by
  intro e;unfold SetTable.slot at hs;dsimp only at hs;rw[e,ab (bD _)]at hs;cases hs
 unfold SetTable.put;dsimp only;refine⟨?_,rfl,?_,?_,C0 tk.rise fA,rfl⟩
 ·rw[tk.dm,ae (by unfold SetTable.has;simp)]
 ·rw[xr,tk.sz]
 ·intro x hx;have:=(qz t.place (SetTable.below t.place j) j).mem_iff.mp hx;rw[qH,d_,cv]at this;rcases this with h|h
  ·exact tk.le x h
  ·rw[h];exact hj
theorem R3{a b:Addr}{xs:List (List Key×Addr)}{k:List Key}{Q:Bool->Shared->Prop}(hu:A.units<cLine)(hS:nk prog w s.heap a xs)(hn:xs.length+1<=18)(hk:(tupleKind (az prog w)).is s.heap k b)(JV:∀p∈xs,(tupleKind (az prog w)).is s.heap p.1 p.2/\p.1≠k)
  (h:∀h',Heap.SameBut a s.heap h'->nk prog w h' a (xs++[(k,b)])->Q true {s with heap:=h'}):wpAny (model prog w) A (setAddHashed a (.ref b) ((tupleKind (az prog w)).hash k)) Q E s:=by
 obtain⟨o,es,ep,t,ho,hex,hd,hp,tk,hl⟩:=hS;have hsz:es.size=xs.length:=nk.size (h:=s.heap) hp;have hf:=tk.fits;unfold setAddHashed setAddHashedIn;refine cV (aa (eR ho hd hf ?_));dsimp only;have We:byScan (.ref b) es=false:=by unfold byScan;rfl
 rw[We];simp only[bX,bB];have R4:∀e∈es.toList,∃k' c,e.2=.ref c/\(tupleKind (az prog w)).is s.heap k' c/\k'≠k:=fun e he=>by
  obtain⟨p,NC,rfl⟩:=bg.mp (hp.mem_iff.mp he);exact⟨p.1,p.2,rfl,JV p NC⟩
 obtain⟨j0,HE,Wf⟩:=RS (t.mask+1) t.place.toList (by rw[bz,tk.sz];have:=tk.PR;omega);obtain⟨N,hN,eN⟩:=xk tk.ms ((tupleKind (az prog w)).hash k) (gy HE);refine aa ?_
 unfold setSearch;refine xo hu ho hd tk hk R4 (fun j hj Wg=>?_) N 100000 none (by rcases tk.ms with e|e<;>rw[e]at hN<;>omega) (by unfold SetTable.turns;omega) (PB.start _) (by show t.slot (fE t N (t.probeStart _)).j=_;rw[eN];exact yD tk.dm Wf);dsimp only;refine aa (eR ho hd hf ?_);dsimp only;obtain⟨p1,p2,p3,p4,p5,p6⟩:=J1 tk hj Wg;have uu:=qz es (t.put j).2 ((tupleKind (az prog w)).hash k,Value.ref b);have vn:(SetTable.insertAt es (t.put j).2 ((tupleKind (az prog w)).hash k,Value.ref b)).size=es.size+1:=xr _ _ _;generalize t.put j=tp at p1 p2 p3 p4 p5 p6 uu vn⊢;obtain⟨t1,pl⟩:=tp;dsimp only at p1 p2 p3 p4 p5 p6 uu vn⊢;generalize SetTable.insertAt es pl ((tupleKind (az prog w)).hash k,Value.ref b)=ue at uu vn⊢;have DJ:ue.toList.Perm ((xs++[(k,b)]).map (JY prog w)):=by
  rw[dP];refine uu.trans ?_
  rw[qH];exact hp.append_right _
 have HF:ue.size<=sizeLine:=by rw[vn,hsz,bS];omega
 have fin:∀t2:SetTable,t2.dummies=#[]->t2.mask=t.mask->t2.place=t1.place->t2.led=t1.led->wpAny (model prog w) A (do
   storeSet a ue t2
   if(!false&&t2.tooFull)=true then do
      setRelay a (SetTable.grown (es.size+1))
      pure true
    else pure true) Q E s:=by
  intro t2 d2 m2 N6 l2;refine aa (wpAny_storeSet_of ho hd ?_ HF);have hg:(s.heap.update a (Obj.putSet ue t2)).get? a=some {o with data:=.set ue (ep+1) t2}:=by
   have q:=kK (Obj.putSet ue t2) ho (by rw[putSet_of ue t2 hd];rfl);rw[putSet_of ue t2 hd]at q;exact q
  have T9:=eP s.heap a (Obj.putSet ue t2);have EW:vM w=true\/t2.led=true:=hl.imp id fun z=>by rw[l2,p6];exact z
  have DK:t2.fill=es.size+1:=by unfold SetTable.fill;rw[d2,N6,p3];rfl
  refine fT (fun sg=>?_) (fun sg=>?_)
  ·
   have sg:t2.fill*5>=t2.mask*3:=by
    have:t2.tooFull=true:=by simpa using sg
    unfold SetTable.tooFull at this;exact bN this
   rw[DK,m2]at sg;have h7:t.mask=7:=by
    rcases tk.ms with e|e
    ·exact e
    ·rw[e]at sg;omega
   have h5:es.size+1=5:=by have:=tk.PR;rw[h7]at sg this;omega
   refine aa ?_
   unfold setRelay;have Wh:t2.fits ue.size=true:=by
    unfold SetTable.fits;rw[N6,p3,vn,bD,jO,DK,m2,h7,h5];rfl
   refine aa (eR hg rfl Wh ?_);dsimp only;rw[h5];have N7:SetTable.sizeAbove (SetTable.grown 5)=32:=by decide
   rw[N7,ae (by decide)];obtain⟨t3,order,e3,m3,d3,l3,Xz,r3,Wi,Wj,DL⟩:=F9 (m:=31) (f:=t2.finger) (mv:=t2.movedTo 31) (ld:=t2.led) (pl:=t2.plain) (.inr rfl) (es:=ue) (by rw[vn];omega);have er:t2.relaid (ue.map (·.1)) (SetTable.grown 5)=some (t3,order):=by
    unfold SetTable.relaid;rw[N7];exact e3
   rw[er];refine aa ?_
   have DM:(order.filterMap fun x=>ue[x]?).size=ue.size:=by
    have q:=DL.length_eq;rw[bz,bz]at q;exact q
   show wpAny _ _ (if((order.filterMap fun x=>ue[x]?).size !=ue.size)=true then _ else _) _ _ _;rw[DM,iz];simp only[bX,bB];refine af ?_
   dsimp only;generalize (order.filterMap fun x=>ue[x]?)=JB at DM DL⊢;refine wpAny_storeSet_of hg rfl (af ?_) (by rw[DM];exact HF);have N8:((s.heap.update a (Obj.putSet ue t2)).update a (Obj.putSet JB t3)).get? a=some {o with data:=.set JB (ep+1+1) t3}:=by
    have q:=kK (Obj.putSet JB t3) hg (by rw[putSet_of JB t3 rfl];rfl);rw[putSet_of JB t3 rfl]at q;exact q
   refine h _ (T9.trans (eP _ a _)) ⟨_,JB,_,t3,N8,hex,rfl,DL.trans DJ,⟨d3,.inr m3,by rw[m3];exact Wi,by rw[Wj,DM],by rw[m3,DM,vn];omega,r3⟩,EW.imp id fun z=>l3.trans z⟩
  ·refine af (h _ T9 ⟨_,ue,_,t2,hg,hex,rfl,DJ,⟨d2,by rw[m2];exact tk.ms,by rw[N6,m2];exact p4,by rw[N6,p3,vn],?_,by rw[N6];exact p5⟩,EW⟩);have:¬t2.fill*5>=t2.mask*3:=by
    intro z;refine sg ?_
    show(!false&&t2.tooFull)=true;unfold SetTable.tooFull;rw[bt z];rfl
   rw[DK]at this;rw[vn];omega
 split
 ·refine aa (Ga hk fun bv=>?_);cases bv with
  |true=>exact fin t1 p1 p2 rfl rfl
  |false=>exact fin {t1 with plain:=false} p1 p2 rfl rfl
 ·refine aa (af ?_);exact fin t1 p1 p2 rfl rfl
end
end L2
namespace L2
open PySem PySem.Spec PySem.Calls PyProof.Rows
def ox(a b:List Int):Bool:=!decide (b<a)
theorem nq{a b:List Int}:ox a b=true↔a<=b:=by
 unfold ox;rw[Bool.not_eq_true',decide_eq_false_iff_not];exact Iff.rfl
theorem fM{a b c:List Int}(h1:ox a b=true)(h2:ox b c=true):ox a c=true:=by
 rw[nq]at*;exact List.le_trans h1 h2
theorem fN(a b:List Int):(ox a b||ox b a)=true:=by
 rw[qT,nq,nq];exact List.le_total _ _
theorem i9{a b:List Int}(h1:ox a b=true)(h2:ox b a=true):a=b:=by
 rw[nq]at*;exact List.le_antisymm h1 h2
def PV(ks:List (List Int))(i j:Nat):Bool:=decide (ks.getD i []<ks.getD j [])
theorem J2{a b:List Int}(h:a≠b):decide (a<b)=!decide (b<a):=by
 cases e:decide (b<a)with
 |true=>
  have h1:b<a:=bN e;rw[iG];exact aX (List.lt_asymm h1)
 |false=>
  rw[qX];have h1:ox a b=true:=by unfold ox;rw[e];rfl
  cases q:decide (a<b)with
  |true=>rfl
  |false=>
   have h2:ox b a=true:=by unfold ox;rw[q];rfl
   exact absurd (i9 h1 h2) h
theorem z6{ks:List (List Int)}(nd:ks.Nodup){i j:Nat}(hi:i<ks.length)(hj:j<ks.length)(h:i≠j):ks.getD i []≠ks.getD j []:=by
 rw[bJ,bJ,aI hi,aI hj];intro e;exact h ((gO nd).mp e)
theorem z7{ks:List (List Int)}(nd:ks.Nodup):Bs ks.length (PV ks):=
 ⟨fun i j hi hj h=>J2 (z6 nd hi hj h),fun i j k _ _ _ h1 h2=>bt (List.lt_trans (bN h1) (bN h2))⟩
def cf(ks:List (List Int)):List Nat:=(List.range ks.length).mergeSort fun i j=>ox (ks.getD i []) (ks.getD j [])
theorem dH(ks:List (List Int)):(cf ks).Perm (List.range ks.length):=dv _ _
theorem di{ks:List (List Int)}{i:Nat}(h:i∈cf ks):i<ks.length:=cI.mp ((dH ks).mem_iff.mp h)
theorem kB(ks:List (List Int)):(cf ks).Pairwise fun i j=>ox (ks.getD i []) (ks.getD j [])=true:=jd (le:=fun i j=>ox (ks.getD i []) (ks.getD j [])) (fun a b c h1 h2=>fM h1 h2) (fun a b=>fN _ _) _
theorem uw{ks:List (List Int)}(nd:ks.Nodup){p:Array Nat}(h:Pn ks.length p)(s:eC (PV ks) p ks.length):p.toList=cf ks:=by
 refine jD (le:=fun i j=>ox (ks.getD i []) (ks.getD j [])=true) (fun a b ha hb h1 h2=>?_) ((Bu h s).imp fun{i j} e=>?_) (kB ks) (List.Perm.trans h (dH ks).symm)
 ·have dB:a<ks.length:=cI.mp ((List.Perm.mem_iff h).mp ha);have jC:b<ks.length:=di hb;by_cases z:a=b
  ·exact z
  ·exact absurd (i9 h1 h2) (z6 nd dB jC z)
 ·have e:ks.getD i []<ks.getD j []:=bN e;unfold ox;rw[aX (List.lt_asymm e)];rfl
theorem nr{ks:List (List Int)}(h:ks.length<2):cf ks=List.range ks.length:=by
 unfold cf
 match ks,h with
 |[],_=>rw[show List.range ([]:List (List Int)).length=[]from rfl,List.mergeSort_nil]
 |[a],_=>rw[show List.range [a].length=[0]from rfl,List.mergeSort_singleton]
def z8(h:Heap)(v:Value)(a b:Int):Prop:=∃ad o t u n,v=.ref ad/\h.get? ad=some o/\o.cls=.type "tuple"/\o.data=.seq #[.int a t,.int b u] n
def PX(h:Heap)(v:Value)(c a b:Int):Prop:=∃ad o t n x,v=.ref ad/\h.get? ad=some o/\o.cls=.type "tuple"/\o.data=.seq #[.int c t,x] n/\z8 h x a b
def TK(h:Heap)(v:Value):List Int->Prop
 |[a,b]=>z8 h v a b
 |[c,a,b]=>PX h v c a b
 |_=>False
theorem z8.keep {h h':Heap}{v:Value}{a b:Int}(k:∀b o xs n,o.cls=Value.type "tuple"->o.data=.seq xs n->h.get? b=some o->h'.get? b=some o):z8 h v a b->z8 h' v a b
 |⟨ad,o,t,u,n,e,h1,h2,h3⟩=>⟨ad,o,t,u,n,e,k _ _ _ _ h2 h3 h1,h2,h3⟩
theorem TK.keep {h h':Heap}{v:Value}(k:∀b o xs n,o.cls=Value.type "tuple"->o.data=.seq xs n->h.get? b=some o->h'.get? b=some o):∀{ky:List Int},TK h v ky->TK h' v ky
 |[a,b],x=>z8.keep k x
 |[c,a,b],⟨ad,o,t,n,y,e,h1,h2,h3,h4⟩=>⟨ad,o,t,n,y,e,k _ _ _ _ h2 h3 h1,h2,h3,z8.keep k h4⟩
 |[],x=>x.elim
 |[_],x=>x.elim
 |_::_::_::_::_,x=>x.elim
theorem TK.shape {h:Heap}{v:Value}:∀{ky:List Int},TK h v ky->(∃a b,ky=[a,b])\/∃c a b,ky=[c,a,b]
 |[a,b],_=>.inl ⟨a,b,rfl⟩
 |[c,a,b],_=>.inr ⟨c,a,b,rfl⟩
 |[],x=>x.elim
 |[_],x=>x.elim
 |_::_::_::_::_,x=>x.elim
section
variable {prog:Program}{w:World}{A:Around}{E:Value->Shared->Prop}{s:Shared}
theorem nu{a b:Int}{l m:List Int}:decide (a::l<b::m)=(decide (a<b)||(a==b&&decide (l<m))):=by
 rw[Bool.eq_iff_iff,cH,qT,aM,cH,cH,iL];exact List.cons_lt_cons_iff
theorem DN:decide (([]:List Int)<[])=false:=rfl
theorem z8.key {h:Heap}{v:Value}{a b:Int}(x:z8 h v a b):∃ad,v=.ref ad/\(tupleKind (az prog w)).is h [.inl a,.inl b] ad:=by
 obtain⟨ad,o,t,u,n,rfl,h1,h2,h3⟩:=x;exact⟨ad,rfl,o,_,n,h1,h2,h3,.cons (Hb (k:=.inl a) (t:=t)) (.cons (Hb (k:=.inl b) (t:=u)) .nil)⟩
theorem J3{v v':Value}{a b a' b':Int}{Q:Bool->Shared->Prop}(hx:z8 s.heap v a b)(hy:z8 s.heap v' a' b')(fA:([a,b]:List Int)≠[a',b'])(h:Q (decide ([a,b]<[a',b'])) s):wpAny (model prog w) A (keyLt' (tuples' true) v v') Q E s:=by
 obtain⟨ad,o,t,u,n,rfl,h1,h2,h3⟩:=hx;obtain⟨Wk,o',t',u',n',rfl,JR,JK,B9⟩:=hy;rw[nu,nu,DN]at h;refine PySem.W.kat_lt h1 h3 JR B9 (mj (mr ?_));by_cases z:a=a'
 ·subst z;rw[bD];refine PySem.W.kat_yes (mj (mr ?_));have hb:b≠b':=fun e=>fA (by rw[e]);rw[ef hb];refine my (PySem.W.kat_one _ _ (wpAny_lt_int ?_));rw[aX (Int.lt_irrefl a),bD,ef hb]at h;show Q (decide (b<b')) s;simpa using h
 ·rw[ef z];refine my (oneLt_int ?_);rw[ef z]at h;simpa using h
theorem J4{v v':Value}{c a b c' a' b':Int}{Q:Bool->Shared->Prop}(hu:A.units<cLine)(hx:PX s.heap v c a b)(hy:PX s.heap v' c' a' b')(fA:([c,a,b]:List Int)≠[c',a',b'])(h:Q (decide ([c,a,b]<[c',a',b'])) s):wpAny (model prog w) A (keyLt' (tuples' true) v v') Q E s:=by
 obtain⟨ad,o,t,n,x,rfl,h1,h2,h3,T_⟩:=hx;obtain⟨Wk,o',t',n',x',rfl,JR,JK,B9,T'⟩:=hy;rw[nu]at h;refine PySem.W.kat_lt h1 h3 JR B9 (mj (mr ?_));by_cases z:c=c'
 ·subst z;rw[bD];obtain⟨b1,rfl,k1⟩:=z8.key (prog:=prog) (w:=w) T_;obtain⟨b2,rfl,k2⟩:=z8.key (prog:=prog) (w:=w) T';have hb:([a,b]:List Int)≠[a',b']:=fun e=>fA (by rw[e]);refine PySem.W.kat_yes (mj ((tupleKind (az prog w)).eqBool hu k1 k2 ?_));have hk:([.inl a,.inl b]:List Key)≠[.inl a',.inl b']:=fun e=>hb (by injection e with e1 e2;injection e2 with e2 _;injection e1 with e1;injection e2 with e2;rw[e1,e2]);rw[aX hk];obtain⟨_,ob,tb,ub,nb,e,g1,g2,g3⟩:=T_;cases e;obtain⟨_,Wl,Wm,Wn,Wo,e,Wq,Wr,Ws⟩:=T';cases e;refine my (PySem.W.kat_one _ _ (HT.x9 ⟨ob,g1,g2,nb,g3⟩ ⟨Wl,Wq,Wr,Wo,Ws⟩ (.cons a tb (.cons b ub .nil)) (.cons a' Wm (.cons b' Wn .nil)) hu ?_));show Q (HT.lexLt [a,b] [a',b']) s;have e:HT.lexLt [a,b] [a',b']=decide ([a,b]<[a',b']):=by
   rw[nu,nu,DN];unfold HT.lexLt;by_cases q:a=a'
   ·subst q;rw[bD,aX (Int.lt_irrefl a)];have Q8:b≠b':=fun e=>hb (by rw[e]);simp[HT.lexLt,Q8]
   ·simp[q,HT.lexLt]
  rw[e];rw[aX (Int.lt_irrefl c),bD]at h;simpa using h
 ·rw[ef z];refine my (oneLt_int ?_);rw[ef z]at h;simpa using h
theorem HG{v v':Value}{k k':List Int}{Q:Bool->Shared->Prop}(hu:A.units<cLine)(hx:TK s.heap v k)(hy:TK s.heap v' k')(hl:k.length=k'.length)(fA:k≠k')(h:Q (decide (k<k')) s):wpAny (model prog w) A (keyLt' (tuples' true) v v') Q E s:=by
 rcases hx.shape with⟨a,b,rfl⟩|⟨c,a,b,rfl⟩<;>rcases hy.shape with⟨a',b',rfl⟩|⟨c',a',b',rfl⟩
 ·exact J3 hx hy fA h
 ·cases hl
 ·cases hl
 ·exact J4 hu hx hy fA h
end
theorem DO{h:Heap}{v:Value}{k:List Int}(x:TK h v k):∃a o xs n i t,v=.ref a/\h.get? a=some o/\o.cls=.type "tuple"/\o.data=.seq xs n/\xs[0]?=some (.int i t):=by
 match k,x with
 |[a,b],⟨ad,o,t,u,n,e,h1,h2,h3⟩=>exact⟨ad,o,_,n,a,t,e,h1,h2,h3,rfl⟩
 |[c,a,b],⟨ad,o,t,n,y,e,h1,h2,h3,_⟩=>exact⟨ad,o,_,n,c,t,e,h1,h2,h3,rfl⟩
theorem lK{h:Heap}:∀{vs:List Value} {ks:List (List Int)},vs.length=ks.length->(∀(i:Nat) (v:Value) (k:List Int),vs[i]?=some v->ks[i]?=some k->TK h v k)->∃fs:List Value,PySem.W.KatTups h vs fs/\fs.length=ks.length/\∀v∈fs,∃z t,v=Value.int z t
 |[],[],_,_=>⟨[],.nil,rfl,fun v m=>(nomatch m)⟩
 |[],_::_,e,_=>by cases e
 |_::_,[],e,_=>by cases e
 |v::vs,k::ks,e,kk=>by
  obtain⟨a,o,xs,n,i,t,rfl,h1,h2,h3,h4⟩:=DO (kk 0 v k rfl rfl);obtain⟨fs,q1,q2,q3⟩:=lK (vs:=vs) (ks:=ks) (by simpa using e) fun i b y e1 e2=>kk (i+1) b y (by simpa using e1) (by simpa using e2);refine⟨.int i t::fs,.cons h1 h2 h3 h4 q1,by rw[a_,a_,q2],fun v m=>?_⟩;rcases aR.mp m with rfl|m
  ·exact⟨i,t,rfl⟩
  ·exact q3 v m
section
variable {prog:Program}{w:World}{A:Around}{E:Value->Shared->Prop}{s:Shared}
theorem dI{α:Type}(d:α)(l:List α):(List.range l.length).map (fun i=>l.getD i d)=l:=by
 refine List.ext_getElem (by simp) fun i h1 h2=>?_
 simp[h2]
theorem BE{L D:Addr}{m:Str->Option Value}{vs:List Value}{ks:List (List Int)}{n0:Nat}{P:PySem.Fin->Shared->Prop}(hu:A.units<cLine)(AU:s.heap.Ns L m)(PY:D≠L)(ho:s.heap.get? D=some (seqObj "list" vs.toArray n0))(hl:vs.length=ks.length)
  (ht:∀(i:Nat) (v:Value) (k:List Int),vs[i]?=some v->ks[i]?=some k->TK s.heap v k) (Gd:ks.Nodup) (z9:ks.length<64) (xt:∀k∈ks,∀k'∈ks,k.length=k'.length)
  (h:∀h' c,(∀b o,b≠L->b≠D->s.heap.get? b=some o->h'.get? b=some o)->h'.Ns L m->h'.get? D=some (seqObj "list" ((cf ks).map fun i=>vs.getD i Value.none).toArray c)->P (.done (.ret .none)) {s with heap:=h'}):
  wpAny (model prog w) A (Builtin.«list.sort» ⟨[.ref D],[]⟩) P E s:=by
 by_cases h2:ks.length<2
 ·refine pB ho (by rw[hl];exact h2) fun h' c kp hD=>?_
  refine h h' c (fun b o _ n e=>kp b o n e) ?_ (by rw[nr h2,<-hl,dI];exact hD)
  obtain⟨o,es,yY,AK,r'⟩:=AU;exact⟨o,es,yY,kp _ _ PY.symm AK,r'⟩
 ·have h2:2<=ks.length:=by omega
  obtain⟨p,er,hp,hs⟩:=wV (z7 Gd) h2;have ep:=uw Gd hp hs;have F:Fr u_ L s.heap m:=⟨AU,(fun b o e=>by rw[ko]at e;cases e),bG _⟩;have N:News u_ L s.heap (vc s.heap L D):=fun t ht=>by
   obtain⟨n1,n2,e⟩:=gb.mp (show(t.1,t.2)∈_ from ht);exact⟨e,n1,ko _⟩
  refine PySem.W.kat_list_sort F N ho PY (ko _) (fun t ht=>(gb.mp (show(t.1,t.2)∈_ from ht)).2.1) (by rw[hl];exact h2) (by rw[hl];exact z9) fun e1 h' F' N'=>?_
  have kt:∀b o xs n,o.cls=Value.type "tuple"->o.data=.seq xs n->s.heap.get? b=some o->h'.get? b=some o:=fun b o xs n hc hd e=>by
   have nL:b≠L:=fun z=>by
    obtain⟨o',es,yY,AK,hx,_⟩:=AU;rw[z,AK]at e;cases e;rw[hx]at hd;cases hd
   have nD:b≠D:=fun z=>by
    rw[z,ho]at e;cases e;exact absurd (show Value.type "list"=Value.type "tuple"from hc) (by decide)
   exact(N' (b,o) (aV _ (gb.mpr ⟨nL,nD,e⟩))).1
  have tp:∀(i:Nat) (v:Value) (k:List Int),vs[i]?=some v->ks[i]?=some k->TK h' v k:=fun i v k e1 e2=>(ht i v k e1 e2).keep kt
  obtain⟨fs,aB,fl,J5⟩:=lK hl tp;refine PySem.W.kat_kind (T:=.type "int") aB (by rw[fl];omega) (fun v hv=>by obtain⟨z,t,rfl⟩:=J5 v hv;exact .of_pure rfl) (by decide) ?_
  rw[show(Value.type "int" !=Value.type "tuple")=true by decide,hl];refine og (fun i j C hi hj sL hC=>?_) _ er ?_
  ·have vi:vs[i]?=some (vs[i]'(by omega)):=aI (by omega)
   have vj:vs[j]?=some (vs[j]'(by omega)):=aI (by omega)
   have ki:ks[i]?=some ks[i]:=aI hi
   have kj:ks[j]?=some ks[j]:=aI hj
   show wpAny _ _ (keyLt' _ (vs.getD i Value.none) (vs.getD j Value.none)) _ _ _;rw[bJ,bJ,vi,vj];refine HG hu (tp i _ _ vi ki) (tp j _ _ vj kj) (xt _ (iE hi) _ (iE hj)) (fun e=>sL ((gO Gd).mp e)) ?_
   unfold PV at hC;rw[bJ,bJ,ki,kj]at hC;exact hC
  ·refine PySem.W.KasFin.intro F' N' (.head fun t ht=>(gb.mp (show(t.1,t.2)∈_ from ht)).2.1) fun Wt c Wu Ua=>?_
   refine h Wt c (fun b o n1 n2 e=>(Ua (b,o) (aV _ (gb.mpr ⟨n1,n2,e⟩))).1) Wu.ns ?_
   rw[<-ep];exact(Ua _ (aW ..)).1
end
end L2
namespace L2
open PySem PySem.Spec PySem.Calls PyProof.Rows
def B_:Tr->Option (List Int)
 |.tup [.int a,.int b]=>some [a,b]
 |.tup [.int c,.tup [.int a,.int b]]=>some [c,a,b]
 |_=>none
def eE(t:Tr):List Int:=(B_ t).getD []
def oa(ts:List Tr):Bool:=(ts.all fun t=>(B_ t).isSome)&&(decide (ts.length<64)&&(decide ((ts.map eE).Nodup)&&((ts.all fun t=>(eE t).length==2)||(ts.all fun t=>(eE t).length==3))))
def cO(ts:List Tr):List Tr:=ts.mergeSort fun a b=>ox (eE a) (eE b)
theorem oy{ts:List Tr}(h:oa ts=true):(∀t∈ts,B_ t=some (eE t))/\ts.length<64/\(ts.map eE).Nodup/\∀k∈ts.map eE,∀k'∈ts.map eE,k.length=k'.length:=by
 unfold oa at h;rw[aM,aM,aM,cH,cH]at h;obtain⟨h1,h2,h3,h4⟩:=h;refine⟨fun t ht=>?_,h2,h3,fun k hk k' Ge=>?_⟩
 ·have q:=bw.mp h1 t ht;unfold eE;cases e:B_ t with
  |none=>rw[e]at q;cases q
  |some k=>rfl
 ·obtain⟨t,ht,rfl⟩:=bg.mp hk;obtain⟨t',HH,rfl⟩:=bg.mp Ge;rw[qT]at h4;rcases h4 with h4|h4
  ·exact(eq_of_beq (bw.mp h4 t ht)).trans (eq_of_beq (bw.mp h4 t' HH)).symm
  ·exact(eq_of_beq (bw.mp h4 t ht)).trans (eq_of_beq (bw.mp h4 t' HH)).symm
theorem Gf{ts:List Tr}(nd:(ts.map eE).Nodup){a b:Tr}(ha:a∈ts)(hb:b∈ts)(e:eE a=eE b):a=b:=by
 obtain⟨i,hi⟩:=jF ha;obtain⟨j,hj⟩:=jF hb;obtain⟨R8,N9⟩:=dt.mp hi;obtain⟨R9,N_⟩:=dt.mp hj;have q:(ts.map eE)[i]'(by rw[aj];exact R8)=(ts.map eE)[j]'(by rw[aj];exact R9):=by
  rw[iF,iF,N9,N_,e]
 have z:=(gO nd).mp q;subst z;rw[<-N9,<-N_]
theorem ux{ts:List Tr}(nd:(ts.map eE).Nodup):(cf (ts.map eE)).map (fun i=>ts.getD i .cq)=cO ts:=by
 have hp:((cf (ts.map eE)).map fun i=>ts.getD i .cq).Perm ts:=by
  have q:=(dH (ts.map eE)).map fun i=>ts.getD i .cq;rw[aj,dI]at q;exact q
 have IG:(cO ts).Perm ts:=dv _ _;refine jD (le:=fun a b=>ox (eE a) (eE b)=true) (fun a b ha hb h1 h2=>Gf nd (hp.mem_iff.mp ha) (IG.mem_iff.mp hb) (i9 h1 h2)) ?_ (jd (le:=fun a b=>ox (eE a) (eE b)) (fun a b c h1 h2=>fM h1 h2) (fun a b=>fN _ _) _) (hp.trans IG.symm)
 rw[iC];refine(kB (ts.map eE)).imp_of_mem fun{i j} hi hj e=>?_
 have uZ:=di hi;have wW:=di hj;rw[aj]at uZ wW;rw[bJ,bJ,aJ,aJ,aI uZ,aI wW]at e;rw[bJ,bJ,aI uZ,aI wW];exact e
theorem vo{f:Nat->V}{g:Nat->Value}:∀{p:List Nat},(∀i∈p,RelV (f i) (g i))->Vals (p.map f) (p.map g)
 |[],_=>.nil
 |i::p,h=>.cons (h i (aW ..)) (vo fun j m=>h j (aV _ m))
section
variable {X:Cx}{pins:List (Addr×Obj)}{σ:St}{H:Hp}{s:Shared}{B:bP}
theorem z_(I:Inv X pins σ H s){v:V}{a b:Int}{u:Value}(r:Rep X.K (aQ B H) v (.tup [.int a,.int b]))(rv:RelV v u):z8 s.heap u a b:=by
 obtain⟨ad,us,rfl,hq,rr⟩:=r.j8;cases(show u=Value.ref ad from rv);obtain⟨x1,x2,rfl,r1,r2⟩:=rA rr;obtain⟨aY,B7,⟨o,h1,h2,n,h3⟩,_⟩:=I.tuple (.inl (.inl (aG _ _ hq)));obtain⟨u1,u2,rfl,e1,e2⟩:=vals2 B7;cases r1.int_inv;cases r2.int_inv;obtain⟨t1,rfl⟩:=e1;obtain⟨t2,rfl⟩:=e2;exact⟨ad,o,t1,t2,n,rfl,h1,h2,h3⟩
theorem J7(I:Inv X pins σ H s){v:V}{t:Tr}{k:List Int}{u:Value}(r:Rep X.K (aQ B H) v t)(e:B_ t=some k)(rv:RelV v u):TK s.heap u k:=by
 unfold B_ at e;split at e
 ·cases e;exact z_ I r rv
 ·cases e;obtain⟨ad,us,rfl,hq,rr⟩:=r.j8;cases(show u=Value.ref ad from rv);obtain⟨x1,x2,rfl,r1,r2⟩:=rA rr;obtain⟨aY,B7,⟨o,h1,h2,n,h3⟩,_⟩:=I.tuple (.inl (.inl (aG _ _ hq)));obtain⟨u1,u2,rfl,e1,e2⟩:=vals2 B7;cases r1.int_inv;obtain⟨t1,rfl⟩:=e1;exact⟨ad,o,t1,n,u2,rfl,h1,h2,h3,z_ I r2 e2⟩
 ·cases e
theorem lL{Q:VK}(hu:X.A.units+4<cLine)(I:Inv X pins σ H s){h1:Heap}{tk:Nat}{d:Drawn}(BF:∀b o,s.heap.get? b=some o->h1.get? b=some o){vs:List V}{us:List Value}{ks:List (List Int)}(rv:Vals vs us)(hl:us.length=ks.length)
  (ht:∀(i:Nat) (v:Value) (k:List Int),us[i]?=some v->ks[i]?=some k->TK s.heap v k) (Gd:ks.Nodup) (z9:ks.length<64) (xt:∀k∈ks,∀k'∈ks,k.length=k'.length)
  (q:∀D,H D=none->Q (.ref D) (upd H D (.lst ((cf ks).map fun i=>vs.getD i .cq)))) {P:PySem.Fin->Shared->Prop} {E:Value->Shared->Prop}
  (hP:∀s',EP X pins σ Q (.ref h1.objs.size) s'->P (.done (.ret .none)) s'):
  wpAny (model X.prog X.w) X.A.in1.in1 (Builtin.«list.sort» ⟨[.ref h1.objs.size],[]⟩) P E {s with heap:=h1.push (seqObj "list" us.toArray 0),toks:=tk,drawn:=d}:=by
 obtain⟨m,AU,_⟩:=id I.loc;have BZ:(h1.push (seqObj "list" us.toArray 0)).get? h1.objs.size=some (seqObj "list" us.toArray 0):=aU _ rfl;have J:Inv X pins σ H {s with heap:=h1,toks:=tk}:=I.kept BF;have J8:H h1.objs.size=none:=J.fresh;have Wv:jy X pins H h1.objs.size:=J.uK (aA _) J8;have Ww:X.eZ.heap.objs.size<=h1.objs.size:=J.sz;have PY:h1.objs.size≠X.env.locals:=cn J.lt;have R_:(h1.push (seqObj "list" us.toArray 0)).Ns X.env.locals m:=by
  obtain⟨o,es,yY,ho,r'⟩:=AU;exact⟨o,es,yY,aD _ (BF _ _ ho),r'⟩
 refine BE (s:={s with heap:=h1.push (seqObj "list" us.toArray 0),toks:=tk,drawn:=d}) (ks:=ks) (by show X.A.units+1+1<cLine;omega) R_ PY BZ hl (fun i v k e1 e2=>(ht i v k e1 e2).keep fun b o _ _ _ _ e=>aD _ (BF b o e)) Gd z9 xt fun h' c kp KW hD=>hP _ ?_
 have Wx:∀b o,s.heap.get? b=some o->b<h1.objs.size:=fun b o e=>ax (BF b o e);have I1:Inv X pins σ H {s with heap:=h',toks:=tk}:=I.Dj AU KW fun b o n e=>kp b o n (aS (Wx b o e)) (aD _ (BF b o e));have XB:vs.length=us.length:=rv.length;have I2:=I1.adopt (o:=.lst ((cf ks).map fun i=>vs.getD i .cq)) Ww ⟨J8,Wv.2⟩ ⟨by rw[aj,(dH ks).length_eq,gx,bS];omega,_,c,vo fun i hi=>?_,hD⟩
 ·exact⟨.ref h1.objs.size,_,I2.FK d,rfl,q _ J8⟩
 ·have Pf:=di hi;have Ub:i<vs.length:=by omega
  obtain⟨u,eu,ru⟩:=rv.get (aI Ub);rw[bJ,bJ,eu,aI Ub];exact ru
def DP(ts:List Tr):Rs Tr:=if oa ts=true then .ok (.lst (cO ts))else .bad
def i_:List Tr->Rs Tr
 |[.lst ts]=>DP ts
 |[.tup ts]=>DP ts
 |_=>.bad
theorem oz{ts:List Tr}{vs:List V}{K:PySem.W.Frag}{W:Vw}(h:oa ts=true)(rr:aL K W vs ts):aL K W ((cf (ts.map eE)).map fun i=>vs.getD i .cq) (cO ts):=by
 obtain⟨_,_,nd,_⟩:=oy h;rw[<-ux nd];refine vd fun i hi=>?_
 have hit:=di hi;rw[aj]at hit;obtain⟨v,ev,rv⟩:=rr.get (aI hit);rw[bJ,bJ,ev,aI hit];exact rv
theorem uy(I:Inv X pins σ H s){ts:List Tr}{vs:List V}{us:List Value}(h:oa ts=true)(rr:aL X.K (aQ B H) vs ts)(rv:Vals vs us):us.length=(ts.map eE).length/\∀(i:Nat) (v:Value) (k:List Int),us[i]?=some v->(ts.map eE)[i]?=some k->TK s.heap v k:=by
 obtain⟨hk,_,_,_⟩:=oy h;refine⟨by rw[aj,<-rr.length,rv.length],fun i v k e1 e2=>?_⟩;rw[aJ]at e2;cases et:ts[i]? with
 |none=>rw[et]at e2;cases e2
 |some t=>
  rw[et]at e2;cases e2;obtain⟨w',ew,kY⟩:=rr.get et;obtain⟨u,eu,ru⟩:=rv.get ew;rw[e1]at eu;cases eu;exact J7 I kY (hk t (bM et)) ru
theorem BG(hu:X.A.units+4<cLine):g9 X (.builtin "sorted") i_:=by
 intro pins s σ H xs us Q I rv ⟨B,ts,hb,r,q⟩;have key:∃tr nZ,ts=[tr]/\(tr=.lst nZ\/tr=.tup nZ)/\oa nZ=true/\∀v H',au H H'->Rep X.K (aQ B H') v (.lst (cO nZ))->Q v H':=by
  unfold i_ at q;split at q
  ·obtain⟨h0,z⟩:=fh (show Fi X H (if oa _=true then _ else _) _ from q);exact⟨_,_,rfl,.inl rfl,h0,z⟩
  ·obtain⟨h0,z⟩:=fh (show Fi X H (if oa _=true then _ else _) _ from q);exact⟨_,_,rfl,.inr rfl,h0,z⟩
  ·exact(show False from q).elim
 obtain⟨tr,nZ,rfl,RO,ok,k⟩:=key;obtain⟨x,rfl,h⟩:=gs r;obtain⟨u,rfl,ru⟩:=vals1 rv;have src:∃(a:Addr) (vs:List V) (tn:String) (o:Obj) (aY:List Value) (n:Nat),x=.ref a/\(tn="list"\/tn="tuple")/\aL X.K (aQ B H) vs nZ/\Vals vs aY/\s.heap.get? a=some o/\o.cls=.type tn/\o.data=.seq aY.toArray n:=by
  rcases RO with rfl|rfl
  ·obtain⟨a,vs,rfl,h,rr⟩:=h.lst_inv;obtain⟨z0,aY,n0,uq,hx⟩:=(show bu X.prog X.w H s.heap a (.lst vs)from I.bQ a _ (gm h));exact⟨a,vs,"list",_,aY,n0,rfl,.inl rfl,rr,uq,hx,rfl,rfl⟩
  ·obtain⟨a,vs,rfl,h,rr⟩:=h.j8;obtain⟨_,aY,uq,o,hx,c1,n0,c2,c3⟩:=(show bu X.prog X.w H s.heap a (.tup vs)from I.bQ a _ (aG _ _ h));exact⟨a,vs,"tuple",o,aY,n0,rfl,.inr rfl,rr,uq,hx,c1,c2⟩
 obtain⟨a,vs,tn,o,aY,n,rfl,NR,rr,uq,ho,hc,hd⟩:=src;cases(show u=Value.ref a from ru);obtain⟨_,z9,nd,same⟩:=oy ok;obtain⟨hl,ht⟩:=uy I ok rr uq;have hz:aY.length<=64:=by rw[hl,aj];omega
 refine call_function_entry kind_sorted plain_sorted entry_sorted (args_sorted1 _) ?_
 unfold Builtin.«sorted»;refine aa (m:=checkCount "sorted" 1 1 _) (af ?_);refine aa (wpAny_collect_seq a NR ho hc hd (fun h1 BF=>?_) (by simpa using bp hz (by decide)));refine aa (iI ?_ (by simpa using bp hz (by decide)));have BZ:(h1.push (seqObj "list" aY.toArray 0)).get? h1.objs.size=some (seqObj "list" aY.toArray 0):=aU _ rfl;refine aa (cV (dy slot_list_sort ⟨_,BZ,rfl⟩ mI (lL (tk:=s.toks) (d:=s.drawn) hu I BF uq hl ht nd (by rw[aj];exact z9) same (fun D hD=>k _ _ (au.upd hD) (.wy hb hD (oz ok rr))) fun s' he=>⟨_,rfl,af ⟨_,rfl,he⟩⟩) (args_list_sort _)))
end
end L2
namespace L2
open PySem PySem.Spec PyProof.Rows
section
variable {prog:Program}{w:World}{A:Around}{R:Result->Shared->Prop}{I S:Addr}{fp:List Addr}{n:Nat}{P:Nat->Value->Prop}{St:Nat->Heap->Prop}
theorem BH(hu:A.units+1<cLine)(W:Walks prog w A.in1 I fp [I] n P St)(PZ:S∉fp)(val:Nat->List Key×Addr)(J9:∀i v,P i v->v=.ref (val i).2)(hn:n<=18){h0:Heap}(R':h0.get? S=none)(RK:h0.get? I=none)
  (FJ:∀i,i<n->∀h':Heap,(∀b o,h0.get? b=some o->h'.get? b=some o)->(tupleKind (az prog w)).is h' (val i).1 (val i).2) (fA:∀i j,i<n->j<n->i≠j->(val i).1≠(val j).1):
  ∀(k i:Nat) (s:Shared),n - i=k->i<=n->St i s.heap->(∀b o,h0.get? b=some o->s.heap.get? b=some o)->nk prog w s.heap S ((List.range i).map val)->
   (∀h' tk,(∀b o,b≠S->b≠I->s.heap.get? b=some o->h'.get? b=some o)->nk prog w h' S ((List.range n).map val)->R (.ok (.ret .none)) {s with heap:=h',toks:=tk})->
   codeAny (model prog w) A (.builtin "set.update.loop" ⟨[.ref S,.ref I],[]⟩) R s:=by
 have Wy:I∈fp:=W.sub I (by simp);have Uc:S≠I:=fun e=>PZ (e▸Wy);have nS:∀{b:Addr} {o:Obj},h0.get? b=some o->b≠S:=fun{b o} e z=>by rw[z,R']at e;cases e
 have nI:∀{b:Addr} {o:Obj},h0.get? b=some o->b≠I:=fun{b o} e z=>by rw[z,RK]at e;cases e
 intro k
 induction k with
 |zero=>
  intro i s hk hi eJ Ud hS hR;have j5:i=n:=by omega
  subst j5;refine fQ F.entry_set_update_loop ?_
  rw[gv qK _];show wpAny _ A.in1 (pyNext (.ref I)>>=_) _ _ s;refine aa (W.done s _ _ eJ fun h' tk kk=>?_);show wpAny _ A.in1 (ret Value.none) _ _ _;exact af (hR h' tk (fun b o _ h2 e=>kk b o (by simpa using h2) e) (hS.keep fun o e=>kk S o (by simpa using Uc) e))
 |succ k ih=>
  intro i s hk hi eJ Ud hS hR;have fc:i<n:=by omega
  refine fQ F.entry_set_update_loop ?_
  rw[gv qK _];show wpAny _ A.in1 (pyNext (.ref I)>>=_) _ _ s;refine aa (W.item i s _ _ fc eJ fun v h1 pE hP Sa kk=>?_);have ev:=J9 i v hP;subst ev;have Sb:∀b o,h0.get? b=some o->h1.get? b=some o:=fun b o e=>kk b o (by simpa using nI e) (Ud b o e);have RY:nk prog w h1 S ((List.range i).map val):=hS.keep fun o e=>kk S o (by simpa using Uc) e;have J_:=FJ i fc h1 Sb;show wpAny _ A.in1 (holding [.ref (val i).2] (setAdd S (.ref (val i).2))>>=_) _ _ _;refine aa (cV ?_);unfold setAdd;refine cV ?_
  refine aa ((tupleKind (az prog w)).pyHash (s:={s with heap:=h1,toks:=pE}) (jf hu) J_ ?_);refine R3 (s:={s with heap:=h1,toks:=pE+(tupleKind (az prog w)).draws (val i).1}) hu RY (by rw[aj,gx];omega) J_ (fun p hp=>?_) fun h2 sb Ue=>?_
  ·obtain⟨j,hj,rfl⟩:=bg.mp hp;have hj:=cI.mp hj;exact⟨FJ j (by omega) h1 Sb,fA j i (by omega) fc (by omega)⟩
  have FI:∀b o,b≠S->h1.get? b=some o->h2.get? b=some o:=fun b o hb e=>(sb.2 b hb).trans e;have er:(List.range i).map val++[((val i).1,(val i).2)]=(List.range (i+1)).map val:=by rw[qU,dP];rfl
  rw[er]at Ue;refine af ⟨eX qK _,ih (i+1) _ (by omega) fc (W.frame _ _ _ Sa fun b hb o e=>FI b o (fun z=>PZ (z▸hb)) e) (fun b o e=>FI b o (nS e) (Sb b o e)) Ue fun h' tk Wz J'=>?_⟩;exact hR h' tk (fun b o va E4 e=>Wz b o va E4 (FI b o va (kk b o (by simpa using E4) e))) J'
end
end L2
namespace PySem
section
variable {prog:Program}{w:World}{A:Around}{E:Value->Shared->Prop}{s:Shared}
set_option maxHeartbeats 3200000 in
theorem DQ{l:Addr}{items:Array Value}{val:Nat->List L2.Key×Addr}{Q:Value->Shared->Prop}(hu:A.units+6<cLine)(hh:A.handled=none)(hl:s.heap.IsList l items)(hv:∀(i:Nat) (v:Value),items[i]?=some v->v=.ref (val i).2)(hn:items.size<=18)
  (FJ:∀i,i<items.size->∀h':Heap,(∀b o,s.heap.get? b=some o->h'.get? b=some o)->(tupleKind (L2.az prog w)).is h' (val i).1 (val i).2) (fA:∀i j,i<items.size->j<items.size->i≠j->(val i).1≠(val j).1)
  (h:∀(h':Heap) (tk:Nat),L2.nk prog w h' s.heap.objs.size ((List.range items.size).map val)->(∀b o,b<s.heap.objs.size->s.heap.get? b=some o->h'.get? b=some o)->Q (.ref s.heap.objs.size) {s with heap:=h',toks:=tk}):
  wpAny (model prog w) A (call (.type "set") [.ref l]) Q E s:=by
 obtain⟨c,tl,WA⟩:=fW.mro;have Ug:=fW.made;have Jp:=fW.sub;refine wpAny_call (codeAny_of_tree ?_);show wpAny _ _ (callAny (.type "set") _) _ _ _;refine af ⟨Code.quiet_builtin _ (by decide+kernel),fQ F.entry_type_call ?_⟩;rw[Around.under_plain (weight_type_call_type "set" [.ref l] []) rfl];have h1:=fW.notType;have h2:=fW.canCreate;have XC:=F.typeCall_set_1 (.ref l)
 repeat(any_goals (first|assumption|wp_step))
 refine fV (C3 (.ref l) (E:=E) (Q₁:=fun obj bV=>obj=.ref s.heap.objs.size/\bV={s with heap:=s.heap.push {cls:=.type "set",dict:=none,data:=.set #[] 0 (.fresh 0 0 (!L2.vM w))}}) ⟨rfl,rfl⟩) fun r bV hr=>?_
 cases r with
 |error e=>exact hr
 |ok fl=>
  cases fl with
  |ret obj=>
   obtain⟨rfl,rfl⟩:=hr;generalize Sd:({cls:=.type "set",dict:=none,data:=.set #[] 0 (.fresh 0 0 (!L2.vM w))}:Obj)=ob;have hS:(s.heap.push ob).get? s.heap.objs.size=some ob:=aU _ (by rw[<-Sd];rfl);have hT:Shared.TypeIs {s with heap:=s.heap.push ob} (.ref s.heap.objs.size) "set":=⟨_,hS,by rw[<-Sd]⟩;have RM:=fW.init.lookup;have XD:=fW.init.bind (.ref s.heap.objs.size)
   repeat(any_goals (first|assumption|wp_step))
   refine fV (codeAny_call_builtin (R:=wants (fun r nR=>r=.none/\∃h' tk,nR={s with heap:=h',toks:=tk}/\L2.nk prog w h' s.heap.objs.size ((List.range items.size).map val)/\
     (∀b o,b<s.heap.objs.size->s.heap.get? b=some o->h'.get? b=some o)) E) fW.init.plain F.entry_set_init (check_set_init_1 hT ?_)) fun Se nR DR=>?_
   ·obtain⟨ol,K',ya,nl,La⟩:=hl;obtain⟨WB,Oa,Uh,Ka⟩:=ol;simp only at ya La;subst ya;subst La;have Sf:(s.heap.push ob).get? l=some {cls:=.type "list",dict:=Oa,data:=.seq items nl,slots:=Ka}:=aD _ K';have WC:=F.sub_list_set;have WD:=F.sub_list_frozenset;have WE:(Value.type "list"==Value.type "dict")=false:=by decide
    have EC:(s.heap.push ob).IsList l items:=⟨_,Sf,rfl,nl,rfl⟩;subst Sd;unfold Builtin.«set.__init__» noKeywords Builtin.Frozenset.updateFrom;generalize WG:pyIter=PI
    wp_walk
    subst WG;refine jL EC ?_
    refine aa (wpAny_runValue ?_);have Ui:l<s.heap.objs.size:=ax K';have WH:A.in1.in1.in1.handled=none:=by simp[hh]
    generalize hsz:(s.heap.push {cls:=.type "set",dict:=none,data:=.set #[] 0 (.fresh 0 0 (!L2.vM w))}).objs.size=I at*;have Gg:I=s.heap.objs.size+1:=by rw[<-hsz,gW]
    have Sg:l≠I:=by rw[Gg];exact aS (iB Ui)
    have PZ:s.heap.objs.size∉[I,l]:=by
     simp only[aR,eS,dC,not_or];exact⟨by rw[Gg];exact aS (jJ _),cn Ui⟩
    refine L2.BH (h0:=s.heap) (by show A.units+1+1+1<cLine;omega) (Walks.list WH I l Sg items) PZ val hv hn (qE (aA _)) (qE (by rw[Gg];exact iJ _)) FJ fA (items.size - 0) 0 _ (by omega) (bG _) ⟨⟨_,by rw[<-hsz];exact aU _ rfl,rfl,rfl⟩,EC.push _⟩ (fun b o e=>aD _ (aD _ e)) ?R' ?hR
    case R'=>
     refine⟨_,#[],0,.fresh 0 0 (!L2.vM w),aD _ hS,⟨rfl,rfl,rfl⟩,rfl,List.Perm.refl _,⟨rfl,.inl rfl,(fun x hx=>by cases hx),rfl,(show 0*5<7*3 by decide),List.Pairwise.nil⟩,?_⟩;show L2.vM w=true\/(!L2.vM w)=true;cases L2.vM w<;>simp
    case hR=>
     intro h' tk hk J';show wpAny _ _ _ _ _ _;refine af ?_
     show wpAny _ _ (ret Value.none) _ _ _;refine af ⟨rfl,h',tk,rfl,J',fun b o hb e=>?_⟩;exact hk b o (aS hb) (by rw[Gg];exact aS (iB hb)) (aD _ (aD _ e))
   ·cases Se with
    |error e=>exact DR
    |ok Ob=>
     cases Ob with
     |ret r=>
      obtain⟨rfl,h',tk,rfl,J',Ge⟩:=DR
      repeat(any_goals (first|assumption|wp_step))
      exact h _ _ J' Ge
     |_=>exact DR.elim
  |_=>exact hr.elim
end
end PySem
namespace L2
open PySem PySem.Spec PySem.Calls PyProof.Rows
def Aa(w:World)(a:Addr)(vs:List Value):HO:=.ext fun h=>pF w h a vs
theorem nk.toV {prog:Program}{w:World}{h:Heap}{a:Addr}{xs:List (List Key×Addr)}(x:nk prog w h a xs):pF w h a (xs.map fun p=>Value.ref p.2):=by
 obtain⟨o,es,ep,t,ho,hex,hd,hp,tk,hl⟩:=x;refine⟨o,es,ep,t,es.toList,ho,hex,hd,(r_ _).symm,?_,trivial,?_,tk.fits,hl,tk.rise⟩
 ·have q:=hp.map (·.2);rw[bj]at q;exact q
 ·have:=tk.PR;rcases tk.ms with e|e<;>rw[e]at this<;>(show es.size<4096;omega)
section
variable {X:Cx}
theorem BI(hu:X.A.units+6<cLine)(hc:X.calm=true):e8 X (.type "set") (fun xs H Q=>∃(p:Addr) (ts:List (List Key×Addr)),xs=[.ref p]/\iN X.K H p (ts.map fun t=>V.ref t.2)/\(∀t∈ts,H t.2=some (.tup (t.1.map kV)))/\(ts.map (·.1)).Nodup/\ts.length<=18/\∀a,H a=none->Q (.ref a) (upd H a (Aa X.w a (ts.map fun t=>Value.ref t.2)))):=by
 intro pins s σ H xs us Q I r h;obtain⟨p,ts,rfl,hl,hk,nd,hb,q⟩:=h;obtain⟨u,rfl,ru⟩:=vals1 r;cases(show u=Value.ref p from ru);obtain⟨aY,rv,pl,hz⟩:=I.list hl;have hlen:aY.length=ts.length:=by have e:=rv.length;rw[aj]at e;exact e.symm
 have hsz:aY.toArray.size=ts.length:=by rw[bf];exact hlen
 have gi:∀i,i<ts.length->ts.getD i ([],0)=ts[i]! :=fun i hi=>by simp[hi]
 have gd:∀i (hi:i<ts.length),ts.getD i ([],0)=ts[i]:=fun i hi=>by rw[bJ,aI hi];rfl
 refine DQ (val:=fun i=>ts.getD i ([],0)) hu (I.ok.hd hc) pl.isList (fun i v hv=>?_) (by rw[hsz];exact hb) (fun i hi=>?_) (fun i j hi hj sL=>?_) fun h' tk hS BF=>?_
 ·have Uj:aY[i]?=some v:=by simpa using hv
  have hi:i<ts.length:=by rw[<-hlen];exact(dt.mp Uj).1
  obtain⟨u,HC,ru⟩:=rv.get (i:=i) (x:=V.ref ts[i].2) (by rw[aJ,aI hi];rfl);rw[Uj]at HC;cases HC;rw[gd i hi];exact ru
 ·rw[hsz]at hi;rw[gd i hi];exact gf (j3 I.bQ (hk _ (iE hi)))
 ·rw[hsz]at hi hj;rw[gd i hi,gd j hj];intro e;have q:(ts.map (·.1))[i]'(by rw[aj];exact hi)=(ts.map (·.1))[j]'(by rw[aj];exact hj):=by rw[iF,iF,e]
  exact sL ((gO nd).mp q)
 ·rw[hsz,dI]at hS;have hV:=hS.toV;have hf:H s.heap.objs.size=none:=I.fresh;refine⟨.ref s.heap.objs.size,_,I.laid (o:=Aa X.w s.heap.objs.size (ts.map fun t=>Value.ref t.2)) (fun b o e=>BF b o (ax e) e) (aA _) ⟨hV,?_,fun h1 h2 x k=>pF.keep x k⟩,rfl,q _ hf⟩;obtain⟨o,_,_,_,_,ho,_⟩:=hV;exact⟨o,ho⟩
theorem pG(hu:X.A.units+6<cLine)(hc:X.calm=true):e8 X (.builtin "sorted") (fun xs H Q=>∃(a:Addr) (ts:List (List Int×Addr)),xs=[.ref a]/\H a=some (Aa X.w a (ts.map fun t=>Value.ref t.2))/\(∀t∈ts,t.1.length=2/\H t.2=some (.tup (t.1.map V.int)))/\(ts.map (·.1)).Nodup/\ts.length<64/\
  ∀D,H D=none->Q (.ref D) (upd H D (.lst ((cf (ts.map (·.1))).map fun i=>(ts.map fun t=>V.ref t.2).getD i .cq)))):=by
 intro pins s σ H xs us Q I r h;obtain⟨a,ts,rfl,ha,hk,nd,z9,q⟩:=h;obtain⟨u,rfl,ru⟩:=vals1 r;cases(show u=Value.ref a from ru);obtain⟨hS,_,_⟩:=(show bu X.prog X.w H s.heap a (.ext fun h=>pF X.w h a (ts.map fun t=>Value.ref t.2))from I.bQ a _ ha);refine call_function_entry kind_sorted plain_sorted entry_sorted (args_sorted1 _) ?_
 unfold Builtin.«sorted»;refine aa (m:=checkCount "sorted" 1 1 _) (af ?_);refine aa (vm (A:=X.A.in1) (I.ok.hd hc) hS (by rw[aj,bS];omega) fun h1 tk d l hp BF hle=>?_);have o8:(l.map sX).Perm (ts.map fun t=>Value.ref t.2):=hp;obtain⟨rH,e',NC⟩:=perm_back (f:=fun v:Addr=>Value.ref v) (fun v=>match v with|.ref x=>x|_=>0) (fun _=>rfl) (l:=ts.map (·.2)) (es:=l.map sX) (by rw[bj];exact o8);have WI:∀t∈ts,∀t'∈ts,t.2=t'.2->t=t':=fun t ht t' HH e=>by
  have h1:=(hk t ht).2;have h2:=(hk t' HH).2;rw[e,h2]at h1;have h3:t'.1.map V.int=t.1.map V.int:=by have z:=Option.some.inj h1;injection z
  have h4:t'.1=t.1:=by
   have inj:∀(x y:List Int),x.map V.int=y.map V.int->x=y:=by
    intro x
    induction x with
    |nil=>intro y e;cases y with|nil=>rfl|cons _ _=>cases e
    |cons a x ih=>intro y e;cases y with|nil=>cases e|cons b y=>injection e with e1 e2;injection e1 with e1;rw[e1,ih y e2]
   exact inj _ _ h3
  exact Prod.ext h4.symm e
 have ex:∃tl:List (List Int×Addr),tl.map (·.2)=rH/\tl.Perm ts:=by
  have gen:∀(ys:List Addr) (zs:List (List Int×Addr)),ys.Perm (zs.map (·.2))->∃tl:List (List Int×Addr),tl.map (·.2)=ys/\tl.Perm zs:=by
   intro ys
   induction ys with
   |nil=>intro zs h;have:=h.length_eq;rw[aj]at this;cases zs with|nil=>exact⟨[],rfl,.refl _⟩|cons _ _=>cases this
   |cons y ys ih=>
    intro zs h;obtain⟨z,hz,rfl⟩:=bg.mp (h.mem_iff.mp (aW ..));obtain⟨i,hi,ei⟩:=List.getElem_of_mem hz;have pe:=jl zs i hi;have h2:(z.2::ys).Perm (z.2::(zs.eraseIdx i).map (·.2)):=by
     refine h.trans ?_
     have:=(pe.map (·.2)).symm;rw[ay,ei]at this;exact this
    obtain⟨tl,e1,e2⟩:=ih _ (List.Perm.cons_inv h2);refine⟨z::tl,by rw[ay,e1],?_⟩;rw[ei]at pe;exact(List.Perm.cons z e2).trans pe
  exact gen rH ts NC
 obtain⟨tl,et,HI⟩:=ex;have pW:l.map sX=(tl.map (·.2)).map Value.ref:=by rw[e',et]
 have Kb:(l.map sX).length=tl.length:=by rw[pW,aj,aj]
 have Uk:(tl.map (·.1)).Nodup:=(List.Perm.nodup_iff (HI.map _)).mpr nd;have Oc:tl.length<64:=by rw[HI.length_eq];exact z9
 refine aa (iI ?_ (by rw[Kb,bS];omega));have BZ:(h1.push (seqObj "list" (l.map sX).toArray 0)).get? h1.objs.size=some (seqObj "list" (l.map sX).toArray 0):=aU _ rfl;have uq:Vals (tl.map fun t=>V.ref t.2) (l.map sX):=by
  rw[pW]
  clear pW Kb Uk Oc et HI
  induction tl with
  |nil=>exact .nil
  |cons t tl ih=>exact .cons rfl ih
 refine aa (cV (dy slot_list_sort ⟨_,BZ,rfl⟩ mI (lL (Q:=Q) (tk:=tk) (d:=d) (by omega) I BF uq (ks:=tl.map (·.1)) (by rw[Kb,aj]) (fun i v k e1 e2=>?_) Uk (by rw[aj];exact Oc) (fun k WJ k' FI=>?_) (fun D hD=>?_) fun s' he=>⟨_,rfl,af ⟨_,rfl,he⟩⟩) (args_list_sort _)))
 ·rw[pW,aJ,aJ]at e1;rw[aJ]at e2;cases eq:tl[i]? with
  |none=>rw[eq]at e2;cases e2
  |some t=>
   rw[eq]at e1 e2;cases e1;cases e2;have hm:t∈ts:=HI.mem_iff.mp (bM eq);obtain⟨h2,h3⟩:=hk t hm;obtain⟨sW,ta⟩:=t
   match sW,h2,h3 with
   |[x,y],_,h3=>
    obtain⟨aY,B7,⟨o,g1,g2,n,g3⟩,_⟩:=I.tuple (.inl (.inl h3));obtain⟨u1,u2,rfl,⟨t1,rfl⟩,⟨t2,rfl⟩⟩:=vals2 B7;exact⟨ta,o,t1,t2,n,rfl,g1,g2,g3⟩
 ·obtain⟨t,ht,rfl⟩:=bg.mp WJ;obtain⟨t',HH,rfl⟩:=bg.mp FI;rw[(hk t (HI.mem_iff.mp ht)).1,(hk t' (HI.mem_iff.mp HH)).1]
 ·
  have eqs:((cf (tl.map (·.1))).map fun i=>(tl.map fun t=>V.ref t.2).getD i .cq)=(cf (ts.map (·.1))).map fun i=>(ts.map fun t=>V.ref t.2).getD i .cq:=by
   have key:∀zs:List (List Int×Addr),((cf (zs.map (·.1))).map fun i=>(zs.map fun t=>V.ref t.2).getD i .cq)=((cf (zs.map (·.1))).map fun i=>zs.getD i ([],0)).map fun t=>V.ref t.2:=fun zs=>by
    rw[bj];refine eO fun i hi=>?_
    have uZ:=di hi;rw[aj]at uZ;show(zs.map fun t=>V.ref t.2).getD i .cq=V.ref (zs.getD i ([],0)).2;rw[bJ,bJ,aJ,aI uZ];rfl
   rw[key,key];congr 1;have pr:∀zs:List (List Int×Addr),((cf (zs.map (·.1))).map fun i=>zs.getD i ([],0)).Perm zs:=fun zs=>by
    have q:=(dH (zs.map (·.1))).map fun i=>zs.getD i ([],0);rw[aj,dI]at q;exact q
   have pw:∀zs:List (List Int×Addr),((cf (zs.map (·.1))).map fun i=>zs.getD i ([],0)).Pairwise fun a b=>ox a.1 b.1=true:=fun zs=>by
    rw[iC];refine(kB (zs.map (·.1))).imp_of_mem fun{i j} hi hj e=>?_
    have uZ:=di hi;have wW:=di hj;rw[aj]at uZ wW;rw[bJ,bJ,aJ,aJ,aI uZ,aI wW]at e;rw[bJ,bJ,aI uZ,aI wW];exact e
   refine jD (le:=fun a b=>ox a.1 b.1=true) (fun a b ha hb h1 h2=>?_) (pw tl) (pw ts) ((pr tl).trans (HI.trans (pr ts).symm));have dB:a∈ts:=HI.mem_iff.mp ((pr tl).mem_iff.mp ha);have jC:b∈ts:=(pr ts).mem_iff.mp hb;have e:=i9 h1 h2;obtain⟨i,hi⟩:=jF dB;obtain⟨j,hj⟩:=jF jC;obtain⟨R8,N9⟩:=dt.mp hi;obtain⟨R9,N_⟩:=dt.mp hj;have q:(ts.map (·.1))[i]'(by rw[aj];exact R8)=(ts.map (·.1))[j]'(by rw[aj];exact R9):=by
    rw[iF,iF,N9,N_,e]
   have z:=(gO nd).mp q;subst z;rw[<-N9,<-N_]
  rw[eqs];exact q D hD
end
end L2
namespace L2
open PySem PySem.Spec PySem.Calls PyProof.Rows
def dS:Tr->Rs Tr
 |.lst ts=>if oa ts=true/\ts.length<=18/\(ts.all fun t=>(eE t).length==2)=true then .ok (.lst (cO ts))else .bad
 |_=>.bad
theorem xu{K:PySem.W.Frag}{B:bP}{H:Hp}:∀{vs:List V} {ts:List Tr},aL K (aQ B H) vs ts->(∀t∈ts,B_ t=some (eE t)/\(eE t).length=2)->∃tl:List (List Int×Addr),vs=(tl.map fun t=>V.ref t.2)/\tl.map (·.1)=ts.map eE/\∀t∈tl,t.1.length=2/\H t.2=some (.tup (t.1.map V.int))
 |[],_,r,_=>by cases r;exact⟨[],rfl,rfl,fun t m=>nomatch m⟩
 |v::vs,t::ts,r,hk=>by
  cases r with
  |cons h r=>
   obtain⟨tl,e1,e2,e3⟩:=xu r fun t m=>hk t (aV _ m);obtain⟨q1,q2⟩:=hk t (aW ..);unfold B_ at q1;split at q1
   ·obtain⟨ad,us,rfl,hq,rr⟩:=h.j8;obtain⟨x1,x2,rfl,r1,r2⟩:=rA rr;cases r1.int_inv;cases r2.int_inv;refine⟨(eE _,ad)::tl,by rw[e1];rfl,by rw[ay,ay,e2],fun t m=>?_⟩;rcases aR.mp m with rfl|m
    ·exact⟨q2,aG _ _ hq⟩
    ·exact e3 t m
   ·rw[<-Option.some.inj q1]at q2;cases q2
   ·cases q1
section
variable {X:Cx}{l:Expr}{p1 p2 Ju Jv:Pos}{F:av->Rs Tr}
theorem Gh(hu:X.A.units+6<cLine)(hs:X.mg "sorted"=none)(hm:X.mg "set"=none)(hl:PE X l (tP X F))(hc:X.calm=true:=by rfl) (hg:Gl X "sorted":=by rfl) (N8:Gl X "set":=by rfl) (eJ:bq [l]=true:=by rfl):
  PE X (.Call (.Name "sorted" p1) [.Call (.Name "set" p2) [l] [] Jv] [] Ju) (tP X fun ρ=>(F ρ).bind dS):=
 (v8 (pG hu hc) hg hs rfl (kN (iP (BI hu hc) N8 hm rfl (kN hl nT (br _ _ (aO eJ).1)) (by decide) (by decide) (br _ _ (aO eJ).1) (cy (aO eJ).2)) nT (br _ _ rfl)) (by decide) (by decide) (br _ _ rfl) (cy (es:=[]) rfl)).weak fun σ H Q ⟨B,ρ,hb,r,q⟩=>⟨B,ρ,hb,r,q.bind.mono fun t qt v H1 s1 rv=>by
  have key:∃ts,t=.lst ts/\oa ts=true/\ts.length<=18/\(ts.all fun t=>(eE t).length==2)=true/\∀v H',au H H'->Rep X.K (aQ B H') v (.lst (cO ts))->Q v H':=by
   unfold dS at qt;split at qt
   ·obtain⟨⟨h0,h1,h2⟩,z⟩:=fh qt;exact⟨_,rfl,h0,h1,h2,z⟩
   ·exact qt.elim
  obtain⟨ts,rfl,ok,WK,h2,k⟩:=key;obtain⟨a,vs,rfl,h,rr⟩:=rv.lst_inv;obtain⟨hk,z9,nd,_⟩:=oy ok;have WL:=rr;obtain⟨tl,ev,ek,et⟩:=xu rr fun t m=>⟨hk t m,eq_of_beq (bw.mp h2 t m)⟩;have Ul:tl.length=ts.length:=by have z:=bT List.length ek;rw[aj,aj]at z;exact z
  refine⟨a,tl.map fun t=>(t.1.map Sum.inl,t.2),rfl,?_,fun t m=>?_,?_,by rw[aj,Ul];exact WK,fun sa N7=>⟨sa,tl,rfl,?_,fun t m=>?_,by rw[ek];exact nd,by rw[Ul];exact z9,fun D hD=>?_⟩⟩
  ·rw[bj];have:(tl.map fun t=>V.ref t.2)=vs:=ev.symm;refine .of (gm (B:=B) ?_);rw[h,<-this];rfl
  ·obtain⟨t',m',rfl⟩:=bg.mp m;have e:=(et t' m').2;rw[bj];exact e
  ·rw[bj];have:(tl.map ((fun x:List Key×Addr=>x.1)∘fun t:List Int×Addr=>(t.1.map Sum.inl,t.2)))=(tl.map (·.1)).map (List.map Sum.inl):=by rw[bj];rfl
   rw[this,ek];refine List.Pairwise.map _ (fun x y fA e=>fA ?_) nd;have inj:∀(x y:List Int),(x.map Sum.inl:List Key)=y.map Sum.inl->x=y:=by
    intro x
    induction x with
    |nil=>intro y e;cases y with|nil=>rfl|cons _ _=>cases e
    |cons a x ih=>intro y e;cases y with|nil=>cases e|cons b y=>injection e with e1 e2;injection e1 with e1;rw[e1,ih y e2]
   exact inj _ _ e
  ·rw[aH,bj];rfl
  ·exact⟨(et t m).1,au.upd N7 _ _ (et t m).2⟩
  ·have s2:au H1 (upd H1 sa (Aa X.w sa ((tl.map fun t=>((t.1.map Sum.inl:List Key),t.2)).map fun t=>Value.ref t.2))):=au.upd N7;refine k _ _ ((s1.trans s2).trans (au.upd hD)) (.wy ((hb.same s1).same s2) hD ?_);rw[ek,<-ev];exact(oz ok WL).same (ba s2)⟩
theorem Gi(hu:X.A.units+6<cLine)(hs:X.mg "sorted"=none)(hm:X.mg "set"=none)(hl:QE X l F)(hc:X.calm=true:=by rfl) (hg:Gl X "sorted":=by rfl) (N8:Gl X "set":=by rfl) (eJ:bq [l]=true:=by rfl):
  QE X (.Call (.Name "sorted" p1) [.Call (.Name "set" p2) [l] [] Jv] [] Ju) (fun ρ=>(F ρ).bind dS):=⟨Gh hu hs hm hl.h hc hg N8 eJ⟩
end
end L2
namespace L2
open PySem PySem.Spec PySem.Calls PyProof.Rows
section
variable {prog:Program}{w:World}
theorem BJ{A:Around}(hh:A.handled=none)(I d:Addr)(fA:d≠I){o:Obj}{es:Array DictEntry}{ep:Nat}(hd:o.data=.dict es ep):
  Walks prog w A I [I,d] [I] es.size (fun i v=>∃e,es[i]?=some e/\v=e.key) (fun i h=>h.IsKeyIter I d i es.size ep/\h.get? d=some o) where
 sub:=fun b hb=>by simp at hb;simp[hb]
 frame:=fun _ _ _ st hk=>⟨st.1.at fun o e=>hk I (by simp) o e,hk d (by simp) _ st.2⟩
 item:=fun i s Q E hi st hQ=>by
  refine w_ st.1 st.2 hd hi fun h' RN sb=>?_
  exact hQ _ h' s.toks ⟨es[i],du hi,rfl⟩ ⟨RN,(sb.2 d fA).trans st.2⟩ fun b o hb e=>sb.extBut b o (fun h=>hb (by simp[h])) e
 done:=fun s Q E st hQ=>zS hh st.1 st.2 hd (aA _) fun h' eb=>hQ h' s.toks fun b o hb e=>eb b o (fun h=>hb (by simp[h])) e
 self:=fun _ _ _ _ st hQ=>wpAny_pyIter_keyiter st.1 hQ
theorem DT{d:Addr}{o:Obj}{es:Array DictEntry}{ep:Nat}(lo:(d==sysModules)=false)(hc:o.cls=.type "dict")(hd:o.data=.dict es ep):PySem.W.KdlSrc prog w "dict" d d es.size (fun i v=>∃e,es[i]?=some e/\v=e.key) (fun h=>h.get? d=some o) where
 type:=fun _ hm=>⟨o,hm,hc⟩
 there:=fun _ hm=>⟨ax hm,ax hm⟩
 keep:=fun _ _ hm hk=>hk d (.inl rfl) o hm
 notList:=by decide
 notTuple:=by decide
 hint:=fun _ _ _ _ hm hq=>PySem.W.kdl_hint_dict ⟨o,hm,hc⟩ hq
 iter:=fun _ _ hh hm=>⟨_,_,(fun _ _ hq=>w8 ⟨o,hm,hc⟩ lo hm hd hq),BJ hh _ d (aS (ax hm)) hd,⟨⟨_,aU _ rfl,rfl,rfl⟩,aD _ hm⟩⟩
theorem jn{A:Around}{E:Value->Shared->Prop}{s:Shared}{a:Addr}{o:Obj}{es:Array DictEntry}{ep:Nat}{R:List Value->Shared->Prop}(hh:A.handled=none)(lo:(a==sysModules)=false)(hm:s.heap.get? a=some o)(hc:o.cls=.type "dict")(hd:o.data=.dict es ep)(hn:es.size<=sizeLine)
  (h:∀(h':Heap) (tk:Nat),(∀b o,s.heap.get? b=some o->h'.get? b=some o)->R (es.toList.map (·.key)) {s with heap:=h',toks:=tk}):wpAny (model prog w) A (collect (.ref a)) R E s:=by
 have fc:a<s.heap.objs.size:=ax hm;have items:∀(acc:Array Value),ItemsOf (fun i v=>∃e,es[i]?=some e/\v=e.key) acc es.size->acc.toList=es.toList.map (·.key):=fun acc hi=>by
  refine qJ fun i=>?_
  rw[aJ,cQ,cQ];cases e:acc[i]? with
  |none=>
   have h1:acc.size<=i:=lV.mp e;rw[hi.1]at h1;rw[lV.mpr h1];rfl
  |some v=>
   obtain⟨x,ex,ev⟩:=hi.2 i v e;rw[ex,ev];rfl
 unfold collect;refine aa (wpAny_runValue (fQ entry_proto_collect' ?_));rw[gv vQ _];show wpAny _ A.in1 (newList []>>=fun l=>again (.builtin "list.__iadd__" ⟨[l,.ref a],[]⟩)) _ _ s;refine aa (eQ ?_);refine af ⟨eX lZ _,fQ entry_list_iadd' ?_⟩;rw[gv lZ _];have hL:(s.heap.push {cls:=.type "list",data:=.seq ([]:List Value).toArray}).get? s.heap.objs.size=some {cls:=.type "list",data:=.seq #[]}:=aU _ rfl;show wpAny _ A.in1 (Builtin.List.listExtendWith (.ref s.heap.objs.size) (.ref a) (.ref s.heap.objs.size)) _ _ _;have key:=PySem.W.kdl_extend (prog:=prog) (w:=w) (A:=A) (s:={s with heap:=s.heap.push {cls:=.type "list",data:=.seq ([]:List Value).toArray}})
  (R:=fun(q:Result) (s':Shared)=>∃(h':Heap) (tk:Nat) (h8:Array Value) (c':Nat),q=.ok (.ret (.ref s.heap.objs.size))/\s'={s with heap:=h',toks:=tk}/\
   (∀b o,s.heap.get? b=some o->h'.get? b=some o)/\h'.get? s.heap.objs.size=some {cls:=.type "list",dict:=none,data:=.seq h8 c',slots:=#[]}/\ItemsOf (fun i v=>∃e,es[i]?=some e/\v=e.key) h8 es.size)
  (DT lo hc hd) hh (aD _ hm) s.heap.objs.size (cn fc) (cn fc) (.ref s.heap.objs.size) 0 hL
  (fun h' tk h8 c' hk yG oq=>⟨h',tk,h8,c',rfl,rfl,fun b o e=>hk b o (aS (ax e)) (aD _ e),yG,oq⟩) hn
 refine dQ key (fun fin s' x=>?_) fun e s' x=>?_
 ·cases fin with
  |done f=>
   obtain⟨h',tk,h8,c',e,rfl,hk,yG,oq⟩:=x;cases e;show wpAny _ A (load s.heap.objs.size>>=_) _ _ _;refine aa (jT yG ?_);refine af ?_
   rw[items h8 oq];exact h h' tk hk
  |again c₁=>
   refine⟨x.1,fV x.2 fun q nR y=>?_⟩;obtain⟨h',tk,h8,c',rfl,rfl,hk,yG,oq⟩:=y;show wpAny _ A (load s.heap.objs.size>>=_) _ _ _;refine aa (jT yG ?_);refine af ?_
   rw[items h8 oq];exact h h' tk hk
 ·obtain⟨_,_,_,_,e',_⟩:=x;cases e'
end
end L2
namespace L2
open PySem PySem.Spec PySem.Calls PyProof.Rows
theorem oA{prog:Program}{w:World}{h h':Heap}{d:Addr}{xs:List (List Key×Addr×Value)}(k:∀b o,h.get? b=some o->h'.get? b=some o)(x:h.DictOfH (tupleKind (az prog w)) d xs):h'.DictOfH (tupleKind (az prog w)) d xs:=by
 obtain⟨o,es,ep,e1,e2,e3,e4,e5,e6⟩:=x;exact⟨o,es,ep,k _ _ e1,e2,e3,e4,fun x hx=>gf (e5 x hx) h' k,e6⟩
abbrev BK(d x:Str)(p1 p2 p3 p4 p5:Pos)(n1:Nat):Expr:=.Tuple [.Subscript (.Name d p1) (.Name x p2) p3,.Name x p4] n1 p5
structure DU(scope:Scope)(d x:Str):Prop where
 kind:scope.kind=.function
 co:scope.isCoroutine=false
 gen:scope.isGenerator=false
 lx:scope.names.lookup x=some .local
 ld:scope.names.lookup d=some .free
 uR:∀y∈scope.names,y.2≠ .cell
 dx:(x==("__debug__":Str))=false
 dd:(d==("__debug__":Str))=false
 dc:(d==("__classdict__":Str))=false
section
variable {prog:Program}{w:World}{A:Around}{E:Value->Shared->Prop}{s:Shared}
theorem DV{f c' cell da b:Addr}{nm qual:Str}{params:Arguments}{scope:Scope}{pH:List (Str×Addr)}{pm yH:Value}{d x:Str}{p1 p2 p3 p4 p5:Pos}{n1:Nat}{xs:List (List Key×Addr×Value)}{k:List Key}{pv:Addr×Value}{Q:Value->Shared->Prop}
  (hu:∀env:Env,(A.deeper env).units+1<cLine) (Od:A.depth<recursionLimit) (IK:s.heap.NoLimit)
  (ho:s.heap.get? f=some (PySem.W.kla_obj nm qual params (BK d x p1 p2 p3 p4 p5 n1) scope pH pm c' yH)) (o7:s.heap.CodeRec (.ref c') qual)
  (hb:∀v,bindArgs (PySem.W.kla_fn nm qual params (BK d x p1 p2 p3 p4 p5 n1) scope pH pm (.ref c') yH) ⟨[v],[]⟩=pure [(x,v)]) (S:DU scope d x)
  (ya:pH.lookup d=some cell) (J9:s.heap.IsCell cell (some (.ref da))) (hm:s.heap.DictOfH (tupleKind (az prog w)) da xs) (hk:(tupleKind (az prog w)).is s.heap k b) (hp:atKey xs k=some pv)
  (h:∀h' tk tp,(∀b o,s.heap.get? b=some o->h'.get? b=some o)->s.heap.objs.size<=tp->h'.get? tp=some {cls:=.type "tuple",data:=.seq #[pv.2,.ref b]}->Q (.ref tp) {s with heap:=h',toks:=tk}):
  wpAny (model prog w) A (call (.ref f) [.ref b]) Q E s:=by
 refine wpAny_call (PySem.W.kla_callFunE Od ho rfl S.co S.gen rfl o7 ?_);rw[hb];refine af (wpAny_newFunctionEnv S.uR (fun y hy=>by rw[cv.mp hy];exact S.lx) (fun dD AU CJ=>?_) S.kind);have xv:∀b o,s.heap.get? b=some o->dD.get? b=some o:=fun b o e=>CJ.extBut b o (aS (ax e)) (aD _ e);refine⟨IK.fresh _ CJ,?_⟩;have Kc:dD.Ns s.heap.objs.size (fun y=>[(x,Value.ref b)].reverse.lookup y):=AU;have Um:[(x,Value.ref b)].reverse.lookup x=some (.ref b):=by simp
 have oO:dD.IsCell cell (some (.ref da)):=by obtain⟨o,e,r⟩:=J9;exact⟨o,xv _ _ e,r⟩
 refine PySem.W.kla_codeExpr (wpAny_Tuple_spliced ?_);show wpAny _ _ (spliced ((false,eval (.Subscript (.Name d p1) (.Name x p2) p3) _)::backTo p5 (starEach [.Name x p4] _))) _ _ _;refine mf (Subscript_ ?_);refine g6 (wpAny_loadName_free S.kind S.ld ya oO ?_ S.dc) S.dd;refine g6 (l_ S.kind S.lx Kc Um ?_) S.dx;refine tail_any (T:="dict") (oA xv hm).typeIs p_.lookup (wpAny_getItem_heap (jf (hu _)) (gf hk dD xv) (oA xv hm) hp ?_) rfl;show wpAny _ _ (spliced ((false,eval (.Name x p4) _)::backTo p5 (starEach [] _))) _ _ _;refine mf (g6 (l_ S.kind S.lx Kc Um ?_) S.dx);refine qW ⟨by show 2<=sizeLine;decide,?_⟩;exact h _ _ dD.objs.size (fun b o e=>aD _ (xv b o e)) (fU (bA (jJ _) (by obtain⟨o,es,ep,e,_⟩:=Kc;exact ax e))) (aU _ rfl)
end
end L2
namespace L2
open PySem PySem.Spec PySem.Calls PyProof.Rows
section
variable {prog:Program}{w:World}{A:Around}{E:Value->Shared->Prop}{s:Shared}
structure kT(s:Shared)(D kS e1:Nat)(ks:List (List Int))(kv:List Value)(h:Heap):Prop where
 old:∀b o,b≠D->s.heap.get? b=some o->h.get? b=some o
 d:h.get? D=some (seqObj "list" #[] e1)
 k:∃e,h.get? kS=some (seqObj "list" kv.toArray e)
 t:∀(i:Nat) (v:Value) (k:List Int),kv[i]?=some v->ks[i]?=some k->TK h v k
theorem kT.upd {D kS e1:Nat}{ks:List (List Int)}{kv Si:List Value}{h:Heap}{g:Array Value->Array Value}(x:kT s D kS e1 ks kv h)(hn:s.heap.objs.size<=kS)(hD:kS≠D)(hg:g kv.toArray=Si.toArray)(ht:∀(i:Nat) (v:Value) (k:List Int),Si[i]?=some v->ks[i]?=some k->TK h v k):
  kT s D kS e1 ks Si (h.update kS (Obj.mapSeq g)):=by
 obtain⟨e,ek⟩:=x.k;have sb:=eP h kS (Obj.mapSeq g);refine⟨fun b o n q=>(sb.2 b (fun z=>?_)).trans (x.old b o n q),(sb.2 D hD.symm).trans x.d,⟨_,by rw[<-hg];exact mH ek g⟩,fun i v k e1 e2=>(ht i v k e1 e2).keep fun b o xs n hc hd q=>(sb.2 b fun z=>?_).trans q⟩
 ·rw[z]at q;exact absurd (ax q) (Nat.not_lt.mpr hn)
 ·rw[z,ek]at q;cases q;exact absurd (show Value.type "list"=Value.type "tuple"from hc) (by decide)
theorem yI{D f:Addr}{vs:List Value}{ks:List (List Int)}{n0:Nat}{P:PySem.Fin->Shared->Prop}(hu:A.units<cLine)(ho:s.heap.get? D=some (seqObj "list" vs.toArray n0))(hl:vs.length=ks.length)(z9:ks.length<64)(Gd:ks.Nodup)(xt:∀k∈ks,∀k'∈ks,k.length=k'.length)
  (Oe:∀(i:Nat) (v:Value) (k:List Int) (h1:Heap) (pE:Nat) (C:Value->Shared->Prop),vs[i]?=some v->ks[i]?=some k->(∀b o,b≠D->s.heap.get? b=some o->h1.get? b=some o)->(∀h' tk u,(∀b o,h1.get? b=some o->h'.get? b=some o)->TK h' u k->C u {s with heap:=h',toks:=tk})->
   wpAny (model prog w) A (call (.ref f) [v]) C (fun _ _=>False) {s with heap:=h1,toks:=pE})
  (h:∀h' tk c,(∀b o,b≠D->s.heap.get? b=some o->h'.get? b=some o)->h'.get? D=some (seqObj "list" ((cf ks).map fun i=>vs.getD i Value.none).toArray c)->P (.done (.ret .none)) {s with heap:=h',toks:=tk}):
  wpAny (model prog w) A (PyProof.Rows.ksk_tree D (.ref f) false) P E s:=by
 have Sj:D<s.heap.objs.size:=ax ho;have s1:=eP s.heap D (Obj.mapSeq fun _=>(#[]:Array Value));obtain⟨e1,Hn⟩:∃e1,(s.heap.update D (Obj.mapSeq fun _=>(#[]:Array Value))).get? D=some (seqObj "list" #[] e1):=⟨_,mH ho fun _=>#[]⟩;unfold PyProof.Rows.ksk_tree;refine aa (listItems_at ho rfl ?_);refine aa (iK ho rfl ?_ (by rw[bf,bS];omega) (bG _));refine aa (seqEpoch_at Hn rfl ?_);refine aa (mG ?_ (by show vs.length<=_;rw[bS];omega));refine aa (iI ?_ (bG _));refine cV ?_
 have FJ:((s.heap.update D (Obj.mapSeq fun _=>(#[]:Array Value))).push (seqObj "tuple" vs.toArray 0)).objs.size=s.heap.objs.size+1:=by rw[size_push',Heap.size_update]
 have K0:kT s D (s.heap.objs.size+1) e1 ks [] (((s.heap.update D (Obj.mapSeq fun _=>(#[]:Array Value))).push (seqObj "tuple" vs.toArray 0)).push (seqObj "list" #[] 0)):=
  ⟨fun b o n q=>aD _ (aD _ ((s1.2 b n).trans q)),aD _ (aD _ Hn),⟨0,by rw[<-FJ];exact aU _ rfl⟩,fun i v k e=>by simp at e⟩
 show wpAny (model prog w) A (PyProof.Rows.ksk_rest D (.ref f) false vs.toArray e1 (.ref ((s.heap.update D (Obj.mapSeq fun _=>(#[]:Array Value))).push (seqObj "tuple" vs.toArray 0)).objs.size)) P E {s with heap:=((s.heap.update D (Obj.mapSeq fun _=>(#[]:Array Value))).push (seqObj "tuple" vs.toArray 0)).push (seqObj "list" #[] 0)};rw[FJ];have Sk:s.heap.objs.size+1≠D:=cn (iB Sj);generalize XF:s.heap.objs.size+1=kS at K0 Sk;have Uo:s.heap.objs.size<=kS:=by omega
 generalize ((s.heap.update D (Obj.mapSeq fun _=>(#[]:Array Value))).push (seqObj "tuple" vs.toArray 0)).push (seqObj "list" #[] 0)=h0 at K0;unfold PyProof.Rows.ksk_rest;refine aa (fX ?_)
 first
  |rw[List.forIn_toArray]
  |(rw[<-ma];simp only[List.toList_toArray])
  |rw[<-ma]
 refine aa (jM _ (fun rest _ s'=>∃done kv h1 pE,vs=done++rest/\kv.length=done.length/\s'={s with heap:=h1,toks:=pE}/\kT s D kS e1 ks kv h1) _ ?_ ?_ vs PUnit.unit ⟨[],[],h0,s.toks,rfl,rfl,rfl,K0⟩)
 ·rintro x rest _ s' ⟨done,kv,h1,pE,ev,Lf,rfl,K⟩
  have hi:vs[done.length]?=some x:=by rw[ev];simp
  have Pf:done.length<ks.length:=by rw[<-hl,ev];simp
  have PQ:ks[done.length]?=some ks[done.length]:=aI Pf
  refine aa (gX (dQ (Oe done.length x _ h1 pE (fun u Ex=>∃h' tk,Ex={s with heap:=h',toks:=tk}/\(∀b o,h1.get? b=some o->h'.get? b=some o)/\TK h' u ks[done.length]) hi PQ K.old fun h' tk u kp tu=>⟨h',tk,rfl,kp,tu⟩) (fun u Ex hq=>?_) fun _ _ hF=>hF.elim));obtain⟨h',tk,rfl,kp,tu⟩:=hq;have K1:kT s D kS e1 ks kv h':=⟨fun b o n q=>kp _ _ (K.old b o n q),kp _ _ K.d,let⟨e,q⟩:=K.k;⟨e,kp _ _ q⟩,fun i v k e1 e2=>(K.t i v k e1 e2).keep fun b o _ _ _ _ q=>kp b o q⟩;obtain⟨e,ek⟩:=K1.k
  try dsimp only
  have Up:kv.length<64:=by omega
  refine aa (iK (s:={s with heap:=h',toks:=tk}) ek rfl ?_ (by rw[bf,bS];omega) (bp (Nat.le_of_eq (Array.size_push ..)) (by rw[bf,bS];omega)));refine af ⟨done++[x],kv++[u],h'.update kS (Obj.mapSeq (·.push u)),tk,by rw[ev,ib];rfl,by rw[bc,bc,Lf];rfl,rfl,?_⟩;refine K1.upd Uo Sk (by simp) fun i v k e1 e2=>?_
  by_cases z:i<kv.length
  ·rw[bZ z]at e1;exact K1.t i v k e1 e2
  ·have hz:=(dt.mp e1).1;rw[bc,kI]at hz;have Uq:i=kv.length:=by omega
   rw[Uq,dJ (aA _),eY]at e1;cases e1;rw[Uq,Lf,PQ]at e2;cases e2;exact tu
 ·rintro _ s' ⟨done,kv,h1,pE,ev,Lf,rfl,K⟩
  rw[cU]at ev;subst ev;obtain⟨e,ek⟩:=K.k
  try dsimp only
  refine aa (listItems_at (s:={s with heap:=h1,toks:=pE}) ek rfl ?_);have hz:∀n,n<=vs.length->n<=sizeLine:=fun n hn=>by rw[bS];omega
  have fin:∀st:SortSt,(arrOf st).map (·.2)=((cf ks).map fun i=>vs.getD i Value.none).toArray->failedOf st=none->wpAny (model prog w) A (PyProof.Rows.ksk_tail D false e1 (.ref kS) st) P E {s with heap:=h1,toks:=pE}:=by
   intro st Sl hf;unfold PyProof.Rows.ksk_tail
   try dsimp only
   rw[Sl];simp only[bX,bB];refine aa (iK (s:={s with heap:=h1,toks:=pE}) ek rfl ?_ (by rw[bf];exact hz _ (by omega)) (bG _));refine aa (wpAny_letGo ?_);have sb:=eP h1 kS (Obj.mapSeq fun _=>(#[]:Array Value));have hd2:(h1.update kS (Obj.mapSeq fun _=>(#[]:Array Value))).get? D=some (seqObj "list" #[] e1):=(sb.2 D Sk.symm).trans K.d;refine aa (seqEpoch_at hd2 rfl ?_);have hsz:(((cf ks).map fun i=>vs.getD i Value.none).toArray).size<=sizeLine:=by rw[bf,aj,(dH ks).length_eq,gx];exact hz _ (by omega)
   refine aa (iK hd2 rfl ?_ (bG _) (bp hsz (iJ _)));rw[hf];simp only[iz,bX,bB];refine af ?_
   have PJ:=eP (h1.update kS (Obj.mapSeq fun _=>(#[]:Array Value))) D (Obj.mapSeq fun _=>((cf ks).map fun i=>vs.getD i Value.none).toArray);refine h _ pE _ (fun b o n q=>?_) (mH hd2 fun _=>((cf ks).map fun i=>vs.getD i Value.none).toArray);refine(PJ.2 b n).trans ((sb.2 b fun z=>?_).trans (K.old b o n q));rw[z]at q;exact absurd (ax q) (Nat.not_lt.mpr Uo)
  unfold PyProof.Rows.ksk_end
  try dsimp only
  simp only[bX,bB];have Ur:kv.length=vs.length:=Lf;by_cases h2:ks.length<2
  ·have JK:vs.toArray.size<2:=by rw[bf,hl];exact h2
   rw[ab JK,ab JK];refine aa (af ?_);rw[StateT.run_pure];refine aa (af ?_);dsimp only;refine fin _ ?_ rfl
   rw[nr h2,<-hl,dI];show((List.toArray kv).zip (List.toArray vs)).map (·.2)=_;apply Array.toList_inj.mp;simp only[Array.toList_map,Array.toList_zip];exact List.map_snd_zip (by omega)
  ·have h2:2<=ks.length:=by omega
   have O':¬vs.toArray.size<2:=by rw[bf,hl];omega
   rw[ae O',ae O'];obtain⟨p,er,hp,hs⟩:=wV (z7 Gd) h2;have ep:=uw Gd hp hs;have Sm:kv.length=ks.length:=by omega
   obtain⟨fs,aB,fl,J5⟩:=lK Sm K.t;refine aa (PySem.W.kat_kind (s:={s with heap:=h1,toks:=pE}) (T:=.type "int") aB (by rw[fl];omega) (fun v hv=>by obtain⟨z,t,rfl⟩:=J5 v hv;exact .of_pure rfl) (by decide) ?_);rw[show(Value.type "int" !=Value.type "tuple")=true by decide];refine aa (PySem.W.kat_run (Q:=fun sO s'=>wpAny (model prog w) A (PyProof.Rows.ksk_tail D false e1 (.ref kS) sO) P E s') (G:=fun q s'=>s'={s with heap:=h1,toks:=pE}/\q.toList=cf ks) Ur (by omega) (by omega) (fun p' sO s' a1 a2 a3 a4=>?_) ?_)
   ·obtain⟨rfl,a5⟩:=a4;exact fin sO (by rw[PySem.W.kat_snds Ur a2,a5]) a3
   ·rw[hl];refine og (fun i j C hi hj sL hC=>?_) _ er ⟨rfl,ep⟩;have vi:kv[i]?=some (kv[i]'(by omega)):=aI (by omega)
    have vj:kv[j]?=some (kv[j]'(by omega)):=aI (by omega)
    have ki:ks[i]?=some ks[i]:=aI hi
    have kj:ks[j]?=some ks[j]:=aI hj
    show wpAny _ _ (keyLt' _ (kv.getD i Value.none) (kv.getD j Value.none)) _ _ _;rw[bJ,bJ,vi,vj];refine HG (s:={s with heap:=h1,toks:=pE}) hu (K.t i _ _ vi ki) (K.t j _ _ vj kj) (xt _ (iE hi) _ (iE hj)) (fun e=>sL ((gO Gd).mp e)) ?_
    unfold PV at hC;rw[bJ,bJ,ki,kj]at hC;exact hC
end
end L2
namespace L2
open PySem PySem.Spec PySem.Calls PyProof.Rows
def BL(K:PySem.W.Frag)(c P:Addr):Bool:=match K.lookup c with
 |some ⟨.type "code",_,.fields vs,_⟩=>decide (vs[11]?=some (.ref P))&&((match vs.getD 18 .none with|.str _ _=>true|_=>false)&&((match vs.getD 7 .none with|.int _ _=>true|_=>false)&&((match vs.getD 9 .none with|.bool _=>true|_=>false)&&((match vs.getD 10 .none with|.int _ _=>true|_=>false)&&decide (c≠P)))))
 |_=>false
theorem DW{K:PySem.W.Frag}{c P:Addr}{h:Heap}(X:K.In h)(e:BL K c P=true):PySem.W.CodeHd h c P:=by
 unfold BL at e;split at e
 ·rename_i od vs sl hk;rw[aM,aM,aM,aM,aM,cH,cH]at e;obtain⟨h1,h2,h3,h4,h5,h6⟩:=e;have g:=X _ _ hk;have So:vs.getD 11 .none=.ref P:=by rw[cj,h1];rfl
  cases e2:vs.getD 18 .none with
  |str f tf=>
   cases e3:vs.getD 7 .none with
   |int fl tg=>
    cases e4:vs.getD 9 .none with
    |bool b=>
     cases e5:vs.getD 10 .none with
     |int tx tt=>exact⟨_,vs,f,tf,fl,tg,b,tx,tt,g,rfl,rfl,h1,So,e2,e3,e4,e5,h6⟩
     |_=>rw[e5]at h5;cases h5
    |_=>rw[e4]at h4;cases h4
   |_=>rw[e3]at h3;cases h3
  |_=>rw[e2]at h2;cases h2
 ·cases e
def Sq(mg:Str->Option Value)(base:Heap):Prop:=∃bm ob,mg "__builtins__"=some (.ref bm)/\bm≠builtinsNs/\bm≠mainGlobals/\base.get? bm=some ob/\ob.cls=.type "module"/\ob.dict=some builtinsNs/\ob.data=.plain
theorem xw{i j:Int}{t u:Tok}{c:Value}:∀{l:List Value},TriplesOk l->TriplesOk (l++[.int i t,.int j u,c])
 |[],_=>trivial
 |.int _ _:: .int _ _::_::rest,h=>xw (l:=rest) h
theorem uz{q:Pos}{i j:Int}{t u:Tok}{c v:Value}:∀{l:List Value},TriplesOk l->codeAmong q (l++[.int i t,.int j u,c])=some v->codeAmong q l=some v\/v=c
 |[],_,e=>by
  have e:(if(i==q.line&&j==q.col)=true then some c else codeAmong q [])=some v:=e;split at e
  ·exact .inr (Option.some.inj e).symm
  ·cases e
 |.int a _:: .int b _::d::rest,h,e=>by
  have e:(if(a==q.line&&b==q.col)=true then some d else codeAmong q (rest++[.int i t,.int j u,c]))=some v:=e;show(if(a==q.line&&b==q.col)=true then some d else codeAmong q rest)=some v\/_;split at e
  ·rename_i z;rw[ab z];exact .inl e
  ·rename_i z;rw[ae z];exact uz (l:=rest) h e
section
variable {X:Cx}{pins:List (Addr×Obj)}{σ:St}{H:Hp}{s:Shared}
theorem DX{nm q:Str}{params:Arguments}{body:Expr}{scope:Scope}{pH:List (Str×Addr)}{c P:Addr}{pos:Pos}{fl:Nat}{A:Around}{E:Value->Shared->Prop}{Q:Value->Shared->Prop}(I:Inv X pins σ H s)(C:PySem.W.CodeHd X.base c P)(Bm:Sq X.mg X.base)(hP:H P=some (.vK #[.str q 0])) (uA:X.env.code=.ref c) (Li:X.env.globals=mainGlobals)
  (ya:closureFor scope X.env=pure pH)
  (h:∀f c' pm yH h' tk H',Inv X pins σ H' {s with heap:=h',toks:=tk}->au H H'->H' f=none->s.heap.objs.size<=f->h'.get? f=some (PySem.W.kla_obj nm q params body scope pH pm c' yH)->h'.CodeRec (.ref c') q->Q (.ref f) {s with heap:=h',toks:=tk}):
  wpAny (model X.prog X.w) A (makeFunction nm q params (.expr body) scope X.env [] [] [] pos fl) Q E s:=by
 obtain⟨qs,hp,tr,rec⟩:=(show bu X.prog X.w H s.heap P (.vK #[.str q 0])from I.bQ P _ hP);have hC:=C.keeps I.bk;have hg:=I.mod.glob.keeps I.bk;obtain⟨bm,ob,b1,b2,b3,b4,b5,b6,b7⟩:=Bm;have WM:bm≠P:=fun z=>by
  have e:=I.bk _ _ b4;rw[z,hp]at e;cases e;cases b5
 have hB:s.heap.BuiltinsAt X.mg P:=⟨bm,ob,b1,b2,b3,WM,I.bk _ _ b4,b5,b6,b7⟩;have WN:mainGlobals≠P:=fun z=>by
  obtain⟨o,es,ep,e,hd,_⟩:=hg;rw[z,hp]at e;cases e;cases hd
 cases hf:codeAmong pos qs.toList with
 |some v=>
  obtain⟨c',oc,vs,q',t,rfl,e2,e3,e4,e5,e6⟩:=rec pos v hf;have eq:q=q':=by
   have z:=bT (fun a:Array Value=>a[0]?) e2;simp at z;exact z
  subst eq;refine PySem.W.kla_makeFunctionHit ya Li hg uA hC hp tr hf hB fun yH h' tk kp hsz=>?_
  have I1:Inv X pins σ H {s with heap:=h',toks:=tk}:=I.kept kp;refine h _ c' _ yH _ tk H (I1.kept fun b o e=>aD _ e) (au.refl H) (I1.bQ.fresh (aA _)) hsz (aU _ rfl) ⟨c',oc,vs,t,rfl,aD _ (kp _ _ e4),e5,e6⟩
 |none=>
  refine PySem.W.kla_makeFunction ya Li hg uA hC hp tr hf WN hB fun c' yH h' tk hx DY fc Sr Us=>?_
  obtain⟨c₂,oc,vs,t,e2,KZ,hd,hv⟩:=Sr;cases e2;have Kd:H c'=none:=I.bQ.fresh DY;have XG:c'≠P:=cn (bA (ax hp) DY);have bQ:la X.prog X.w (upd H c' (.own P)) (h'.push (PySem.W.kla_obj nm q params body scope pH ((X.mg "__name__").getD .none) c' yH)):=by
   intro b u e;by_cases z:b=c'
   ·subst z;rw[aH]at e;cases e;exact⟨oc,aD _ KZ⟩
   ·rw[ak z]at e;by_cases zP:b=P
    ·subst zP;rw[hP]at e;cases e;refine⟨_,aD _ Us,?_,fun pos' v' ev=>?_⟩
     ·rw[Array.toList_append];exact xw tr
     ·rw[Array.toList_append]at ev;rcases uz tr ev with ev|rfl
      ·obtain⟨c₂,Of,Og,Ss,Su,f1,f2,f3,f4,f5⟩:=rec pos' v' ev;refine⟨c₂,Of,Og,Ss,Su,f1,f2,(ak fun z=>by rw[z,Kd]at f3;cases f3).trans f3,aD _ (hx _ _ (fun z=>?_) f4),f5⟩;rw[z,hP]at f3;cases f3
      ·exact⟨c',oc,vs,q,t,rfl,rfl,aH,aD _ KZ,hd,hv⟩
    ·refine(I.bQ b u e).ly (fun d o Cd e'=>aD _ (hx d o (fun zd=>?_) e')) (fun d e'=>(ak fun zd=>by rw[zd,Kd]at e';cases e').trans e') fun d xs e'=>(ak fun zd=>by rw[zd,Kd]at e';cases e').trans e';rcases Cd with Cd|Cd
     ·exact zP (Cd.symm.trans zd)
     ·rw[zd,hP]at Cd;cases Cd
  have I1:Inv X pins σ (upd H c' (.own P)) {s with heap:=h'.push (PySem.W.kla_obj nm q params body scope pH ((X.mg "__name__").getD .none) c' yH),toks:=tk}:=by
   refine I.un (t':=tk) ⟨fun b o e n _ _=>aD _ (hx _ _ (fun z=>by rw[z,hP]at n;cases n) e),fun b o e n _ _=>⟨o.slots,aD _ (hx _ _ (fun z=>by rw[z,hP]at n;cases n) e)⟩,fun b o e n _=>(ak fun z=>by rw[z]at e;exact absurd (ax e) (Nat.not_lt.mpr DY)).trans n,fun b o e _=>?_,fun b xs e=>(ak fun z=>by rw[z,Kd]at e;cases e).trans e,fun b o u e=>(ak fun z=>by rw[z,Kd]at e;cases e).trans e,fun b ps e=>⟨#[],by rw[Array.append_empty];exact(ak fun z=>by rw[z,Kd]at e;cases e).trans e⟩⟩ bQ;by_cases z:b=P
   ·exact⟨_,by rw[z];exact aD _ Us⟩
   ·exact⟨o,aD _ (hx _ _ z e)⟩
  have KY:h'.objs.size≠c':=cn fc;refine h _ c' _ yH _ tk _ I1 (au.upd Kd) ?_ ?_ (aU _ rfl) ⟨c',oc,vs,t,rfl,aD _ KZ,hd,hv⟩
  ·rw[ak KY];refine I.bQ.fresh (bp DY (fU fc))
  ·exact bp DY (fU fc)
end
end L2
namespace L2
open PySem PySem.Spec PySem.Calls PyProof.Rows
def hX(aB:List (List Key×Tr)):List Tr:=aB.map fun p=>.tup [p.2,.tup (p.1.map lh)]
def DZ:Tr->Tr
 |.tup [_,k]=>k
 |_=>.cq
def vp:Tr->Rs Tr
 |.aE aB=>if oa (hX aB)=true/\((hX aB).all fun t=>(eE t).length==3)=true then .ok (.lst ((cO (hX aB)).map DZ))else .bad
 |_=>.bad
def kC(x q:Str)(r:Rs Tr)(A:Ab):Rz Tr:=match(A[0]? :Option Ao)with
 |some (.tb x' q')=>if x'=x/\q'=q then ai (r.bind vp) A else .bad
 |_=>.bad
theorem yJ{X:Cx}{H:Hp}{xc:Tr->Ab->Prop}{x q:Str}{ρ:av}{i:Nat}{A:Ab}{k:Tr->Ab->Prop}(h:cF xc (kC x q (ar ρ i) A) k):A[0]?=some (.tb x q)/\∃aB,ar ρ i=.ok (.aE aB)/\oa (hX aB)=true/\((hX aB).all fun t=>(eE t).length==3)=true/\k (.lst ((cO (hX aB)).map DZ)) A:=by
 unfold kC at h;split at h
 ·rename_i x' q' e;obtain⟨⟨rfl,rfl⟩,h2⟩:=mY h
  clear h
  refine⟨e,?_⟩;cases e2:ar ρ i with
  |bad=>rw[e2]at h2;exact(show False from h2).elim
  |exc c=>rw[e2]at h2;exact(show False from h2).elim
  |ok t=>
   rw[e2]at h2;have h4:cF xc (ai (vp t) A) k:=h2
   clear h2
   cases t with
   |aE aB=>
    by_cases z:oa (hX aB)=true/\((hX aB).all fun t=>(eE t).length==3)=true
    ·have e3:vp (.aE aB)=.ok (.lst ((cO (hX aB)).map DZ)):=ab z;rw[e3]at h4;exact⟨aB,rfl,z.1,z.2,h4⟩
    ·have e3:vp (.aE aB)=.bad:=ae z;rw[e3]at h4;exact(show False from h4).elim
   |_=>exact(show False from h4).elim
 ·exact(show False from h).elim
theorem D0{xs:List (List Key×Addr×Value)}(nd:(xs.map (·.1)).Nodup):∀{i:Nat} {x:List Key×Addr×Value},xs[i]?=some x->atKey xs x.1=some x.2:=by
 induction xs with
 |nil=>intro i x e;simp at e
 |cons y xs ih=>
  intro i x e;rw[ay,dN]at nd;unfold atKey;cases i with
  |zero=>
   cases e;rw[dO,bt rfl];rfl
  |succ i=>
   have e:xs[i]?=some x:=e
   have fA:¬y.1=x.1:=fun z=>nd.1 (by rw[z];exact List.mem_map_of_mem (bM e));rw[dO,aX fA];exact ih nd.2 e
section
variable {X:Cx}
theorem Gj{d x Oh q:Str}{i:Nat}{c P:Addr}{p pd p1 p2 p3 p4 p5 kp pos Ke:Pos}{n1:Nat}{params:Arguments}{scope:Scope}(hu:X.A.units+40<cLine)(XH:X.A.depth+3<recursionLimit)(Sv:PySem.W.tabIn X.K Oh=some (c,P))(Sw:BL X.K c P=true)(uA:X.env.code=.ref c)
  (hm:X.mg "sorted"=none) (hN:X.N[i]?=some d) (Kf:X.env.scope.names.lookup d=some .cell) (S:DU scope d x) (Ld:∀y∈scope.names,y.2=.free->y.1=d) (hq:X.env.qual++"<lambda>"=q)
  (Kg:defaultsOf params X.env=([],[])) (we:∀(nm qual:Str) (pH:List (Str×Addr)) (pm:Value) (c':Addr) (yH v:Value),bindArgs (PySem.W.kla_fn nm qual params (BK d x p1 p2 p3 p4 p5 n1) scope pH pm (.ref c') yH) ⟨[v],[]⟩=pure [(x,v)])
  (Li:X.env.globals=mainGlobals) (hc:X.calm=true) (hg:Gl X "sorted") (Sz:∀env:Env,(X.A.in1.in1.deeper env).units+1<cLine) (hk:X.env.kindOf d=some .cell):
  PE X (.Call (.Name "sorted" p) [.Name d pd] [⟨some "key",.Lambda params (BK d x p1 p2 p3 p4 p5 n1) scope Ke,kp⟩] pos) (tE X fun ρ A=>kC Oh q (ar ρ i) A):=by
 intro pins s σ H Q I ⟨B,A,ρ,ha,r,n,qq⟩;obtain⟨eA,aB,eg,ok,h3,k⟩:=yJ (X:=X) (H:=H) qq;obtain⟨P',ug,Cd,⟨c',HH⟩,hP⟩:=ha.ob 0 _ eA;cases Sv.symm.trans HH;obtain⟨v,t,ev,rv,et⟩:=wo (X:=X) (k:=fun t=>t=.aE aB) r (by rw[eg];rfl);subst et;obtain⟨da,aw,rfl,WO,ek,rr⟩:=rv.pT;have Oi:HX X.env.scope d:=Or.inr (Or.inl Kf);obtain⟨m,hn,Sm⟩:=id I.loc;obtain⟨u,ru,look⟩:=Sm i d _ hN ev Oi;cases(show u=Value.ref da from ru);obtain⟨cell,ya,oO⟩:∃cell,X.env.cells.lookup d=some cell/\s.heap.IsCell cell (some (.ref da)):=by
  rcases look with⟨Ge,_⟩|⟨_,cc,e1,e2⟩
  ·rw[hk]at Ge;cases Ge
  ·exact⟨cc,e1,e2⟩
 have SA:∀(Q':Value->Shared->Prop),Q' (.ref da) s->wpAny (model X.prog X.w) X.A (eval (.Name d pd) X.env) Q' X.xe s:=fun Q' J0=>g6 (qL I.ok.kind hk ya oO J0) S.dd;refine mh (nQ (u:=.builtin "sorted") I hg hm rfl ?_ (by decide) (by decide));refine callWith_kw ?_ (by rw[br _ _ rfl];rfl) (cy (es:=[.Name d pd]) rfl)
 show wpAny _ _ (spliced ((false,eval (.Name d pd) X.env)::backTo pos (starEach [] X.env))) _ _ _;refine mf (SA _ (qW ?_));refine kws_cons (PySem.W.kla_eval Kg ?_);rw[hq];have j4:∀y∈scope.names,y.2=.free->∃c,X.env.cells.lookup y.1=some c:=fun y hy z=>by rw[Ld y hy z];exact⟨cell,ya⟩
 have sub:∀x c,(uQ scope X.env).lookup x=some c->X.env.cells.lookup x=some c:=lA scope.names [] j4 (fun x c e=>by simp at e);obtain⟨D1,Oj⟩:∃c,(uQ scope X.env).lookup d=some c:=qa.mp (lB scope.names [] d (.inr (gw S.ld)));have Ol:D1=cell:=by have z:=sub d D1 Oj;rw[ya]at z;exact(Option.some.inj z).symm
 subst Ol;refine DX I (DW I.mod.LA Sw) I.mod.bm hP uA Li (jk j4) fun f cd pm yH B9 WQ H3 I3 sm KY XI Mi o7=>kws_nil ?_
 have Kh:B9.IsCell D1 (some (.ref da)):=by
  obtain⟨m3,_,P0⟩:=I3.loc;obtain⟨u3,WR,Om⟩:=P0 i d _ hN ev Oi;cases(show u3=Value.ref da from WR);rcases Om with⟨Ge,_⟩|⟨_,cc,f1,f2⟩
  ·rw[hk]at Ge;cases Ge
  ·rw[ya]at f1;cases f1;exact f2
 have Oo:Rd H3 da (.dT aw):=(WO.same aG).same sm;obtain⟨hz,SD,xs,rel,o,es,ep,g1,g2,g3,g4,g5⟩:=(show bu X.prog X.w H3 B9 da (.dT aw)from Oo.ok I3.bQ);obtain⟨_,_,Vr,WS,dd⟩:=tR I3.bQ Oo;have bQ:∀x∈xs,(tupleKind (az X.prog X.w)).is B9 x.1 x.2.1:=by
  have all:∀{l:List (List Key×V)} {m:List (List Key×Addr×Value)},KT H3 l m->∀x∈m,(tupleKind (az X.prog X.w)).is B9 x.1 x.2.1:=by
   intro l m q
   induction q with
   |nil=>intro x hx;exact nomatch hx
   |@cons p q ps qs hq t ih=>
    intro x hx;rcases aR.mp hx with e|hx
    ·subst e;exact j3 I3.bQ (by rw[<-hq.1];exact hq.2.1)
    ·exact ih x hx
  exact all rel
 have dd:B9.DictOfH (tupleKind (az X.prog X.w)) da xs:=⟨o,es,ep,g1,g2,g3,g4,bQ,g5⟩;have SE:xs.length=aB.length:=by
  have z1:=Paired.length rel;have z2:=bT List.length ek;rw[aj,aj]at z2;omega
 obtain⟨WT,z9,nd,same⟩:=oy ok;have Ut:(hX aB).length=aB.length:=by unfold hX;rw[aj]
 have Oq:∀(j:Nat) (xj:List Key×Addr×Value),xs[j]?=some xj->∃kt hh a b,aB[j]?=some kt/\kt.2=.int hh/\kt.1=[.inl a,.inl b]/\(hX aB)[j]?=some (.tup [.int hh,.tup [.int a,.int b]])/\xj.1=[.inl a,.inl b]/\(∃t,xj.2.2=.int hh t)/\H3 xj.2.1=some (.tup [.int a,.int b]):=by
  intro j xj ej;have hj:j<aB.length:=by rw[<-SE];exact(dt.mp ej).1
  have HJ:aB[j]?=some aB[j]:=aI hj
  generalize aB[j]=kt at HJ;have SF:(hX aB)[j]?=some (.tup [kt.2,.tup (kt.1.map lh)]):=by unfold hX;rw[aJ,HJ];rfl
  have J_:=WT _ (bM SF);have P0:(eE (.tup [kt.2,.tup (kt.1.map lh)])).length=3:=eq_of_beq (bw.mp h3 _ (bM SF));obtain⟨vk,SG,Uu⟩:=yz rel ej;have e1:(aw.map (·.1))[j]?=some xj.1:=by rw[aJ,SG];rfl
  rw[ek,aJ,HJ]at e1;have B6:kt.1=xj.1:=Option.some.inj e1;obtain⟨vv,Uv,SH⟩:=rr.get (i:=j) (t:=kt.2) (by rw[aJ,HJ];rfl);rw[aJ,SG]at Uv;cases Uv;obtain⟨k1,k2⟩:=kt;have B6:k1=xj.1:=B6;have SH:Rep X.K (aQ B H) vk k2:=SH;unfold B_ at J_;split at J_
  ·rename_i a b e;rw[<-Option.some.inj J_]at P0;cases P0
  ·rename_i hh a b e;injection e with e
   injection e with e2 e
   injection e with e3 _
   injection e3 with e3
   have e2:k2=.int hh:=e2;subst e2;have WU:k1=[.inl a,.inl b]:=by
    match k1,e3 with
    |[.inl x,.inl y],e3=>injection e3 with z1 z2;injection z2 with z2 _;injection z1 with z1;injection z2 with z2;rw[z1,z2]
    |[.inl x,.inr y],e3=>injection e3 with z1 z2;injection z2 with z2 _;cases z2
    |[.inr x,_],e3=>injection e3 with z1 z2;cases z1
   subst WU;cases SH.int_inv;have SI:RelV (.int hh) xj.2.2:=by
    have gen:∀{l:List (List Key×V)} {m:List (List Key×Addr×Value)},KT H3 l m->∀{j:Nat} {y:List Key×Addr×Value} {w':V} {kk:List Key},m[j]?=some y->l[j]?=some (kk,w')->RelV w' y.2.2:=by
     intro l m q
     induction q with
     |nil=>intro j y w' kk e;simp at e
     |@cons p q' ps qs hq t ih=>
      intro j y w' kk e1 e2;cases j with
      |zero=>cases e1;cases e2;exact hq.2.2
      |succ j=>exact ih (show qs[j]?=some y from e1) (show ps[j]?=some (kk,w')from e2)
    exact gen rel ej SG
   refine⟨_,hh,a,b,HJ,rfl,rfl,SF,B6.symm,SI,?_⟩;rw[<-B6]at Uu;exact Uu
  ·cases J_
 refine call_function_entry_kw kind_sorted plain_sorted entry_sorted (ksk_s1 _ _) ?_
 unfold Builtin.«sorted»;refine aa (m:=checkCount "sorted" 1 1 _) (af ?_);have N2:es.size=xs.length:=by rw[<-bz,g4,aj]
 refine aa (jn (A:=X.A.in1) (s:={s with heap:=B9,toks:=WQ}) (I3.ok.hd hc) SD g1 g2.1 g3 (by rw[N2,bS];omega) fun h4 SJ SK=>?_);have WV:es.toList.map (·.key)=xs.map fun x=>Value.ref x.2.1:=by rw[g4,bj];rfl
 rw[WV];refine aa (iI ?_ (by rw[aj,bS];omega));have BZ:(h4.push (seqObj "list" (xs.map fun x=>Value.ref x.2.1).toArray 0)).get? h4.objs.size=some (seqObj "list" (xs.map fun x=>Value.ref x.2.1).toArray 0):=aU _ rfl;have PU:∀{b:Addr} {o:Obj},B9.get? b=some o->b≠h4.objs.size:=fun{b o} e=>aS (ax (SK _ _ e));refine aa (cV (wpAny_call_entry_kw slot_list_sort ⟨_,BZ,rfl⟩ mI ?body (ksk_l1 _ _)))
 case body=>
  show wpAny _ X.A.in1.in1 (Builtin.«list.sort» ⟨[.ref h4.objs.size],[(Str.ofString "key",.ref f)]⟩) _ _ _;rw[ksk_t1];refine yI (s:={s with heap:=h4.push (seqObj "list" (xs.map fun x=>Value.ref x.2.1).toArray 0),toks:=SJ}) (ks:=(hX aB).map eE) (by show X.A.units+1+1<cLine;omega) BZ (by rw[aj,aj,Ut,SE]) (by rw[aj];exact z9) nd same (fun j v' ky h1 pE C ej HJ WW hC=>?_) fun h5 WX c5 WY WZ=>?_
  ·rw[aJ]at ej;cases Ot:xs[j]? with
   |none=>rw[Ot]at ej;cases ej
   |some xj=>
    rw[Ot]at ej;cases ej;obtain⟨kt,hh,a,b,e1,e2,e3,e4,e5,⟨t5,e6⟩,e7⟩:=Oq j xj Ot;rw[aJ,e4]at HJ;cases HJ;have Ki:∀b o,B9.get? b=some o->h1.get? b=some o:=fun b o e=>WW b o (PU e) (aD _ (SK b o e));refine DV (s:={s with heap:=h1,toks:=pE}) Sz (by show X.A.in1.in1.depth<recursionLimit;show X.A.depth<_;omega) ((I3.nolimit).keeps Ki) (Ki _ _ Mi) (o7.keeps Ki) (we _ _ _ _ _ _) S Oj (by obtain⟨oc,ec,rc⟩:=id Kh;exact⟨oc,Ki _ _ ec,rc⟩) (oA Ki dd) (gf (bQ xj (bM Ot)) h1 Ki) (D0 g5 Ot) fun h6 W0 tp Uw _ Rt=>hC h6 W0 _ Uw ?_
    show PX h6 (.ref tp) hh a b;obtain⟨aY,B7,⟨ot,t1,t2,nt,t3⟩,_⟩:=I3.tuple (.inl (.inl e7));obtain⟨w1,w2,rfl,⟨SM,rfl⟩,⟨SN,rfl⟩⟩:=vals2 B7;exact⟨tp,_,t5,0,.ref xj.2.1,rfl,Rt,rfl,by rw[e6],xj.2.1,ot,SM,SN,nt,rfl,Uw _ _ (Ki _ _ t1),t2,t3⟩
  ·
   refine⟨_,rfl,af ⟨_,rfl,?_⟩⟩;have J:Inv X pins σ H3 {s with heap:=h4,toks:=SJ}:=(I3.kept (t':=SJ) SK);have SO:H3 h4.objs.size=none:=J.fresh;have Ux:HB B H3:=ha.hb.same sm;have Ou:((hX aB).map eE).length=xs.length:=by rw[aj,Ut,SE]
   have I5:=J.laid (t':=WX) (o:=.lst ((cf ((hX aB).map eE)).map fun j=>(xs.map fun x=>V.ref x.2.1).getD j .cq)) (h':=h5) (fun b o e=>WY b o (aS (ax e)) (aD _ e)) (aA _) ⟨by rw[aj,(dH _).length_eq,gx,aj,bS];omega,_,c5,vo fun j hj=>?_,WZ⟩
   ·refine⟨.ref h4.objs.size,_,I5,rfl,k _ B _ (.of (sm.trans (au.upd SO))) (ha.same (sm.trans (au.upd SO))) (.wy Ux SO ?_)⟩;rw[<-ux nd,bj];refine vd fun j hj=>?_
    have wW:=di hj;rw[Ou]at wW;obtain⟨kt,hh,a,b,e1,e2,e3,e4,e5,_,e7⟩:=Oq j xs[j] (aI wW);show Rep _ _ ((xs.map fun x=>V.ref x.2.1).getD j .cq) (DZ ((hX aB).getD j .cq));rw[bJ,bJ,aJ,aI wW,e4];exact .tup (Ux.tup e7) (.cons (.int a) (.cons (.int b) .nil))
   ·have wW:=di hj;rw[Ou]at wW;rw[bJ,bJ,aJ,aJ,aI wW];exact rfl
end
end L2
namespace L2
open PySem PySem.Spec PyProof.Rows PySem.W
def D2(K:Frag)(D:Addr):Bool:=decide (findIn K (.ref D) "__getattribute__"=some (some (.builtin "BaseException.__getattribute__")))&&(decide (findIn K (.ref D) "__getattr__"=some none)&&(decide (findIn K (.ref D) "__class__"=some (some (.builtin "object.__class__")))&&(decide (mroIn K D (.type "object")=some true)&&decide (mroIn K D (.type "BaseException")=some true))))
theorem Gk{K:Frag}{D:Addr}(h:D2 K D=true):Nz K D:=by
 unfold D2 at h;rw[aM,aM,aM,aM]at h;exact⟨bN h.1,bN h.2.1,bN h.2.2.1,bN h.2.2.2.1,bN h.2.2.2.2⟩
def Ov(K:Frag)(u:Value)(tab:List (Str×Bool)):Bool:=tab.all fun p=>decide (kitOne K (.ref (clsAt K p.1)) u=some p.2)
def Ow(K:Frag)(xs:List Str):Bool:=xs.all fun x=>D2 K (clsAt K x)&&(clsIn K (clsAt K x)).isSome
theorem oB{α:Type}{z:Str}:∀{l:List (Str×α)} {a:α},l.lookup z=some a->(z,a)∈l
 |[],_,h=>by cases h
 |(y,b)::l,a,h=>by
  rw[cS]at h;cases e:(z==y)with
  |true=>rw[e]at h;cases h;rw[eq_of_beq e];exact aW ..
  |false=>rw[e]at h;exact aV _ (oB h)
theorem Kj{K:Frag}{u:Value}{tab:List (Str×Bool)}{xs:List Str}(h:Ov K u tab=true)(q:Ow K xs=true)(e:tab.map (·.1)=xs):Hm K u tab:=⟨fun x b hx=>by
 have m:=oB hx;have h1:=bN (bw.mp h _ m);have mx:x∈xs:=by rw[<-e];exact List.mem_map_of_mem m
 have h2:=bw.mp q x mx;rw[aM]at h2;exact⟨h1,Gk h2.1,h2.2⟩⟩
def Ox(K:Frag)(c:Str)(xs:List Str):Bool:=xs.all fun x=>decide (exmOne K (.ref (clsAt K x)) (.ref (clsAt K c))=some true)
theorem D3{K:Frag}{mg:Str->Option Value}{c:Str}{xs:List Str}(m:mg c=some (.ref (clsAt K c)))(h:Ox K c xs=true):zJ K mg c xs:=⟨m,fun x hx=>bN (bw.mp h x hx)⟩
theorem Lj{P:List Value->Prop}(h:P []):∀us:List Value,us.length=0->P us
 |[],_=>h
theorem SQ{P:List Value->Prop}{n:Nat}(h:∀a us,us.length=n->P (a::us)):∀us:List Value,us.length=n+1->P us
 |a::us,e=>h a us (Nat.succ.inj e)
theorem Ll{P:List Value->Prop}(h:∀a,P [a]):∀us:List Value,us.length=1->P us:=SQ fun a=>Lj (P:=fun l=>P (a::l)) (h a)
theorem Lm{P:List Value->Prop}(h:∀a b,P [a,b]):∀us:List Value,us.length=2->P us:=SQ fun a=>Ll (P:=fun l=>P (a::l)) (h a)
theorem Oy{P:List Value->Prop}(h:∀a b c,P [a,b,c]):∀us:List Value,us.length=3->P us:=SQ fun a=>Lm (P:=fun l=>P (a::l)) (h a)
end L2
namespace L2
open PySem PySem.Spec PyProof.Rows PySem.W
section
variable {K:Frag}{c m f:Str}{C:Addr}
def Gm(K:Frag)(C:Addr):Bool:=plainGet K C Str.empty&&(hasDictIn K C&&(plainOver K C&&decide (findIn K (.ref C) "__setattr__"=some (some (.builtin "object.__setattr__")))))
theorem D4(h:Gm K C=true):K4 K C:=by
 unfold Gm at h;rw[aM,aM,aM]at h;exact⟨h.1,h.2.1,h.2.2.1,bN h.2.2.2⟩
def SR(K:Frag)(C:Addr)(fs:List Str):Bool:=fs.all fun f=>decide (findIn K (.ref C) f=some none)
end
end L2
namespace L2
open PySem PySem.Spec PyProof.Rows PySem.W
structure Df where
 c:Option Str
 x:Str
 q:Str
 st:Stmt
 ps:List Str
def W3(K:Frag)(c m:Str):Addr:=match findIn K (.ref (clsAt K c)) m with
 |some (some (.ref a))=>a
 |_=>0
def Oz(K:Frag)(a:Addr):FuncData:=match K.lookup a with
 |some ⟨_,_,.func d,_⟩=>d
 |_=>default
def SS(K:Frag)(a:Addr):Bool:=match K.lookup a with
 |some ⟨_,_,.func _,_⟩=>true
 |_=>false
theorem Kk{K:Frag}{a:Addr}(h:SS K a=true):∃oc od y9,K.lookup a=some ⟨oc,od,.func (Oz K a),y9⟩:=by
 unfold SS at h;unfold Oz;split at h
 ·rename_i e;rw[e];exact⟨_,_,_,rfl⟩
 ·cases h
namespace Df
def adr(K:Frag)(d:Df):Addr:=match d.c with
 |none=>clsAt K d.x
 |some c=>W3 K c d.x
def fd(K:Frag)(d:Df):FuncData:=Oz K (d.adr K)
def re(d:Df)(f:FuncData):FuncData:=fnOf d.x d.q (pN d.st) (cY d.st) (aF d.st) .none f.kwdefaults f.doc f.pyModule f.annotations f.code f.closureTuple
def isAt(K:Frag)(d:Df):Bool:=match d.c with
 |none=>decide (nsIn K mainGlobals d.x=some (some (.ref (d.adr K))))
 |some c=>decide (findIn K (.ref (clsAt K c)) d.x=some (some (.ref (d.adr K))))&&(isFn K (.ref (d.adr K))&&Gm K (clsAt K c))
def HK(K:Frag)(d:Df):Bool:=SS K (d.adr K)&&(codeIn K (d.fd K).code d.q&&(keepIn K (.ref (d.adr K))&&d.isAt K))
structure Ok(K:Frag)(mg:Str->Option Value)(d:Df):Prop where
 fn:sS K d.x d.q d.st (d.adr K) (d.fd K)
 m0:d.c=none->mg d.x=some (.ref (d.adr K))
 m1:∀c,d.c=some c->Meth K (clsAt K c) d.x (d.adr K)/\K4 K (clsAt K c)
theorem of{K:Frag}{mg:Str->Option Value}{d:Df}{h:Heap}(X:K.In h)(G:h.Ns mainGlobals mg)(e:d.fd K=d.re (d.fd K))(k:d.HK K=true):d.Ok K mg:=by
 unfold HK at k;rw[aM,aM,aM]at k;obtain⟨k1,k2,k3,k4⟩:=k;obtain⟨oc,od,y9,l⟩:=Kk k1;refine⟨⟨⟨oc,od,_,_,_,_,_,_,y9,e,l,k2⟩,k3⟩,fun z=>?_,fun c z=>?_⟩<;>unfold isAt at k4<;>rw[z]at k4
 ·exact mg_of X G (bN k4)
 ·rw[aM,aM]at k4;exact⟨⟨bN k4.1,k4.2.1,k3⟩,D4 k4.2.2⟩
end Df
theorem D5{K:Frag}{mg:Str->Option Value}{h:Heap}(X:K.In h)(G:h.Ns mainGlobals mg):∀{ds:List Df},ds.map (Df.fd K)=ds.map (fun d=>d.re (d.fd K))->ds.all (Df.HK K)=true->∀d∈ds,d.Ok K mg
 |[],_,_,d,m=>nomatch m
 |a::ds,e,k,d,m=>by
  rw[eV,aM]at k;rw[ay,ay]at e;injection e with e1 e2
  rcases aR.mp m with rfl|m
  ·exact Df.of X G e1 k.1
  ·exact D5 X G e2 k.2 d m
section
variable {P:Program}{w:World}{K:Frag}{mg:Str->Option Value}{base:Heap}{d:Df}{N:List Str}{k n:Nat}
structure sY(P:Program)(w:World)(K:Frag)(mg:Str->Option Value)(base:Heap)(CX:x6)(n:Nat)(d:Df)(sp:Sp):Prop where
 ok:f6 P w K mg base CX n (d.adr K) (d.fd K) d.ps sp
 bd:Binds K (d.fd K) d.ps []
 df:d.Ok K mg
abbrev OA(d:Df):Prop:=∀(kV doc pm:Value) (an:Option Addr) (cX ct:Value) (us:List Value),us.length=d.ps.length->bindArgs (fnOf d.x d.q (pN d.st) (cY d.st) (aF d.st) .none kV doc pm an cX ct) ⟨us,[]⟩=pure (d.ps.zip us)
abbrev P4(CX:x6)(P:Program)(w:World)(K:Frag)(mg:Str->Option Value)(base:Heap)(N:List Str)(d:Df):=jz CX P w K mg base N d.q (aF d.st) (d.adr K)
abbrev Ac(K:Frag)(d:Df)(k:Nat)(cX:Value)(A:Around)(s:Shared):Prop:=dA k (A.deeper (envOfC d.q (aF d.st) s.heap.objs.size (d.adr K) cX))
theorem Kl(N:List Str){a b:Nat}{G:av->Ab->Rz Out}(D:d.Ok K mg)(hb:N.Nodup->∀cX A outer s H E,Ac K d k cX A s->ZB (P4 (pR P w) P w K mg base N d cX A outer s H E) (cY d.st) G)(S:dR N d.ps (aF d.st):=by exact⟨rfl,rfl,rfl,by decide+kernel,rfl,by decide+kernel,by decide+kernel⟩) (B:OA d:=by exact fun _ _ _ _ _ _=>by first|exact Lj rfl|exact Ll fun _=>rfl|exact Lm fun _ _=>rfl|exact Oy fun _ _ _=>rfl|exact P5 fun _ _ _ _=>rfl|exact P6 fun _ _ _ _ _=>rfl) (ha:d.ps.length=a:=by rfl) (hn:N.length=b:=by rfl):
  sY P w K mg base (pR P w) (k+1) d (vb K (m4 a b G)):=by
 subst ha;subst hn;exact⟨sS.RH D.fn S (fun ts A e=>rS e) fun cX A outer s H E hr=>⟨G,hb S.nd cX A outer s H E hr,fun ts A e=>zH e⟩,D.fn.binds B,D⟩
theorem Gn(N:List Str){a b:Nat}{G:av->Rs Out}(D:d.Ok K mg)(hb:N.Nodup->∀cX A outer s H E,Ac K d k cX A s->QB (P4 lz P w K mg base N d cX A outer s H E).B5 (cY d.st) G)(S:dR N d.ps (aF d.st):=by exact⟨rfl,rfl,rfl,by decide+kernel,rfl,by decide+kernel,by decide+kernel⟩) (B:OA d:=by exact fun _ _ _ _ _ _=>by first|exact Lj rfl|exact Ll fun _=>rfl|exact Lm fun _ _=>rfl|exact Oy fun _ _ _=>rfl|exact P5 fun _ _ _ _=>rfl|exact P6 fun _ _ _ _ _=>rfl) (ha:d.ps.length=a:=by rfl) (hn:N.length=b:=by rfl):
  sY P w K mg base lz (k+1) d (spT K (CW a b G)):=by
 subst ha;subst hn;exact⟨sS.VI D.fn S (fun ts t e=>FH e) fun cX A outer s H E hr=>⟨G,hb S.nd cX A outer s H E hr,fun ts t e=>Jm e⟩,D.fn.binds B,D⟩
theorem Gp(N:List Str){a b:Nat}{G:av->Ab->Rz Out}(D:d.Ok K mg)(hb:N.Nodup->∀cX A outer s H E,Ac K d k cX A s->ZB (P4 lz P w K mg base N d cX A outer s H E).B5 (cY d.st) G)(S:dR N d.ps (aF d.st):=by exact⟨rfl,rfl,rfl,by decide+kernel,rfl,by decide+kernel,by decide+kernel⟩) (B:OA d:=by exact fun _ _ _ _ _ _=>by first|exact Lj rfl|exact Ll fun _=>rfl|exact Lm fun _ _=>rfl|exact Oy fun _ _ _=>rfl|exact P5 fun _ _ _ _=>rfl|exact P6 fun _ _ _ _ _=>rfl) (ha:d.ps.length=a:=by rfl) (hn:N.length=b:=by rfl):
  sY P w K mg base lz (k+1) d (spT K (rR a b G)):=by
 subst ha;subst hn;exact⟨sS.RG D.fn S (fun ts t e=>Dn e) fun cX A outer s H E hr=>⟨G,hb S.nd cX A outer s H E hr,fun ts t e=>FU e⟩,D.fn.binds B,D⟩
theorem OB(D:d.Ok K mg)(B:OA d:=by exact fun _ _ _ _ _ _=>by first|exact Lj rfl|exact Ll fun _=>rfl|exact Lm fun _ _=>rfl|exact Oy fun _ _ _=>rfl|exact P5 fun _ _ _ _=>rfl|exact P6 fun _ _ _ _ _=>rfl):sY P w K mg base lz k d (spT K fun _=>.bad):=
 ⟨⟨fun vs H Q E ⟨_,ts,_,_,t,e,_⟩=>(nomatch e),fun A outer s H args us vs Q E _ _ _ _ ⟨_,ts,_,_,t,e,_⟩=>(nomatch e)⟩,D.fn.binds B,D⟩
theorem sY.RE {h:List Tr->Rs Tr}(C:sY P w K mg base lz n d (spT K h)):sY P w K mg base (pR P w) n d (vb K fun ts A=>ai (h ts) A):=⟨C.ok.RE,C.bd,C.df⟩
theorem sY.da {CX:x6}{sp:Sp}{x:Str}(C:sY P w K mg base CX n d sp)(hc:d.c=none)(hx:d.x=x)(hq:d.q=x):tW K mg x d.st d.ps (d.adr K) (d.fd K):=
 ⟨by have f:=C.df.fn;rw[hx,hq]at f;exact f,C.bd,by have m:=C.df.m0 hc;rw[hx]at m;exact m⟩
structure SU(K:Frag)(mg:Str->Option Value)(c:Str):Prop where
 m:makesIn K (clsAt K c)=true
 k:keepIn K (.ref (clsAt K c))=true
 g:mg c=some (.ref (clsAt K c))
end
section
variable {X:Cx}{d:Df}{n k:Nat}{o e l:Expr}{es:List Expr}{p kp pos apos:Pos}{x c m:Str}
section
variable {F O:av->Rs Tr}{L:av->Rs (List Tr)}{h:List Tr->Rs Tr}(C:sY X.prog X.w X.K X.mg X.base lz n d (spT X.K h))
include C
theorem dZ(hr:dA k X.A)(ha:QA X (e::es) L)(hn:n<=k:=by first|decide|omega) (hc:d.c=none:=by rfl) (hx:d.x=x:=by rfl) (hq:d.q=x:=by rfl) (hg:Gl X x:=by rfl) (ji:(x==("__debug__":Str))=false:=by decide) (eJ:bq (e::es)=true:=by rfl):QE X (.Call (.Name x p) (e::es) [] pos) (fun ρ=>aC h (L ρ)):=
 NF (C.da hc hx hq) (C.ok.mono hn) hr ha hg ji eJ
end
section
variable {F:av->Ab->Rz Tr}{L:av->Ab->Rz (List Tr)}{h:List Tr->Ab->Rz Tr}(C:sY X.prog X.w X.K X.mg X.base (pR X.prog X.w) n d (vb X.K h))
include C
theorem oY(hr:dA k X.A)(ha:ZL X (e::es) L)(hn:n<=k:=by first|decide|omega) (hc:d.c=none:=by rfl) (hx:d.x=x:=by rfl) (hq:d.q=x:=by rfl) (he:X.ex=[]:=by rfl) (hg:Gl X x:=by rfl) (ji:(x==("__debug__":Str))=false:=by decide) (eJ:bq (e::es)=true:=by rfl):ZE X (.Call (.Name x p) (e::es) [] pos) (fun ρ A=>(L ρ A).bind h):=
 NI (C.da hc hx hq) (C.ok.mono hn) hr ha he hg ji eJ
end
end
end L2
namespace L2
open PySem PySem.Spec PyProof.Rows PySem.W
theorem HL{k:Nat}{A:Around}(hr:dA k A):A.units+4<cLine:=by have:=hr.un;omega
theorem W4{k:Nat}{A:Around}(hr:dA k A):A.units+6<cLine:=by have:=hr.un;omega
structure TabAt(K:Frag)(x:Str)(c P:Addr):Prop where
 t:tabIn K x=some (c,P)
 h:BL K c P=true
theorem D6{K:Frag}{x:Str}{c P:Addr}(h:tabIn K x=some (c,P)):(Oz K (clsAt K x)).code=.ref c:=by
 unfold tabIn at h;unfold Oz clsAt;split at h
 ·rename_i f hf;rw[hf];split at h
  ·rename_i fd _ Mi;show(match K.lookup f with|some ⟨_,_,.func d,_⟩=>d|_=>default).code=_;rw[Mi];split at h
   ·rename_i c' hc;split at h
    ·split at h
     ·cases h;exact hc
     ·cases h
    ·cases h
   ·cases h
  ·cases h
 ·cases h
section
variable {P:Program}{w:World}{K:Frag}{mg:Str->Option Value}{base:Heap}{d:Df}{N:List Str}{k n:Nat}
theorem OC(N:List Str){a b:Nat}{G:av->Ab->Rz Out}(D:d.Ok K mg)(hb:N.Nodup->∀cX A outer s H E,cX=(d.fd K).code->Ac K d k cX A s->ZB (P4 (pR P w) P w K mg base N d cX A outer s H E) (cY d.st) G)(S:dR N d.ps (aF d.st):=by exact⟨rfl,rfl,rfl,by decide+kernel,rfl,by decide+kernel,by decide+kernel⟩) (B:OA d:=by exact fun _ _ _ _ _ _=>by first|exact Lj rfl|exact Ll fun _=>rfl|exact Lm fun _ _=>rfl|exact Oy fun _ _ _=>rfl|exact P5 fun _ _ _ _=>rfl|exact P6 fun _ _ _ _ _=>rfl) (ha:d.ps.length=a:=by rfl) (hn:N.length=b:=by rfl):
  sY P w K mg base (pR P w) (k+1) d (vb K (m4 a b G)):=by
 subst ha;subst hn;refine⟨?_,D.fn.binds B,D⟩;obtain⟨oc,od,kV,doc,pm,an,cX,ct,y9,e9,lk,o7⟩:=D.fn.ex;have W5:cX=(d.fd K).code:=by rw[e9]
 rw[e9]at lk⊢;have nb:∀{B:bP} {A:Ab} {H:Hp} {E:XK} {ts:List Tr} {k:Tr->Ab->Prop},cF (Py K B H E) (m4 d.ps.length N.length G ts A) k->m4 d.ps.length N.length G ts A≠ .bad:=fun{B A H E ts k} q z=>by rw[z]at q;exact q
 refine Cw lk o7 S (fun vs H Q E ⟨B,A,ts,ha,r,q⟩=>by rw[r.length];exact rS (nb q)) fun A outer s H vs Q E hr ⟨B,A1,ts,ha,r,q⟩=>?_
 have hG:=(hb S.nd cX A outer s H E W5 hr).h;refine⟨_,hG,B,H,B,A1,startT N.length ts,ha.hb,.refl,ha,bb.start r,lI,?_⟩;rw[zH (nb q)]at q;refine(cF.bind q).imp (fun c A2 z B' H' g dB e s x=>wL x (z B' H' g dB))|>.mono fun o A2 z=>?_
 cases o with
 |nx ρ=>exact fun bK B' H' g dB r' n'=>z .cq B' H' g dB .cq
 |ret t=>exact fun v B' H' g dB r'=>z v B' H' g dB r'
 |bk ρ=>exact(show False from z).elim
 |ct ρ=>exact(show False from z).elim
end
theorem Gq{X:Cx}{d x Oh q:Str}{c P:Addr}{p pd p1 p2 p3 p4 p5 kp pos Ke:Pos}{n1 k:Nat}{params:Arguments}{scope:Scope}(i:Nat)(hr:dA (k+2) X.A)(T:TabAt X.K Oh c P)(uA:X.env.code=.ref c)(hm:X.mg "sorted"=none)(hN:X.N[i]?=some d:=by rfl) (Kf:X.env.scope.names.lookup d=some .cell:=by rfl)
  (S:DU scope d x:=by exact⟨rfl,rfl,rfl,rfl,rfl,by decide,by decide,by decide,by decide⟩) (Ld:∀y∈scope.names,y.2=.free->y.1=d:=by decide) (hq:X.env.qual++"<lambda>"=q:=by rfl)
  (Kg:defaultsOf params X.env=([],[]):=by rfl) (we:∀(nm qual:Str) (pH:List (Str×Addr)) (pm:Value) (c':Addr) (yH v:Value),bindArgs (PySem.W.kla_fn nm qual params (BK d x p1 p2 p3 p4 p5 n1) scope pH pm (.ref c') yH) ⟨[v],[]⟩=pure [(x,v)]:=by exact fun _ _ _ _ _ _ _=>rfl)
  (Li:X.env.globals=mainGlobals:=by rfl) (hc:X.calm=true:=by rfl) (hg:Gl X "sorted":=by rfl) (hk:X.env.kindOf d=some .cell:=by rfl):
  ZE X (.Call (.Name "sorted" p) [.Name d pd] [⟨some "key",.Lambda params (BK d x p1 p2 p3 p4 p5 n1) scope Ke,kp⟩] pos) (fun ρ A=>kC Oh q (ar ρ i) A):=
 ⟨Gj (pf hr) (by have:=hr.dp;omega) T.t T.h uA hm hN Kf S Ld hq Kg we Li hc hg (fun env=>by have:=hr.un;show X.A.units+1+1+3+1<cLine;omega) hk⟩
end L2
namespace L2
open PySem PySem.Spec PySem.Calls PyProof.Rows
def yK(aB:List (List Key×Tr)):List Tr:=aB.map fun p=>.tup (p.1.map lh)
def oC:List Tr->Rs Tr
 |[.aE aB]=>if aB.all (fun p=>p.1.all keyOk)=true/\oa (yK aB)=true then .ok (.lst (cO (yK aB)))else .bad
 |_=>.bad
section
variable {X:Cx}{pins:List (Addr×Obj)}{σ:St}{H:Hp}{s:Shared}{B:bP}
theorem yL{l:List (List Key×V)}{m:List (List Key×Addr×Value)}(q:KT H l m)(hb:HB B H){K:PySem.W.Frag}:∀{aB:List (List Key×Tr)},l.map (·.1)=aB.map (·.1)->aB.all (fun p=>p.1.all keyOk)=true->Vals (m.map fun x=>V.ref x.2.1) (m.map fun x=>Value.ref x.2.1)/\aL K (aQ B H) (m.map fun x=>V.ref x.2.1) (yK aB):=by
 induction q with
 |nil=>
  intro aB e _;cases aB with
  |nil=>exact⟨.nil,.nil⟩
  |cons _ _=>cases e
 |@cons p q ps qs hq t ih=>
  intro aB e hk;cases aB with
  |nil=>cases e
  |cons kt aB=>
   rw[ay,ay]at e;injection e with e1 e2
   rw[eV,aM]at hk;obtain⟨i1,i2⟩:=ih e2 hk.2;obtain⟨h1,h2,_⟩:=hq;refine⟨.cons rfl i1,.cons ?_ i2⟩;rw[e1]at h2;exact .tup (hb.tup h2) (oo hk.1)
theorem Ad(I:Inv X pins σ H s)(hb:HB B H){v:V}{aB:List (List Key×Tr)}(r:Rep X.K (aQ B H) v (.aE aB))(hk:aB.all (fun p=>p.1.all keyOk)=true):
  ∃(a:Addr) (o:Obj) (es:Array DictEntry) (ep:Nat) (vs:List V) (us:List Value),v=.ref a/\(a==sysModules)=false/\s.heap.get? a=some o/\o.cls=.type "dict"/\o.data=.dict es ep/\es.size<=sizeLine/\es.toList.map (·.key)=us/\Vals vs us/\aL X.K (aQ B H) vs (yK aB):=by
 obtain⟨a,aw,rfl,h,e,rr⟩:=r.pT;obtain⟨hz,hs,xs,rel,o,es,ep,g1,g2,g3,g4,g5⟩:=(show bu X.prog X.w H s.heap a (.dT aw)from(h.same aG).ok I.bQ);obtain⟨k1,k2⟩:=yL (K:=X.K) rel hb e hk;have hsz:es.size=xs.length:=by rw[<-bz,g4,aj]
 refine⟨a,o,es,ep,_,_,rfl,hs,g1,g2.1,g3,by rw[hsz,<-Paired.length rel];exact hz,?_,k1,k2⟩;rw[g4,bj]
 rfl
theorem BM(hu:X.A.units+4<cLine)(hc:X.calm=true):g9 X (.builtin "sorted") oC:=by
 intro pins s σ H xs us Q I rv ⟨B,ts,hb,r,q⟩;have key:∃aB,ts=[.aE aB]/\aB.all (fun p=>p.1.all keyOk)=true/\oa (yK aB)=true/\∀v H',au H H'->Rep X.K (aQ B H') v (.lst (cO (yK aB)))->Q v H':=by
  unfold oC at q;split at q
  ·obtain⟨h0,z⟩:=fh q;exact⟨_,rfl,h0.1,h0.2,z⟩
  ·exact(show False from q).elim
 obtain⟨aB,rfl,hk,ok,k⟩:=key;obtain⟨x,rfl,h⟩:=gs r;obtain⟨u,rfl,ru⟩:=vals1 rv;obtain⟨a,o,es,ep,vs,us,rfl,hs,g1,g2,g3,hz,P7,uq,rr⟩:=Ad I hb h hk;cases(show u=Value.ref a from ru);obtain⟨_,z9,nd,same⟩:=oy ok;obtain⟨hl,ht⟩:=uy I ok rr uq;have hz:us.length<=64:=by rw[hl,aj];omega
 refine call_function_entry kind_sorted plain_sorted entry_sorted (args_sorted1 _) ?_
 unfold Builtin.«sorted»;refine aa (m:=checkCount "sorted" 1 1 _) (af ?_);refine aa (jn (A:=X.A.in1) (I.ok.hd hc) hs g1 g2 g3 (by assumption) fun h1 tk BF=>?_);rw[P7];refine aa (iI ?_ (by simpa using bp hz (by decide)));have BZ:(h1.push (seqObj "list" us.toArray 0)).get? h1.objs.size=some (seqObj "list" us.toArray 0):=aU _ rfl;refine aa (cV (dy slot_list_sort ⟨_,BZ,rfl⟩ mI (lL (tk:=tk) (d:=s.drawn) hu I BF uq hl ht nd (by rw[aj];exact z9) same (fun D hD=>k _ _ (au.upd hD) (.wy hb hD (oz ok rr))) fun s' he=>⟨_,rfl,af ⟨_,rfl,he⟩⟩) (args_list_sort _)))
end
end L2
namespace PySem
open PySem PySem.Spec PySem.Calls PyProof.Rows L2
theorem xx(a:Addr)(o:Obj)(es:Array DictEntry)(ep:Nat)(lo:(a==sysModules)=false)(hc:o.cls=.type "dict")(hd:o.data=.dict es ep)(hn:es.size<=sizeLine):Meets (Builtin.«tuple.__new__» ⟨[.type "tuple",.ref a],[]⟩)
  (fun A R s=>A.handled=none/\s.heap.get? a=some o/\∀(h':Heap) (tk:Nat),(∀b o,s.heap.get? b=some o->h'.get? b=some o)->R (.ok (.ret (.ref h'.objs.size))) {s with heap:=h'.push {cls:=.type "tuple",data:=.seq (es.toList.map (·.key)).toArray},toks:=tk}):=
 .of_wp fun prog w A R s ⟨hh,hm,h⟩=>by
  have q1:=sub_tuple_self;have q2:=init_tuple_lookup;have q3:=madeHere_tuple;have q4:s.TypeIs (.ref a) "dict":=⟨o,hm,hc⟩
  wp_walk using gY q4,jn (show A.in1.handled=none from hh) lo hm hc hd hn
  intro h' tk hk;show wpAny _ _ (Builtin.Tuple.tupleExact (es.toList.map (·.key)).toArray>>=fun v=>ret v) _ _ _;unfold Builtin.Tuple.tupleExact;refine aa (eQ ?_ (show(es.toList.map (·.key)).toArray.size<=sizeLine by simpa using hn));exact af ⟨_,rfl,h h' tk hk⟩
end PySem
namespace L2
open PySem PySem.Spec PySem.Calls PyProof.Rows
def uB:List Tr->Rs Tr
 |[.aE aB]=>if aB.all (fun p=>p.1.all keyOk)=true then .ok (.tup (yK aB))else .bad
 |_=>.bad
section
variable {X:Cx}
theorem D7(hc:X.calm=true):g9 X (.type "tuple") uB:=by
 intro pins s σ H xs us Q I rv ⟨B,ts,hb,r,q⟩;have key:∃aB,ts=[.aE aB]/\aB.all (fun p=>p.1.all keyOk)=true/\∀v H',au H H'->Rep X.K (aQ B H') v (.tup (yK aB))->Q v H':=by
  unfold uB at q;split at q
  ·obtain⟨h0,z⟩:=fh q;exact⟨_,rfl,h0,z⟩
  ·exact(show False from q).elim
 obtain⟨aB,rfl,hk,k⟩:=key;obtain⟨x,rfl,h⟩:=gs r;obtain⟨u,rfl,ru⟩:=vals1 rv;obtain⟨a,o,es,ep,vs,us,rfl,hs,g1,g2,g3,hz,P7,uq,rr⟩:=Ad I hb h hk;cases(show u=Value.ref a from ru);refine callType_new F.called_tuple (by decide) (F.typeCall_tuple_1 _) (F.newCall_tuple_1 _) (fun obj=>F.args_object_init_2 obj _) F.entry_tuple_new (xx a o es ep hs g2 g3 hz) ⟨I.ok.hd hc,g1,fun h' tk kp=>⟨⟨_,aU _ rfl,rfl⟩,?_⟩⟩;rw[P7];have I1:Inv X pins σ H {s with heap:=h',toks:=tk}:=I.kept (t':=tk) kp;have hl:us.length<=sizeLine:=by rw[<-P7,aj,bz];exact hz
 have I2:Inv X pins σ (upd H h'.objs.size (.tup vs)) {s with heap:=h'.push {cls:=.type "tuple",data:=.seq us.toArray},toks:=tk}:=
  I1.laid (t':=tk) (fun b o e=>aD _ e) (aA _) (show bu X.prog X.w _ _ _ (.tup vs)from⟨by rw[uq.length];exact hl,us,uq,jU.new _ _⟩)
 have hf:=I1.bQ.fresh (aA h'.objs.size);exact⟨.ref h'.objs.size,_,I2,rfl,k _ _ (au.upd hf) (.Jj hb hf rr)⟩
end
end L2
namespace L2
open PySem PySem.Spec PySem.Calls PyProof.Rows
def yM(r:Rz Tr):Rz (List Tr):=r.bind fun t A=>match t with
 |.tup ts=>.ok ts A
 |_=>.bad
section
variable {X:Cx}{tg iter:Expr}{body:List Stmt}{T:j_}{G:av->Ab->Rz Out}{pos:Pos}
inductive SV(X:Cx)(F:av->Ab->Rz Tr)(σ:St)(H:Hp)(R:It->Hp->Prop):Prop
 |mk (B:bP) (A:Ab) (ρ:av):HA X.K B A H->bb X.K B H σ ρ->dj ρ->(cF (XE X B H) (F ρ A) fun t A'=>∃ts,t=.tup ts/\∀J B' H',Grows B H B' H'->HA X.K B' A' H'->js X.K B' J H' ts->R J H')->SV X F σ H R
theorem D8{F:av->Ab->Rz Tr}(h:PE X iter (tE X F)):PI X tg iter (SV X F):=by
 intro pins s σ H R I ⟨B,A,ρ,ha,r,n,q⟩;refine dY (h pins s σ H (fun x H1=>∃a vs,x=.ref a/\hZ X.K H1 a vs/\R (Qy X.K a) H1) I ⟨B,A,ρ,ha,r,n,q.mono fun t A1 ⟨ts,et,k⟩ v B1 H1 g1 gq rv=>?_⟩) fun v s1 ⟨x,H1,I1,r1,a,vs,ex,e1,k⟩=>?_
 ·subst et;obtain⟨a,vs,rfl,h,rr⟩:=rv.cZ;exact⟨a,vs,rfl,au.tup aG h,k _ B1 H1 g1 gq (t6 h rr)⟩
 ·subst ex;cases r1;obtain⟨aY,rv,p,hz⟩:=I1.tuple e1;refine jH (show s1.heap.IsTuple a aY.toArray from p) ⟨s1.heap.objs.size,[s1.heap.objs.size],_,_,H1,rfl,I1.kept (t':=s1.toks) fun b o e=>aD _ e,rb a _,⟨_,aU _ rfl,rfl,rfl⟩,fun b hb=>?_,k⟩;rw[cv.mp hb];exact I1.uK (aA _) (I1.bQ.fresh (aA _))
theorem Km{F:av->Ab->Rz Tr}(hi:ZE X iter F)(hg:QG X tg T)(hT:gk T)(hb:ZB X body G)(hp:PassesOwn (model X.prog X.w) X.A X.env X.xe:=by first|exact gU|exact gP) (hc:X.calm=true:=by rfl)
  (hs:isSet iter=false:=by rfl):ZS X (.For tg iter body [] pos) (fun ρ A=>f' T G (yM (F ρ A)) ρ):=
 ⟨(uL hp hc (D8 hi.h) hg.h hb.h (cL hs)).weak fun D σ H ⟨B0,H0,B,A,ρ,mZ,g,ha,r,n,q⟩=>⟨B,A,ρ,ha,r,n,((cF.bind (cF.bind q)).imp fun c A' x=>x.grow mZ g).mono fun t A1 qt=>by
   have key:∃ts,t=.tup ts/\cF (XE X B0 H0) (fK T G ts ρ A1) (iZ X D B0 H0):=by
    split at qt
    ·exact⟨_,rfl,qt⟩
    ·exact(show False from qt).elim
   obtain⟨ts,et,qt⟩:=key;refine⟨ts,et,fun J B1 H1 NV gq gt=>?_⟩;have g1:Grows B0 H0 B1 H1:=g.trans mZ NV;have va:HB B1 H1:=gq.hb;refine⟨fun i m bK H'=>m=ts.length - i/\i<=ts.length/\∃B' A' eK,Grows B1 H1 B' H'/\HA X.K B' A' H'/\bb X.K B' H' bK eK/\dj eK/\cF (XE X B0 H0) (fK T G (ts.drop i) eK A') (iZ X D B0 H0),⟨_,rfl,bG _,B1,A1,ρ,.refl,gq,r.grow n NV,n,qt⟩,?_⟩
   rintro i m bK H' ⟨rfl,hi,B',A',eK,g',dB,r',n',q'⟩
   by_cases fc:i<ts.length
   ·rw[lS fc]at q';refine .inr ⟨gt.go i B' H' fc g'.fH dB.hb,fun pL H2=>∃B2 A2 ρ2,Grows B1 H1 B2 H2/\HA X.K B2 A2 H2/\bb X.K B2 H2 pL ρ2/\dj ρ2/\cF (XE X B0 H0) (fK T G (ts.drop (i+1)) ρ2 A2) (iZ X D B0 H0),
     fun pL H2 x=>⟨ts.length - (i+1),by omega,rfl,fc,x⟩,fun x H2 hx=>?_⟩
    obtain⟨s2,t,et,rt⟩:=gt.xU i B' H' x H2 fc g'.fH dB.hb hx;have Jh:ts[i]=t:=by rw[aI fc]at et;exact Option.some.inj et
    rw[Jh]at q';have g2:Grows B1 H1 B' H2:=g'.trans va (.of s2);refine zF hT va g2 (dB.same s2) (r'.same s2) n' rt (cF.bind q') fun ρ1 xQ H3 q1 g3 yt r3 n3 _=>?_
    refine⟨B1,H1,B',A',ρ1,va,g3,yt,r3,n3,((cF.bind q1).imp fun c RD x=>x.grow mZ g1).mono fun o A4 qo=>?_⟩;cases o with
    |nx ρ2=>exact fun wM B4 H4 g4 kq r4 n4=>⟨B4,A4,ρ2,g4,kq,r4,n4,qo⟩
    |ct ρ2=>exact fun wM B4 H4 g4 kq r4 n4=>⟨B4,A4,ρ2,g4,kq,r4,n4,qo⟩
    |bk ρ2=>exact fun wM B4 H4 g4 kq r4 n4=>qo wM B4 H4 (g1.trans mZ g4) kq r4 n4
    |ret t=>exact fun v B4 H4 g4 kq r4=>qo v B4 H4 (g1.trans mZ g4) kq r4
   ·have e:i=ts.length:=by omega
    subst e;rw[jI]at q';exact .inl ⟨gt.stop B' H' g'.fH,q' bK B' H' (g1.trans mZ g') dB r' n'⟩⟩⟩
end
end L2
namespace L2
open PySem PySem.Spec PySem.Calls PyProof.Rows
def D9(ix:List (Option Nat))(T:j_)(A:av->Rs Bool)(F:av->Rs Tr)(r:Rz (List Tr))(ρ:av):Rz Tr:=r.bind fun ts A'=>ai (gL ix T A F (.ok ts) ρ) A'
section
variable {X:Cx}{tg iter elt:Expr}{ifs:List Expr}{T:j_}{A:av->Rs Bool}{F:av->Rs Tr}{F0:av->Ab->Rz Tr}{pos:Pos}{ix:List (Option Nat)}{scope:Scope}{N':List Str}
theorem BN{σ:St}{H:Hp}{Q:VK}(hT:gk T)(q:tE X (fun ρ A'=>D9 ix T A F (yM (F0 ρ A')) ρ) σ H Q):IT (SV X F0) ix (Fm X.K T) (Fl X.K A) (Fj X.K F) σ H Q:=by
 obtain⟨B,A',ρ,ha,r,n,q⟩:=q;refine⟨B,A',ρ,ha,r,n,(cF.bind (cF.bind q)).mono fun t A1 qt=>?_⟩;have key:∃ts,t=.tup ts/\cF (XE X B H) (ai (gL ix T A F (.ok ts) ρ) A1) fun t A2=>∀v B' H',Grows B H B' H'->HA X.K B' A2 H'->Rep X.K (aQ B' H') v t->Q v H':=by
  split at qt
  ·exact⟨_,rfl,qt⟩
  ·exact(show False from qt).elim
 obtain⟨ts,et,qt⟩:=key;refine⟨ts,et,fun J B1 H1 g1 gq gt D hD=>?_⟩;have ql:Fi X H (if ts.length<=iT then(lE T A F ts (kb ix ρ)).bind fun ys=>Rs.ok (Tr.lst ys)else .bad) (fun t=>∀v B' H',Grows B H B' H'->HA X.K B' A1 H'->Rep X.K (aQ B' H') v t->Q v H'):=f_ (X:=X) qt;by_cases hz:ts.length<=iT
 ·rw[ab hz]at ql;exact mS hT (mR ix ρ) gq.hb gt hz ((r.grow n g1).comp ix (g_ hD)) hD (Fi.bind ql) fun ys H' k s' rp=>k _ B1 H' (g1.trans ha.hb (.of s')) (gq.same s') rp
 ·rw[ae hz]at ql;exact(show False from ql).elim
theorem D_{i:Nat}{x:Str}{px g8:Pos}(Lk:e_ X N' ix scope)(hit:ZE X iter F0)(j5:wX X scope N' tg elt ifs T A F)(hT:gk T)(hN:X.N.Nodup:=by assumption) (hc:X.calm=true:=by rfl) (hi:X.N[i]?=some x:=by rfl) (hx:Loc X.env.scope x:=by first|exact Or.inl rfl|exact Or.inr rfl)
  (yd:swapsWith (.ListComp elt [⟨tg,iter,ifs,0⟩] scope pos) (some (.Name x px)) g8.line X.env=pure true:=by rfl) (hs:isSet iter=false:=by rfl) (hf:X.fn x=true\/X.env.scope.names.lookup x=some .local:=by first|exact .inl rfl|exact .inr rfl|assumption):
  ZS X (.Assign [.Name x px] (.ListComp elt [⟨tg,iter,ifs,0⟩] scope pos) g8) (fun ρ A'=>cE i (D9 ix T A F (yM (F0 ρ A')) ρ) ρ):=
 ⟨(mQ Lk hc hN hi hx (D8 hit.h) j5.to.K9 yd (cL hs) hf).weak fun D σ H ⟨B0,H0,B,A',ρ,hb,g,ha,r,n,q⟩=>BN hT (ie (F:=fun ρ A'=>D9 ix T A F (yM (F0 ρ A')) ρ) hb g ha r n q.bind fun t A2 v B' H' qt g' dB r' rv _=>qt _ B' H' g' dB (r'.set i rv) (n.set i t))⟩
end
end L2
namespace L2
open PySem PySem.Spec PySem.Calls PyProof.Rows
def OD(r:Rz Bool)(k:Ab->Rz Bool):Rz Bool:=r.bind fun c A=>if c then k A else .ok false A
def OE(r:Rz Tr)(k:Ab->Rz Tr):Rz Tr:=r.bind fun t A=>match t with
 |.bl c=>if c then k A else .ok (.bl false) A
 |_=>.bad
section
variable {X:Cx}{a b:Expr}{pos:Pos}{P R:av->Ab->Rz Bool}{F G:av->Ab->Rz Tr}
theorem Kn(h1:ZT X a P)(h2:ZT X b R):ZT X (.BoolOp .And [a,b] pos) (fun ρ A=>OD (P ρ A) (R ρ)):=
 ⟨(pw_and h1.h (pw_and1 h2.h)).pt.weak fun σ H Q ⟨B,A,ρ,ha,r,n,q⟩=>⟨B,A,ρ,ha,r,n,(cF.bind q).mono fun c A1 qc B1 H1 g1 gq=>by
   cases c with
   |true=>exact⟨B1,A1,ρ,gq,r.grow n g1,n,((show cF (XE X B H) (R ρ A1) _ from qc).imp fun c A' x=>x.grow ha.hb g1).mono fun b A2 qb B2 H2 g2 sV=>qb B2 H2 (g1.trans ha.hb g2) sV⟩
   |false=>exact(show∀B' H',Grows B H B' H'->HA X.K B' A1 H'->Q false H' from qc) B1 H1 g1 gq⟩⟩
theorem OF(h1:ZE X a F)(h2:ZE X b G):ZE X (.BoolOp .And [a,b] pos) (fun ρ A=>OE (F ρ A) (G ρ)):=
 ⟨(Ia h1.h (Ci h2.h)).weak fun σ H Q ⟨B,A,ρ,ha,r,n,q⟩=>⟨B,A,ρ,ha,r,n,(cF.bind q).mono fun t A1 qt v B1 H1 g1 gq rv=>by
   have key:∃c,t=.bl c/\cF (XE X B H) (if c=true then G ρ A1 else .ok (.bl false) A1) (fun t A'=>∀v B' H',Grows B H B' H'->HA X.K B' A' H'->Rep X.K (aQ B' H') v t->Q v H'):=by
    split at qt
    ·exact⟨_,rfl,qt⟩
    ·exact(show False from qt).elim
   obtain⟨c,rfl,qt⟩:=key;cases rv.rq;refine⟨c,rfl,?_⟩;cases c with
   |true=>exact⟨B1,A1,ρ,gq,r.grow n g1,n,((show cF (XE X B H) (G ρ A1) _ from qt).imp fun c A' x=>x.grow ha.hb g1).mono fun t A2 qb v B2 H2 g2 sV r2=>qb v B2 H2 (g1.trans ha.hb g2) sV r2⟩
   |false=>exact(show∀v B' H',Grows B H B' H'->HA X.K B' A1 H'->Rep X.K (aQ B' H') v (.bl false)->Q v H' from qt) (.bl false) B1 H1 g1 gq (.bl false)⟩⟩
end
end L2
namespace L2
open PySem PySem.Spec PyProof.Rows PySem.W
structure Ln where
 bl:List Str
 own:List Str
 Uy:List Str
 fl:List (Str×List Str)
 kd:List Df
 er:List Str
 xs:List (Str⊕String)
 cs:List Str
 rs:List Str
namespace Ln
def val(K:Frag):Str⊕String->Value
 |.inl c=>.ref (clsAt K c)
 |.inr c=>.type c
def tab(er:List Str):Str⊕String->List (Str×Bool)
 |.inl c=>er.map fun x=>(x,x==c)
 |.inr _=>er.map fun x=>(x,true)
def HK(K:Frag)(o:Ln):Bool:=o.bl.all (fun x=>decide (nsIn K mainGlobals x=some none))&&(o.own.all (fun c=>decide (nsIn K mainGlobals c=some (some (.ref (clsAt K c)))))&&(o.Uy.all (fun c=>makesIn K (clsAt K c)&&(keepIn K (.ref (clsAt K c))&&decide (nsIn K mainGlobals c=some (some (.ref (clsAt K c))))))&&
 (o.fl.all (fun p=>Gm K (clsAt K p.1)&&SR K (clsAt K p.1) p.2)&&(o.kd.all (fun d=>decide (specialIn K (.ref (d.adr K)) "__get__"=some (some (.builtin "function.__get__")))&&decide (takesIn K (.ref (d.adr K))=some false))&&
 (Ow K o.er&&(o.xs.all (fun c=>Ov K (val K c) (tab o.er c))&&(o.cs.all (fun c=>Ox K c o.er)&&o.rs.all (fun c=>excIn K (clsAt K c) TR "ValueError.__new__"))))))))
structure Ok(o:Ln)(K:Frag)(mg:Str->Option Value):Prop where
 bl:∀{x},o.bl.contains x=true->mg x=none
 P8:∀{c},o.own.contains c=true->mg c=some (.ref (clsAt K c))
 XJ:∀{c},o.Uy.contains c=true->SU K mg c
 fl:∀{c f fs},o.fl.lookup c=some fs->fs.contains f=true->Nw K [c] f
 bn:∀(i:Nat) {d:Df},o.kd[i]?=some d->NA K (d.adr K)
 xc:∀(i:Nat) {c},o.xs[i]?=some c->Hm K (val K c) (tab o.er c)
 ca:∀{c},o.cs.contains c=true->o.own.contains c=true->zJ K mg c o.er
 er:∀{c},o.rs.contains c=true->o.own.contains c=true->Nv K mg c
theorem ok{o:Ln}{K:Frag}{mg:Str->Option Value}{h:Heap}(X:K.In h)(G:h.Ns mainGlobals mg)(k:o.HK K=true):o.Ok K mg:=by
 unfold HK at k;simp only[aM,bw,cH]at k;obtain⟨k1,k2,k3,k4,k5,k6,k7,k8,k9⟩:=k;have P8:∀{c},o.own.contains c=true->mg c=some (.ref (clsAt K c)):=fun m=>mg_of X G (k2 _ (kJ.mp m));refine⟨fun m=>mg_none_of X G (k1 _ (kJ.mp m)),P8,fun m=>?_,fun{c f fs} l m=>?_,fun i d e=>?_,fun i c e=>?_,fun m n=>D3 (P8 n) (k8 _ (kJ.mp m)),fun m n=>⟨P8 n,k9 _ (kJ.mp m)⟩⟩
 ·have q:=k3 _ (kJ.mp m);exact⟨q.1,q.2.1,mg_of X G q.2.2⟩
 ·have q:=k4 _ (oB l);refine⟨fun x hx=>?_⟩;cases cv.mp hx;exact⟨D4 q.1,(bN (bw.mp q.2 f (kJ.mp m)):findIn K (.ref (clsAt K c)) f=some none)⟩
 ·have q:=k5 _ (bM e);exact⟨q.1,q.2⟩
 ·refine Kj (k7 _ (bM e)) k6 ?_
  cases c<;>simp[tab,Function.comp_def]
end Ln
end L2
namespace kD
open PySem L2
def top(i:Nat):Stmt:=PySem.Challenge.pw_talkhall_k33_lacking_and_ready.main.body.getD i (.Pass ⟨0,0,0,0⟩)
def fm:Df:=⟨none,"followers_of","followers_of",top 1,["known"]⟩
def fo:Df:=⟨none,"heights_of","heights_of",top 2,["letters"]⟩
def vq:Df:=⟨none,"order","order",top 3,["letters"]⟩
def oD:Df:=⟨none,"lacking","lacking",top 4,["letters"]⟩
def pX:Df:=⟨none,"ready","ready",top 5,["letters"]⟩
def sj:Df:=⟨none,"_law_cell","_law_cell",top 7,["_law_script","_law_k"]⟩
def vt:Df:=⟨none,"_law_mix","_law_mix",top 8,["_law_cell_here","_law_prime","_law_many"]⟩
def nv:Df:=⟨none,"_law_same","_law_same",top 9,["_law_found","_law_due"]⟩
def ig:Df:=⟨none,"_law_letters","_law_letters",top 10,["_law_cell_here","_law_many"]⟩
def oE:Df:=⟨none,"_law_mixed","_law_mixed",top 11,["_law_some","_law_cell_here"]⟩
def gC:Df:=⟨none,"_law_is_ready","_law_is_ready",top 13,["_law_behind","_law_mark"]⟩
def oZ:Df:=⟨none,"law","law",top 14,["_law_script"]⟩
def DS:List Df:=[fm,fo,vq,oD,pX,sj,vt,nv,ig,oE,gC,oZ]
structure Gr(K:PySem.W.Frag)(w:World)(mg:Str->Option Value)(tc tP:Addr):Prop where
 d:∀(i:Nat) {e:Df},DS[i]?=some e->e.Ok K mg
 all:mg "all"=none
 bool:mg "bool"=none
 dict:mg "dict"=none
 int:mg "int"=none
 isinstance:mg "isinstance"=none
 len:mg "len"=none
 list:mg "list"=none
 max:mg "max"=none
 range:mg "range"=none
 set:mg "set"=none
 sorted:mg "sorted"=none
 str:mg "str"=none
 tuple:mg "tuple"=none
 zip:mg "zip"=none
 tab:TabAt K "order" tc tP
abbrev CS(n:Nat)(d:Df)(a b:Nat):={F:av->Ab->Rz Out//∀{P:Program} {w:World} {K:PySem.W.Frag} {mg:Str->Option Value} {base:Heap} {tc tP:Addr},Gr K w mg tc tP->sY P w K mg base (pR P w) n d (vb K (m4 a b F))}
abbrev CP(n:Nat)(d:Df)(a b:Nat):={F:av->Rs Out//∀{P:Program} {w:World} {K:PySem.W.Frag} {mg:Str->Option Value} {base:Heap} {tc tP:Addr},Gr K w mg tc tP->sY P w K mg base lz n d (spT K (CW a b F))}
abbrev CZ(n:Nat)(d:Df)(a b:Nat):={F:av->Ab->Rz Out//∀{P:Program} {w:World} {K:PySem.W.Frag} {mg:Str->Option Value} {base:Heap} {tc tP:Addr},Gr K w mg tc tP->sY P w K mg base lz n d (spT K (rR a b F))}
abbrev CR(n:Nat)(d:Df)(a b:Nat)(r:List Tr->Rs Tr):={F:av->Rs Out//∀{P:Program} {w:World} {K:PySem.W.Frag} {mg:Str->Option Value} {base:Heap} {k:Nat} {tc tP:Addr},Gr K w mg tc tP->n<=k->sY P w K mg base lz k d (spT K r)->sY P w K mg base lz (k+1) d (spT K (CW a b F))}
abbrev KS(n:Nat)(d:Df)(m:List Tr->Ab->Rz Tr):Prop:=∀{P:Program} {w:World} {K:PySem.W.Frag} {mg:Str->Option Value} {base:Heap} {tc tP:Addr},Gr K w mg tc tP->sY P w K mg base (pR P w) n d (vb K m)
abbrev KP(n:Nat)(d:Df)(m:List Tr->Rs Tr):Prop:=∀{P:Program} {w:World} {K:PySem.W.Frag} {mg:Str->Option Value} {base:Heap} {tc tP:Addr},Gr K w mg tc tP->sY P w K mg base lz n d (spT K m)
def fq:CS 1 fm 1 4:=⟨_,fun T=>Kl ["known","followers","mark","other"] (T.d 0 rfl) fun nd _ _ _ _ _ _ hr=>(aZ (dG (i:=1) (BD (i7 (HL hr) rfl) T.dict (Gb (N':=["mark"]) (ix:=[none]) (e_.of (N:=["known","followers","mark","other"]) (sc:=aF fm.st) rfl rfl (by decide+kernel)) (xa (ah 0)) (fun s H ex=>NB.of (by show List.Nodup (["mark"]:List Str);decide+kernel)))) nd) (aZ (JT (xa (ah 0)) (c_ 2 nd) (c0 2) (cB (rX (lq (nc (dg hr) (ah 0) (ah 2))) (c_ 3 nd) (c0 3) (cB (w6 (pS (i3 (zR (dg hr)) (ah 3) (ah 0))) (cB (om (rY jc kG fI n_ (B8 (aK (nc (dg hr) (ah 1) (ah 3)))) (cC (aK (ah 2)) dX)))) oX))))) (cB (kr (aK (ah 1))))))⟩
def fv:=m4 1 4 fq.1
theorem sk:KS 1 fm fv:=fq.2
def gD:CZ 2 fo 1 10:=⟨_,fun T=>Gp ["letters","known","followers","waits","heights","level","height_now","freed","mark","follower"] (T.d 1 rfl) fun nd _ _ _ _ _ _ hr=>(aZ (dG (i:=1) (aK (PD (i5 (i7 (HL hr) rfl) T.dict (aq (ah 0) aP)))) nd) (aZ (dG (i:=2) (oY (sk T) hr (cC (aK (ah 1)) dX)) nd) (aZ (dG (i:=3) (lr (i5 (i7 (HL hr) rfl) T.dict (aq (Hv (N':=["mark","known"]) (ix:=[none,some 1]) (e_.of (N:=["letters","known","followers","waits","heights","level","height_now","freed","mark","follower"]) (sc:=aF fo.st) rfl rfl (by first|decide+kernel|exact rfl|kernel_rfl)) (xa (ah 1)) ⟨fun s H ex=>⟨(c_ 0 (by show List.Nodup (["mark","known"]:List Str);decide+kernel)),zM,(lp (aq (ah 0) (aq (cp lH T.len (aq (F3 (N':=["other","known"]) (ix:=[none,some 1]) (e_.of (N:=["mark","known"]) (sc:=_) rfl rfl (by first|decide+kernel|exact rfl|kernel_rfl)) (lq (nc (dg hr) (ah 1) (ah 0))) ⟨fun s H ex=>⟨(c_ 0 (by show List.Nodup (["other","known"]:List Str);decide+kernel)),(uk (i3 (zR (dg hr)) (ah 0) (ah 1))),(ah 0)⟩⟩ (c0 0)) aP)) aP)))⟩⟩ (c0 0)) aP))) nd) (aZ (dG (i:=4) (lr vg) nd) (aZ (Dx (i:=5) (N':=["mark","waits"]) (ix:=[none,some 3]) (e_.of (N:=["letters","known","followers","waits","heights","level","height_now","freed","mark","follower"]) (sc:=aF fo.st) rfl rfl (by first|decide+kernel|exact rfl|kernel_rfl)) (xa (ah 1)) ⟨fun s H ex=>⟨(c_ 0 (by show List.Nodup (["mark","waits"]:List Str);decide+kernel)),(uk (i3 (uW (pf hr)) (nc (dg hr) (ah 1) (ah 0)) bU)),(ah 0)⟩⟩ (c0 0) nd) (aZ (dG (i:=6) (aK bU) nd) (aZ (zN 100 (m9 (i3 MT (cp lH T.len (aq (ah 5) aP)) bU)) (aZ (dG (i:=7) (lr (zO aP)) nd) (aZ (zT 100 (aK (ah 5)) (c_ 8 nd) (c0 8) (aZ (pU (dg hr) (B8 (aK (ah 4))) (aK (ah 8)) (aK (ah 6))) (cB (zT 100 (aK (nc (dg hr) (ah 2) (ah 8))) (c_ 9 nd) (c0 9) (aZ (F6 (dg hr) (B8 (aK (ah 3))) (aK (ah 9)) (aK bU)) (cB (w6 (m9 (i3 (uW (pf hr)) (nc (dg hr) (ah 3) (ah 9)) bU)) (cB (om (rY jc kG fI n_ (B8 (aK (ah 7))) (cC (aK (ah 9)) dX)))) oX))))))) (aZ (dG (i:=5) (aK (ah 7)) nd) (cB (JQ 6 (aK bU))))))) (cB (kr (aK (ah 4)))))))))))⟩
def gE:=rR 1 10 gD.1
theorem vu:KP 2 fo gE:=gD.2
def vw:CS 6 vq 1 2:=⟨_,fun T=>OC ["letters","heights"] (T.d 2 rfl) fun nd _ _ _ _ _ _ o7 hr=>(aZ (dG (i:=1) (aK (dZ (vu T) hr (aq (ah 0) aP))) nd) (cB (kr (Dw kP T.tuple (cC (Gq (q:="order.<locals>.<lambda>") 1 hr T.tab (o7.trans (D6 T.tab.t)) T.sorted) dX)))))⟩
def ny:=m4 1 2 vw.1
theorem vx:KS 6 vq ny:=vw.2
def oF:CZ 1 oD 1 5:=⟨_,fun T=>Gp ["letters","known","missing","letter","mark"] (T.d 3 rfl) fun nd _ _ _ _ _ _ hr=>(aZ (dG (i:=1) (aK (PD (i5 (i7 (HL hr) rfl) T.dict (aq (ah 0) aP)))) nd) (aZ (dG (i:=2) (lr vg) nd) (aZ (rX (lq (ah 0)) (c_ 3 nd) (c0 3) (cB (rX (lq (Dv (dg hr) (ah 3) bU)) (c_ 4 nd) (c0 4) (cB (w6 (pS (i3 (Dz (dg hr)) (ah 4) (ah 1))) (cB (pU (dg hr) (B8 (aK (ah 2))) (aK (ah 4)) (aK Bv))) oX))))) (cB (kr (rV (i4 kP T.tuple (aq (cp (BM (HL hr) rfl) T.sorted (aq (ah 2) aP)) aP))))))))⟩
def cz:=rR 1 5 oF.1
theorem oG:KP 1 oD cz:=oF.2
def pY:CS 7 pX 1 4:=⟨_,fun T=>Kl ["letters","known","whole","mark"] (T.d 4 rfl) fun nd _ _ _ _ _ _ hr=>(aZ (dG (i:=1) (aK (PD (i5 (i7 (HL hr) rfl) T.dict (aq (ah 0) aP)))) nd) (aZ (dG (i:=2) (lr vg) nd) (aZ (Km (oY (vx T) hr (cC (aK (ah 0)) dX)) (c_ 3 nd) (c0 3) (cB (w6 (m9 (m6 (cp (CY rfl) T.all (aq (F3 (N':=["other","whole"]) (ix:=[none,some 2]) (e_.of (N:=["letters","known","whole","mark"]) (sc:=aF pX.st) rfl rfl (by first|decide+kernel|exact rfl|kernel_rfl)) (lq (nc (dg hr) (ah 1) (ah 3))) ⟨fun s H ex=>⟨(c_ 0 (by show List.Nodup (["other","whole"]:List Str);decide+kernel)),zM,(rU (zR (dg hr)) (ah 0) (ah 1))⟩⟩ (c0 0)) aP)))) (cB (pU (dg hr) (B8 (aK (ah 2))) (aK (ah 3)) (aK Bv))) oX))) (cB (kr (rV (i4 (D7 rfl) T.tuple (aq (ah 2) aP))))))))⟩
def jo:=m4 1 4 pY.1
theorem vy:KS 7 pX jo:=pY.2
def xy:CP 1 sj 2 2:=⟨_,fun T=>Gn ["_law_script","_law_k"] (T.d 5 rfl) fun nd _ _ _ _ _ _ hr=>(oj (Du (i3 Rp (ah 1) (cp lH T.len (aq (ah 0) aP))) (m7 (m8 (Dv (dg hr) (ah 0) (ah 1)))) wZ) (m7 (m8 bU)))⟩
def fw:=CW 2 2 xy.1
theorem so:KP 1 sj fw:=xy.2
def Ae:CP 1 vt 3 4:=⟨_,fun T=>Gn ["_law_cell_here","_law_prime","_law_many","_law_blend"] (T.d 6 rfl) fun nd _ _ _ _ _ _ hr=>(oj (NG (i:=3) (gc CV (gc wA (ah 0) bU) (ah 1)) nd) (m7 (m8 (gc CV (gc CV (gc wA (ah 3) (gc mT (ah 3) bU)) (ah 1)) (ah 2)))))⟩
def bx:=CW 3 4 Ae.1
theorem ij:KP 1 vt bx:=Ae.2
def xA(r:List Tr->Rs Tr):CR 0 nv 2 2 r:=⟨_,fun T hk G=>Gn ["_law_found","_law_due"] (T.d 7 rfl) fun _ _ _ _ _ _ _ hr=>(oj (Du (m6 (cp t8 T.isinstance (aq (ah 1) (aq (wY T.tuple) aP)))) (oj (Du (Ds (ND (Hq (m6 (cp t8 T.isinstance (aq (ah 0) (aq (wY T.tuple) aP))))) (Hr (i3 (MS (pf hr)) (cp lH T.len (aq (ah 0) aP)) (cp lH T.len (aq (ah 1) aP)))))) (m7 (m8 Bv)) wZ) (m7 (m8 (cp (CY rfl) T.all (aq (F3 (N':=["_law_one","_law_other"]) (ix:=[none,none]) (e_.of (N:=["_law_found","_law_due"]) (sc:=aF nv.st) rfl rfl (by decide+kernel)) (NH T.zip (aq (ah 0) (aq (ah 1) aP))) ⟨fun s H ex=>⟨(Ht (is:=[0,1]) (vf (i:=0) (vf (i:=1) Hs (by show List.Nodup (["_law_one","_law_other"]:List Str);decide+kernel)) (by show List.Nodup (["_law_one","_law_other"]:List Str);decide+kernel))),zM,(dZ G hr (aq (ah 0) (aq (ah 1) aP)))⟩⟩ (CU [0,1])) aP))))) wZ) (oj (Du (i3 MU (ah 1) Ho) (m7 (m8 (rU MU (ah 0) Ho))) wZ) (oj (Du (Ds (ND (m6 (cp t8 T.isinstance (aq (ah 1) (aq (wY T.bool) aP)))) (Hr (m6 (cp t8 T.isinstance (aq (ah 0) (aq (wY T.bool) aP))))))) (m7 (m8 (zL (cp t8 T.isinstance (aq (ah 1) (aq (wY T.bool) aP))) (zL (cp t8 T.isinstance (aq (ah 0) (aq (wY T.bool) aP))) (Dt (rU (uW (pf hr)) (ah 0) (ah 1))))))) wZ) (m7 (m8 (zL (cp Jt T.isinstance (aq (ah 0) (aq (lp (aq (wY T.int) (aq (wY T.str) aP))) aP))) (Dt (rU (uW (pf hr)) (ah 0) (ah 1)))))))))⟩
def dh:Nat->List Tr->Rs Tr
 |0=>fun _=>.bad
 |n+1=>CW 2 2 (xA (dh n)).1
theorem oH{P:Program}{w:World}{K:PySem.W.Frag}{mg:Str->Option Value}{base:Heap}{tc tP:Addr}(T:Gr K w mg tc tP):∀n:Nat,sY P w K mg base lz (0+n) nv (spT K (dh n))
 |0=>OB (T.d 7 rfl)
 |n+1=>(xA _).2 T (iD ..) (oH T n)
def kE:CZ 2 ig 2 8:=⟨_,fun T=>Gp ["_law_cell_here","_law_many","_law_marks","_law_found","_law_k","_law_seed","_law_mark","_law_behind"] (T.d 8 rfl) fun nd _ _ _ _ _ _ hr=>(aZ (dG (i:=2) (lr (zO aP)) nd) (aZ (dG (i:=3) (lr (zO aP)) nd) (aZ (rX (w4 T.range (aq (dZ (ij T) hr (aq (ah 0) (aq bU (aq (gc mT (ah 1) bU) aP)))) aP)) (c_ 4 nd) (c0 4) (aZ (dG (i:=5) (aK (gc mT (ah 0) (gc wA bU (ah 4)))) nd) (aZ (dG (i:=6) (aK (lp (aq (dZ (ij T) hr (aq (ah 5) (aq bU (aq bU aP)))) (aq (ah 4) aP)))) nd) (aZ (F4 (i:=7) (N':=["_law_one","_law_seed"]) (ix:=[none,some 5]) (e_.of (N:=["_law_cell_here","_law_many","_law_marks","_law_found","_law_k","_law_seed","_law_mark","_law_behind"]) (sc:=aF ig.st) rfl rfl (by first|decide+kernel|exact rfl|kernel_rfl)) (lq (ah 2)) ⟨fun s H ex=>⟨(c_ 0 (by show List.Nodup (["_law_one","_law_seed"]:List Str);decide+kernel)),(uk (i3 (uW (pf hr)) (dZ (ij T) hr (aq (gc mT (ah 1) (gc wA bU (Dv (dg hr) (ah 0) bU))) (aq bU (aq bU aP)))) bU)),(ah 0)⟩⟩ (c0 0) nd) (aZ (w6 (pS (i3 (uW (pf hr)) (dZ (ij T) hr (aq (ah 5) (aq bU (aq bU aP)))) bU)) (cB (om (rY jc kG fI n_ (B8 (aK (ah 7))) (cC (aK (lp (aq (dZ (ij T) hr (aq (ah 5) (aq bU (aq bU aP)))) (aq (gc mT bU (dZ (ij T) hr (aq (ah 5) (aq bU (aq bU aP))))) aP)))) dX)))) oX) (aZ (om (rY jc kG fI n_ (B8 (aK (ah 2))) (cC (aK (ah 6)) dX))) (cB (om (rY jc kG fI n_ (B8 (aK (ah 3))) (cC (rV (lp (aq (ah 6) (aq (i4 kP T.tuple (aq (Gi (W4 hr) T.sorted T.set (ah 7)) aP)) aP)))) dX)))))))))) (cB (kr (aK (ah 3)))))))⟩
def gj:=rR 2 8 kE.1
theorem xB:KP 2 ig gj:=kE.2
def oJ:CZ 2 oE 2 4:=⟨_,fun T=>Gp ["_law_some","_law_cell_here","_law_left","_law_found"] (T.d 9 rfl) fun nd _ _ _ _ _ _ hr=>(aZ (dG (i:=2) (lr (i5 FX T.list (aq (ah 0) aP))) nd) (aZ (dG (i:=3) (lr (zO aP)) nd) (aZ (zN 100 (m9 (m6 (ah 2))) (cB (om (rY jc kG fI n_ (B8 (aK (ah 3))) (cC (rY PySem.F.slot_list_pop PySem.F.type_list_pop CD JF (B8 (aK (ah 2))) (cC (rV (dZ (ij T) hr (aq (gc mT (ah 1) (gc wA bU (cp lH T.len (aq (ah 2) aP)))) (aq bU (aq (cp lH T.len (aq (ah 2) aP)) aP))))) dX)) dX))))) (cB (kr (rV (i4 kP T.tuple (aq (ah 3) aP))))))))⟩
def ja:=rR 2 4 oJ.1
theorem BO:KP 2 oE ja:=oJ.2
def fy(r:List Tr->Rs Tr):CR 0 gC 2 2 r:=⟨_,fun T hk G=>Gn ["_law_behind","_law_mark"] (T.d 10 rfl) fun nd _ _ _ _ _ _ hr=>(m7 (m8 (zL (rU (zR (dg hr)) (ah 1) (ah 0)) (Dt (cp (CY rfl) T.all (aq (F3 (N':=["_law_one","_law_behind"]) (ix:=[none,some 0]) (e_.of (N:=["_law_behind","_law_mark"]) (sc:=aF gC.st) rfl rfl (by first|decide+kernel|exact rfl|kernel_rfl)) (lq (nc (dg hr) (ah 0) (ah 1))) ⟨fun s H ex=>⟨(c_ 0 (by show List.Nodup (["_law_one","_law_behind"]:List Str);decide+kernel)),zM,(dZ G hr (aq (ah 1) (aq (ah 0) aP)))⟩⟩ (c0 0)) aP))))))⟩
def b_:Nat->List Tr->Rs Tr
 |0=>fun _=>.bad
 |n+1=>CW 2 2 (fy (b_ n)).1
theorem lu{P:Program}{w:World}{K:PySem.W.Frag}{mg:Str->Option Value}{base:Heap}{tc tP:Addr}(T:Gr K w mg tc tP):∀n:Nat,sY P w K mg base lz (0+n) gC (spT K (b_ n))
 |0=>OB (T.d 10 rfl)
 |n+1=>(fy _).2 T (iD ..) (lu T n)
def Af:CS 14 oZ 1 11:=⟨_,fun T=>Kl ["_law_script","_law_k","_law_every","_law_some","_law_letters_here","_law_there","_law_lost","_law_mark","_law_behind","_law_one","_law_due"] (T.d 11 rfl) fun nd _ _ _ _ _ _ hr=>(aZ (rX (w4 T.range (aq bU aP)) (c_ 1 nd) (c0 1) (aZ (dG (i:=2) (aK (dZ (xB T) hr (aq (gc mT (dZ (so T) hr (aq (ah 0) (aq (ah 1) aP))) (ah 1)) (aq bU aP)))) nd) (aZ (F5 (i:=3) (N':=["_law_one","_law_script"]) (ix:=[none,some 0]) (e_.of (N:=["_law_script","_law_k","_law_every","_law_some","_law_letters_here","_law_there","_law_lost","_law_mark","_law_behind","_law_one","_law_due"]) (sc:=aF oZ.st) rfl rfl (by first|decide+kernel|exact rfl|kernel_rfl)) (lq (ah 2)) ⟨fun s H ex=>⟨(c_ 0 (by show List.Nodup (["_law_one","_law_script"]:List Str);decide+kernel)),(uk (i3 MT (dZ (ij T) hr (aq (gc mT (dZ (so T) hr (aq (ah 1) (aq bU aP))) (Dv (dg hr) (Dv (dg hr) (ah 0) bU) bU)) (aq bU (aq bU aP)))) bU)),(ah 0)⟩⟩ (c0 0) nd) (aZ (dG (i:=4) (aK (dZ (BO T) hr (aq (ah 3) (aq (gc mT (dZ (so T) hr (aq (ah 0) (aq bU aP))) (ah 1)) aP)))) nd) (aZ (dG (i:=5) (aK (PD (i5 (i7 (HL hr) rfl) T.dict (aq (ah 4) aP)))) nd) (aZ (dG (i:=6) (lr vg) nd) (aZ (rX (lq (ah 4)) (Ht (is:=[7,8]) (vf (i:=7) (vf (i:=8) Hs nd) nd)) (CU [7,8]) (cB (rX (lq (ah 8)) (c_ 9 nd) (c0 9) (cB (pU (dg hr) (B8 (aK (ah 6))) (aK (ah 9)) (aK (rU (Dz (dg hr)) (ah 9) (ah 5)))))))) (aZ (w6 (m9 (Hq (m6 (dZ (oH T 5) hr (aq (dZ (oG T) hr (aq (ah 4) aP)) (aq (i4 kP T.tuple (aq (cp (BG (HL hr)) T.sorted (aq (Hv (N':=["_law_one","_law_lost"]) (ix:=[none,some 6]) (e_.of (N:=["_law_script","_law_k","_law_every","_law_some","_law_letters_here","_law_there","_law_lost","_law_mark","_law_behind","_law_one","_law_due"]) (sc:=aF oZ.st) rfl rfl (by first|decide+kernel|exact rfl|kernel_rfl)) (xa (ah 6)) ⟨fun s H ex=>⟨(c_ 0 (by show List.Nodup (["_law_one","_law_lost"]:List Str);decide+kernel)),(uk (m6 (nc (dg hr) (ah 1) (ah 0)))),(ah 0)⟩⟩ (c0 0)) aP)) aP)) aP)))))) (cB (kr (aK Bv))) oX) (aZ (D_ (i:=10) (N':=["_law_mark","_law_there"]) (ix:=[none,some 5]) (e_.of (N:=["_law_script","_law_k","_law_every","_law_some","_law_letters_here","_law_there","_law_lost","_law_mark","_law_behind","_law_one","_law_due"]) (sc:=aF oZ.st) rfl rfl (by first|decide+kernel|exact rfl|kernel_rfl)) (oY (vx T) hr (cC (aK (ah 4)) dX)) ⟨fun s H ex=>⟨(c_ 0 (by show List.Nodup (["_law_mark","_law_there"]:List Str);decide+kernel)),(uk (m6 (dZ (lu T 12) hr (aq (ah 1) (aq (ah 0) aP))))),(ah 0)⟩⟩ (c0 0) nd) (aZ (w6 (JO (JN (oY (oH T 5).RE hr (cC (oY (vy T) hr (cC (aK (ah 4)) dX)) (cC (aK (i4 kP T.tuple (aq (ah 10) aP))) dX))))) (cB (kr (aK Bv))) oX) (cB (w6 (Kn (pS (i3 (uW (pf hr)) (dZ (oG T) hr (aq (ah 4) aP)) (lp aP))) (JM (MS (pf hr)) (oY (vy T) hr (cC (aK (ah 4)) dX)) (oY (vx T) hr (cC (aK (ah 4)) dX)))) (cB (kr (aK Bv))) oX)))))))))))) (cB (kr (OF (aK (rU (uW (pf hr)) (dZ (oG T) hr (aq (lp aP) aP)) (lp aP))) (NJ (uW (pf hr)) (oY (vy T) hr (cC (aK (lp aP)) dX)) (aK (lp aP)))))))⟩
def uC:=m4 1 11 Af.1
theorem OG:KS 14 oZ uC:=Af.2
end kD
namespace kD
open PySem L2
abbrev Mk:=Int×Int
def tM(m:Mk):Tr:=.tup [.int m.1,.int m.2]
def kM(m:Mk):List Key:=[.inl m.1,.inl m.2]
theorem yN{a b:Mk}:kM a=kM b↔a=b:=by
 constructor
 ·intro e;unfold kM at e;injection e with e1 e2
  injection e2 with e2 _
  injection e1 with e1
  injection e2 with e2
  exact Prod.ext e1 e2
 ·intro e;rw[e]
theorem Gs(m:Mk):m_ (tM m)=some (kM m):=rfl
def fD(ks:List Mk)(g:Mk->Tr):List (List Key×Tr):=ks.map fun m=>(kM m,g m)
theorem nA(g:Mk->Tr)(m:Mk):∀ks:List Mk,ir (fD ks g) (kM m)=if m∈ks then some (g m)else none
 |[]=>rfl
 |k::ks=>by
  unfold ir fD;rw[ay,dO];by_cases e:k=m
  ·subst e;simp
  ·have h:decide (kM k=kM m)=false:=aX fun h=>e (yN.mp h);simp only[h];have:=nA g m ks;unfold ir fD at this;rw[this];have e':¬m=k:=fun h=>e h.symm;simp[e']
theorem D'(ks:List Mk)(g:Mk->Tr):DD (fD ks g)=.ok (ks.map tM):=by
 unfold DD;rw[ab]
 ·unfold fD;rw[bj];rfl
 ·rw[bw];intro p hp;obtain⟨m,_,rfl⟩:=bg.mp hp
  rfl
theorem nB(ks:List Mk)(g:Mk->Tr):lJ (.ok (.aE (fD ks g)))=.ok (ks.map tM):=D' ks g
theorem Ag(g:Mk->Tr):∀ks:List Mk,ng (ks.map fun m=>.tup [tM m,g m])=some (fD ks g)
 |[]=>rfl
 |k::ks=>by
  rw[ay,ng,Gs,Ag g ks]
  rfl
theorem Ea(ks:List Mk)(g:Mk->Tr)(m:Mk):((fD ks g).any fun kv=>decide (kv.1=kM m))=decide (m∈ks):=by
 induction ks with
 |nil=>rfl
 |cons k ks ih=>
  unfold fD at ih⊢;rw[ay,gV,ih];by_cases e:k=m
  ·subst e;simp
  ·have h:decide (kM k=kM m)=false:=aX fun h=>e (yN.mp h);have e':¬m=k:=fun h=>e h.symm;simp only[h,mC];simp[e']
theorem sq{ks:List Mk}{g:Mk->Tr}{m:Mk}{t:Tr}(h:m∉ks)(e:g m=t):i6 (fD ks g) (kM m) t=fD (ks++[m]) g:=by
 unfold i6;rw[Ea,aX h,ae (by decide)];unfold fD;rw[dP,ay,List.map_nil,e]
theorem xC{ks:List Mk}{g:Mk->Tr}{m:Mk}{t:Tr}(h:m∈ks):i6 (fD ks g) (kM m) t=fD ks (fun x=>if x=m then t else g x):=by
 unfold i6;rw[Ea,bt h,ab rfl];unfold fD;rw[bj];refine eO fun x _=>?_
 show(if kM x=kM m then(kM x,t)else(kM x,g x))=(kM x,if x=m then t else g x);by_cases e:x=m
 ·subst e;rw[ab rfl,ab rfl]
 ·rw[ae (fun h=>e (yN.mp h)),ae e]
theorem xD(g:Mk->Tr):∀(ks pre:List Mk),(pre++ks).Nodup->kz (fD pre g) (fD ks g)=fD (pre++ks) g
 |[],pre,_=>by rw[cU];rfl
 |k::ks,pre,h=>by
  show kz (i6 (fD pre g) (kM k) (g k)) (fD ks g)=_;have e:pre++k::ks=(pre++[k])++ks:=by simp
  have hk:k∉pre:=by
   intro m;rw[jg]at h;exact h.2.2 k m k (aW ..) rfl
  rw[sq hk rfl,xD g ks (pre++[k]) (by rw[<-e];exact h),e]
theorem sr{ks:List Mk}(g:Mk->Tr)(h:ks.Nodup)(hl:ks.length<=100):de [.lst (ks.map fun m=>.tup [tM m,g m])]=.ok (.aE (fD ks g)):=by
 show(match ng (ks.map fun m=>Tr.tup [tM m,g m])with
  |some aB=>if aB.length<=100000 then Rs.ok (Tr.aE (kz [] aB))else .bad
  |none=>.bad)=_
 rw[Ag];show(if(fD ks g).length<=100000 then Rs.ok (Tr.aE (kz [] (fD ks g)))else .bad)=_;rw[ab (by unfold fD;rw[aj];omega)];have:=xD g ks [] h;rw[mn]at this;exact bT (fun x=>Rs.ok (Tr.aE x)) this
theorem nC{ks:List Mk}(g:Mk->Tr)(h:ks.Nodup)(hl:ks.length<=100):de [.tup (ks.map fun m=>.tup [tM m,g m])]=.ok (.aE (fD ks g)):=sr g h hl
theorem jq{ks:List Mk}{g:Mk->Tr}{m:Mk}(h:m∈ks):pC (.aE (fD ks g)) (tM m)=.ok (g m):=by
 show AZ (ir (fD ks g) (kM m))=_;rw[nA,ab h];rfl
theorem oK(ks:List Mk)(g:Mk->Tr)(m:Mk):yx (tM m) (.aE (fD ks g))=.ok (.bl (decide (m∈ks))):=by
 show Rs.ok (Tr.bl (ir (fD ks g) (kM m)).isSome)=_;rw[nA];by_cases e:m∈ks
 ·rw[ab e,bt e];rfl
 ·rw[ae e,aX e];rfl
theorem pI{T:j_}{G:av->Ab->Rz Out}{t:Tr}{ts:List Tr}{ρ ρ1 ρ2:av}{A A2:Ab}(e1:T t ρ=.ok ρ1)(e2:G ρ1 A=.ok (.nx ρ2) A2):fK T G (t::ts) ρ A=fK T G ts ρ2 A2:=by
 rw[fK,e1];show(G ρ1 A).bind _=_;rw[e2];rfl
theorem Uz{i j m:Nat}{G:av->Ab->Rz Out}{us:List Tr}{t:Tr}{ρ ρ2:av}{A A2:Ab}(h:A[j]?=some (.lst us))(ht:us[i]?=some t){x:Nat}(e2:G (ρ.set x (.sh t)) A=.ok (.nx ρ2) A2):gg (gN x) G j (m+1) i ρ A=gg (gN x) G j m (i+1) ρ2 A2:=by
 rw[gg,h];show(match us[i]? with
   |none=>Rz.ok (Out.nx ρ) A
   |some t=>_)=_
 rw[ht];show(G (ρ.set x (.sh t)) A).bind _=_;rw[e2];rfl
theorem UA{i j m:Nat}{G:av->Ab->Rz Out}{us:List Tr}{ρ:av}{A:Ab}(h:A[j]?=some (.lst us))(ht:us[i]?=none){x:Nat}:gg (gN x) G j (m+1) i ρ A=.ok (.nx ρ) A:=by
 rw[gg,h];show(match us[i]? with
   |none=>Rz.ok (Out.nx ρ) A
   |some t=>_)=_
 rw[ht]
theorem Gu{a b:Mk}{ks:List Mk}(ha:a∈ks)(hb:b∈ks)(e:ks.idxOf a=ks.idxOf b):a=b:=by
 have h1:=List.getElem_idxOf (lQ ha);have h2:=List.getElem_idxOf (lQ hb);rw[<-h1,<-h2];congr 1
theorem Ah:∀(ks:List Mk) (n:Nat),ks.Nodup->JZ n (ks.map tM)=ks.map fun m=>.tup [tM m,.at (n+ks.idxOf m)]
 |[],_,_=>rfl
 |k::ks,n,h=>by
  rw[dN]at h;rw[ay,JZ,Ah ks (n+1) h.2,ay,List.idxOf_cons_self];refine bT _ (eO fun x hx=>?_);have e:¬k=x:=fun e=>h.1 (e▸hx);have e2:(k::ks).idxOf x=ks.idxOf x+1:=by
   rw[List.idxOf_cons,ef e];rfl
  rw[e2,show n+1+ks.idxOf x=n+(ks.idxOf x+1) by omega]
theorem gG:∀ks:List Mk,gp (ks.map tM)=true
 |[]=>rfl
 |k::ks=>by rw[ay,gp,gG ks];rfl
end kD
namespace kD
open PySem L2
def bI:av->Ab->Rz Out:=fun ρ A=>uf (ai (jA (cx yx (ar ρ 3) (ar ρ 0))) A) (fun A=>fG (wN fL (ai (cx pC (ar ρ 1) (ar ρ 3)) A) fun A=>cb (ai (ar ρ 2) A) fun A=>Rz.ok [] A) ρ) fun A=>Rz.ok (Out.nx ρ) A
def bO:av->Ab->Rz Out:=fun ρ A=>f' (gN 3) bI (ai (iU (cx pC (ar ρ 0) (ar ρ 2))) A) ρ
def gF:av->Ab->Rz Out:=fun ρ A=>bH (cE 1 (ou de (sf (lJ (ar ρ 0)) A)) ρ) fun ρ A=>bH (NT (f' (gN 2) bO (ai (lJ (ar ρ 0)) A) ρ)) fun ρ A=>hW (ai (ar ρ 1) A)
theorem OH:fq.1=gF:=rfl
def tB(bh:Mk->List Mk)(m:Mk):Tr:=.tup ((bh m).map tM)
def tI(ks:List Mk)(m:Mk):Tr:=.at (ks.idxOf m)
def AF(ks:List Mk)(F:Mk->List Mk)(A:Ab):Prop:=A.length=ks.length/\∀m∈ks,A[ks.idxOf m]?=some (.lst ((F m).map tM))
theorem AF.congr {ks:List Mk}{F G:Mk->List Mk}{A:Ab}(h:AF ks F A)(e:∀m∈ks,F m=G m):AF ks G A:=⟨h.1,fun m hm=>by rw[<-e m hm];exact h.2 m hm⟩
theorem OI{ks:List Mk}{bh:Mk->List Mk}{F:Mk->List Mk}{A:Ab}{m b:Mk}(h:AF ks F A)(hb:b∈ks)(hl:(F b).length<=1000):
  bI [.sh (.aE (fD ks (tB bh))),.sh (.aE (fD ks (tI ks))),.sh (tM m),.sh (tM b)] A=.ok (.nx [.sh (.aE (fD ks (tB bh))),.sh (.aE (fD ks (tI ks))),.sh (tM m),.sh (tM b)]) (A.set (ks.idxOf b) (.lst ((F b++[m]).map tM))):=by
 show uf (ai (jA (yx (tM b) (.aE (fD ks (tB bh))))) A) (fun A=>fG (wN fL (ai (pC (.aE (fD ks (tI ks))) (tM b)) A) fun A=>cb (ai (Rs.ok (tM m)) A) fun A=>Rz.ok [] A) _) _=_;rw[oK,bt hb,jq hb];show fG (if Bn A (ks.idxOf b)=true then fL (ks.idxOf b) [tM m] A else .bad) _=_;have e:=h.2 b hb;have e1:Bn A (ks.idxOf b)=true:=by unfold Bn;rw[e]
 have e2:fL (ks.idxOf b) [tM m] A=.ok .cq (A.set (ks.idxOf b) (.lst ((F b++[m]).map tM))):=by
  unfold fL;simp only[e];rw[ab (by rw[aj];unfold iT;omega),dP]
  rfl
 rw[ab e1,e2]
 rfl
theorem Ko{ks:List Mk}{bh:Mk->List Mk}{A:Ab}{m b:Mk}{FO:Tr}(hb:b∉ks):
  bI [.sh (.aE (fD ks (tB bh))),.sh FO,.sh (tM m),.sh (tM b)] A=.ok (.nx [.sh (.aE (fD ks (tB bh))),.sh FO,.sh (tM m),.sh (tM b)]) A:=by
 show uf (ai (jA (yx (tM b) (.aE (fD ks (tB bh))))) A) _ (fun A=>_)=_;rw[oK,aX hb]
 rfl
theorem AF.put {ks:List Mk}{F:Mk->List Mk}{A:Ab}{b:Mk}(h:AF ks F A)(hb:b∈ks)(l:List Mk):AF ks (fun x=>if x=b then l else F x) (A.set (ks.idxOf b) (.lst (l.map tM))):=by
 refine⟨by rw[gQ];exact h.1,fun m hm=>?_⟩;by_cases e:m=b
 ·subst e;have:ks.idxOf m<A.length:=by rw[h.1];exact lQ hm
  rw[dM this];simp
 ·have:ks.idxOf b≠ks.idxOf m:=fun q=>e (Gu hb hm q).symm;rw[ck this,h.2 m hm];simp[e]
theorem inner{ks:List Mk}{bh:Mk->List Mk}(m:Mk):∀(bs:List Mk) (F:Mk->List Mk) (A:Ab) (c:Cell),bs.Nodup->AF ks F A->(∀b∈bs,(F b).length<=1000)->
  ∃A' c',fK (gN 3) bI (bs.map tM) [.sh (.aE (fD ks (tB bh))),.sh (.aE (fD ks (tI ks))),.sh (tM m),c] A=.ok (.nx [.sh (.aE (fD ks (tB bh))),.sh (.aE (fD ks (tI ks))),.sh (tM m),c']) A'/\AF ks (fun b=>if b∈bs then F b++[m]else F b) A'
 |[],F,A,c,_,h,_=>⟨A,c,rfl,h.congr fun _ _=>by simp⟩
 |b::bs,F,A,c,nd,h,hl=>by
  rw[dN]at nd;by_cases hb:b∈ks
  ·have h1:=h.put hb (F b++[m]);obtain⟨A',c',e,h2⟩:=inner (bh:=bh) m bs _ _ (.sh (tM b)) nd.2 h1 fun x hx=>by
    have:¬x=b:=fun e=>nd.1 (e▸hx);simp only[this,bB];exact hl x (aV _ hx)
   refine⟨A',c',?_,h2.congr fun x hx=>?_⟩
   ·rw[ay,pI (ρ1:=[.sh (.aE (fD ks (tB bh))),.sh (.aE (fD ks (tI ks))),.sh (tM m),.sh (tM b)]) rfl (OI h hb (hl b (aW ..)))];exact e
   ·by_cases e:x=b
    ·subst e;simp[nd.1]
    ·simp[e]
  ·obtain⟨A',c',e,h2⟩:=inner (bh:=bh) m bs F A (.sh (tM b)) nd.2 h fun x hx=>hl x (aV _ hx);refine⟨A',c',?_,h2.congr fun x hx=>?_⟩
   ·rw[ay,pI (ρ1:=[.sh (.aE (fD ks (tB bh))),.sh (.aE (fD ks (tI ks))),.sh (tM m),.sh (tM b)]) rfl (Ko hb)];exact e
   ·have:¬x=b:=fun e=>hb (e▸hx);simp[this]
def nE(bh:Mk->List Mk)(ks:List Mk)(b:Mk):List Mk:=ks.filter fun m=>decide (b∈bh m)
theorem outer{ks:List Mk}{bh:Mk->List Mk}:∀(rest pre:List Mk) (A:Ab) (c d:Cell),(∀m∈rest,m∈ks/\(bh m).Nodup)->pre.length+rest.length<=100->AF ks (nE bh pre) A->
  ∃A' c' d',fK (gN 2) bO (rest.map tM) [.sh (.aE (fD ks (tB bh))),.sh (.aE (fD ks (tI ks))),c,d] A=.ok (.nx [.sh (.aE (fD ks (tB bh))),.sh (.aE (fD ks (tI ks))),c',d']) A'/\AF ks (nE bh (pre++rest)) A'
 |[],pre,A,c,d,_,_,h=>⟨A,c,d,rfl,by rw[cU];exact h⟩
 |m::rest,pre,A,c,d,hm,hl,h=>by
  obtain⟨hk,nd⟩:=hm m (aW ..);rw[a_]at hl;obtain⟨A1,c1,e1,h1⟩:=inner (bh:=bh) m (bh m) _ _ d nd h fun b _=>by
   have:(nE bh pre b).length<=pre.length:=ia _ _;omega
  have JR:AF ks (nE bh (pre++[m])) A1:=h1.congr fun x _=>by
   unfold nE;rw[List.filter_append,fP,qV];by_cases e:x∈bh m<;>simp[e]
  obtain⟨A2,c2,d2,e2,h2⟩:=outer rest (pre++[m]) A1 (.sh (tM m)) c1 (fun x hx=>hm x (aV _ hx)) (by rw[bc,a_,dz];omega) JR;refine⟨A2,c2,d2,?_,by rw[ib]at h2;exact h2⟩;have eb:bO [.sh (.aE (fD ks (tB bh))),.sh (.aE (fD ks (tI ks))),.sh (tM m),d] A=.ok (.nx [.sh (.aE (fD ks (tB bh))),.sh (.aE (fD ks (tI ks))),.sh (tM m),c1]) A1:=by
   show f' (gN 3) bI (ai (iU (pC (.aE (fD ks (tB bh))) (tM m))) A) _=_;rw[jq hk];exact e1
  rw[ay,pI (ρ1:=[.sh (.aE (fD ks (tB bh))),.sh (.aE (fD ks (tI ks))),.sh (tM m),d]) rfl eb];exact e2
theorem xE{ks:List Mk}{bh:Mk->List Mk}(nd:ks.Nodup)(hl:ks.length<=100)(hb:∀m∈ks,(bh m).Nodup):
  ∃A,fv [.aE (fD ks (tB bh))] []=.ok (.aE (fD ks (tI ks))) A/\AF ks (nE bh ks) A:=by
 have h0:AF ks (nE bh []) (List.replicate ks.length (.lst [])):=⟨l5,fun m hm=>by
  rw[lY,ab (lQ hm)]
  rfl⟩
 obtain⟨A,c,d,e,h⟩:=outer (bh:=bh) ks [] _ .no .no (fun m hm=>⟨hm,hb m hm⟩) (by rw[dz];omega) h0;refine⟨A,?_,h⟩;show fk (fq.1 [.sh (.aE (fD ks (tB bh))),.no,.no,.no] [])=_;rw[OH];have e1:ou de (sf (lJ (.ok (.aE (fD ks (tB bh))))) [])=.ok (.aE (fD ks (tI ks))) (List.replicate ks.length (.lst [])):=by
  rw[nB];show ou de (if gp (ks.map tM)=true/\(ks.map tM).length<=iT then Rz.ok (.lst (JZ 0 (ks.map tM))) ([]++List.replicate (ks.map tM).length (.lst []))else .bad)=_;rw[ab ⟨gG ks,by rw[aj];unfold iT;omega⟩];show ai (de [.lst (JZ 0 (ks.map tM))]) _=_;rw[Ah ks 0 nd,sr (fun m=>.at (0+ks.idxOf m)) nd hl,aj];have:(fun m:Mk=>Tr.at (0+ks.idxOf m))=tI ks:=funext fun m=>by unfold tI;rw[jR]
  rw[this]
  rfl
 show fk (bH (cE 1 (ou de (sf (lJ (.ok (.aE (fD ks (tB bh))))) [])) [.sh (.aE (fD ks (tB bh))),.no,.no,.no]) _)=_;rw[e1];show fk (bH (NT (f' (gN 2) bO (ai (lJ (.ok (.aE (fD ks (tB bh))))) _) _)) _)=_;rw[nB];show fk (bH (NT (fK (gN 2) bO (ks.map tM) [.sh (.aE (fD ks (tB bh))),.sh (.aE (fD ks (tI ks))),.no,.no] _)) _)=_;rw[e]
 rfl
end kD
namespace kD
open PySem L2
def BP(s:(Mk->Int)×List Mk)(f:Mk):(Mk->Int)×List Mk:=(fun x=>if x=f then s.1 f - 1 else s.1 x,if s.1 f - 1=0 then s.2++[f]else s.2)
def pW(E:List Mk)(s:(Mk->Int)×List Mk):(Mk->Int)×List Mk:=E.foldl BP s
theorem nF{f:Mk}{E:List Mk}{s:(Mk->Int)×List Mk}:pW (f::E) s=pW E (BP s f):=rfl
theorem Gv{E E':List Mk}{s:(Mk->Int)×List Mk}:pW (E++E') s=pW E' (pW E s):=List.foldl_append
theorem Ai(s:(Mk->Int)×List Mk)(f:Mk):(BP s f).2.length<=s.2.length+1:=by
 unfold BP;by_cases e:s.1 f - 1=0
 ·simp[e]
 ·simp[e]
theorem Aj:∀(E:List Mk) (s:(Mk->Int)×List Mk),(pW E s).2.length<=s.2.length+E.length
 |[],s=>by show s.2.length<=_;omega
 |f::E,s=>by
  rw[nF,a_];have:=Aj E (BP s f);have:=Ai s f;omega
theorem xF:∀(E:List Mk) (w:Mk->Int) (fs:List Mk),(∀m∈E,(E.count m:Int)<=w m)->
  (∀m,(pW E (w,fs)).1 m=w m - E.count m)/\∃X,(pW E (w,fs)).2=fs++X/\X.Nodup/\∀m,m∈X↔m∈E/\(E.count m:Int)=w m
 |[],w,fs,_=>⟨fun m=>by show w m=_;simp,[],by show fs=_;simp,en,fun m=>by simp⟩
 |f::E,w,fs,h=>by
  have hc:∀m,(f::E).count m=E.count m+if m=f then 1 else 0:=fun m=>by
   rw[List.count_cons];by_cases e:m=f
   ·subst e;simp
   ·have:¬f=m:=fun h=>e h.symm;simp[e,this]
  obtain⟨h1,X,h2,h3,h4⟩:=xF E (fun x=>if x=f then w f - 1 else w x) (if w f - 1=0 then fs++[f]else fs) (fun m hm=>by
   have:=h m (aV _ hm);rw[hc]at this;by_cases e:m=f
   ·subst e;simp at this⊢;omega
   ·simp[e]at this⊢;exact this)
  refine⟨fun m=>?_,?_⟩
  ·rw[nF];unfold BP;rw[h1 m,hc];by_cases e:m=f
   ·subst e;simp;omega
   ·simp[e]
  ·rw[nF];unfold BP;show∃X,(pW E (fun x=>if x=f then w f - 1 else w x,if w f - 1=0 then fs++[f]else fs)).2=fs++X/\_;have hf:=h f (aW ..);rw[hc,ab rfl]at hf;have OJ:f∈E↔0<E.count f:=(List.count_pos_iff).symm;by_cases e0:w f - 1=0
   ·rw[ab e0]at h2⊢;have hz:E.count f=0:=by omega
    have W6:f∉E:=fun h=>by have:=OJ.mp h;omega
    refine⟨f::X,by rw[h2];simp,?_,fun m=>?_⟩
    ·rw[dN];exact⟨fun hx=>W6 ((h4 f).mp hx).1,h3⟩
    ·rw[aR,aR,h4 m,hc];by_cases e:m=f
     ·subst e;simp[hz];omega
     ·simp[e]
   ·rw[ae e0]at h2⊢;refine⟨X,h2,h3,fun m=>?_⟩;rw[h4 m,aR,hc];by_cases e:m=f
    ·subst e;simp only[fY,true_or,true_and];constructor
     ·intro⟨_,q⟩;omega
     ·intro q;refine⟨OJ.mpr ?_,by omega⟩;omega
    ·simp[e]
structure pJ(ks:List Mk)(bh:Mk->List Mk)(H:Mk->Nat):Prop where
 nd:ks.Nodup
 len:ks.length<=20
 UB:∀m∈ks,(bh m).Nodup
 Eb:∀m∈ks,(bh m).length<=20
 pos:∀m∈ks,1<=H m
 lt:∀m∈ks,∀b∈bh m,b∈ks->H b<H m
 ex:∀m∈ks,H m=1\/∃b∈bh m,b∈ks/\H m=H b+1
 top:∀m∈ks,H m<=50
section
variable {ks:List Mk}{bh:Mk->List Mk}{H:Mk->Nat}
def cnt(ks:List Mk)(bh:Mk->List Mk)(H:Mk->Nat)(h:Nat)(m:Mk):Nat:=((bh m).filter fun b=>decide (b∈ks)&&decide (h<=H b)).length
structure Lv(ks:List Mk)(bh:Mk->List Mk)(H:Mk->Nat)(h:Nat)(hs ls:List Mk)(w:Mk->Int):Prop where
 h1:1<=h
 nd:hs.Nodup
 mem:∀m,m∈hs↔m∈ks/\H m<h
 Lo:ls.Nodup
 vz:∀m,m∈ls↔m∈ks/\H m=h
 w:∀m∈ks,w m=cnt ks bh H h m
theorem cD{α:Type}{p:α->Bool}{l:List α}(h:l.Nodup):(l.filter p).Nodup:=List.Nodup.sublist List.filter_sublist h
theorem BQ(K:pJ ks bh H){m:Mk}(hm:m∈ks)(b:Mk):(nE bh ks b).count m=if b∈bh m then 1 else 0:=by
 unfold nE;rw[List.Nodup.count (cD K.nd)];simp[bF,hm]
theorem Ak:∀(ls:List Mk) (p:Mk->Prop) [DecidablePred p],(ls.map fun b=>if p b then 1 else 0).sum=(ls.filter fun b=>decide (p b)).length
 |[],_,_=>rfl
 |b::ls,p,_=>by
  rw[ay,List.sum_cons,Ak ls p,fP];by_cases e:p b
  ·simp[e];omega
  ·simp[e]
theorem Ec(K:pJ ks bh H){ls:List Mk}{h:Nat}(Lo:ls.Nodup)(lm:∀m,m∈ls↔m∈ks/\H m=h){m:Mk}(hm:m∈ks):
  (ls.flatMap (nE bh ks)).count m=((bh m).filter fun b=>decide (b∈ks)&&decide (H b=h)).length:=by
 rw[List.count_flatMap];have e:(List.count m∘nE bh ks)=fun b=>if b∈bh m then 1 else 0:=funext fun b=>BQ K hm b
 rw[e,Ak];refine List.Perm.length_eq ((lU (cD Lo) (cD (K.UB m hm))).mpr fun b=>?_);rw[bF,bF,lm];simp only[cH,aM];constructor
 ·rintro ⟨⟨a,b⟩,c⟩;exact⟨c,a,b⟩
 ·rintro ⟨c,a,b⟩;exact⟨⟨a,b⟩,c⟩
theorem nG{α:Type}:∀(l:List α) (p q r:α->Bool),(∀x∈l,p x=(q x||r x))->(∀x∈l,(q x&&r x)=false)->(l.filter p).length=(l.filter q).length+(l.filter r).length
 |[],_,_,_,_,_=>rfl
 |x::l,p,q,r,h1,h2=>by
  have e1:=h1 x (aW ..);have e2:=h2 x (aW ..);have ih:=nG l p q r (fun y hy=>h1 y (aV _ hy)) (fun y hy=>h2 y (aV _ hy));rw[fP,fP,fP,e1];cases hq:q x<;>cases hr:r x<;>simp[hq,hr]at e2⊢<;>omega
theorem BR(h:Nat)(m:Mk):cnt ks bh H h m=((bh m).filter fun b=>decide (b∈ks)&&decide (H b=h)).length+cnt ks bh H (h+1) m:=by
 unfold cnt;refine nG _ _ _ _ (fun b _=>?_) fun b _=>?_
 ·by_cases e:b∈ks
  ·simp only[e,decide_true,jO];by_cases e1:h<=H b
   ·by_cases e2:H b=h
    ·simp[e2]
    ·have:h+1<=H b:=by omega
     simp[e1,e2,this]
   ·have a:¬H b=h:=by omega
    have b:¬h+1<=H b:=by omega
    simp[e1,a,b]
  ·simp[e]
 ·by_cases e2:H b=h
  ·have:¬h+1<=H b:=by omega
   simp[this]
  ·simp[e2]
theorem Lv.next (K:pJ ks bh H){h:Nat}{hs ls:List Mk}{w:Mk->Int}(L:Lv ks bh H h hs ls w):Lv ks bh H (h+1) (hs++ls) (pW (ls.flatMap (nE bh ks)) (w,[])).2 (pW (ls.flatMap (nE bh ks)) (w,[])).1:=by
 have sub:∀m∈ls.flatMap (nE bh ks),m∈ks:=fun m hm=>by
  obtain⟨b,_,hb⟩:=mm.mp hm;exact(bF.mp hb).1
 have hc:∀m∈ks,((ls.flatMap (nE bh ks)).count m:Int)=w m - cnt ks bh H (h+1) m:=fun m hm=>by
  rw[Ec K L.Lo L.vz hm,L.w m hm,BR h m];omega
 obtain⟨h1,X,h2,h3,h4⟩:=xF (ls.flatMap (nE bh ks)) w [] (fun m hm=>by rw[hc m (sub m hm)];omega);rw[mn]at h2;refine⟨by have:=L.h1;omega,?_,fun m=>?_,by rw[h2];exact h3,fun m=>?_,fun m hm=>?_⟩
 ·rw[jg];refine⟨L.nd,L.Lo,fun a ha b hb e=>?_⟩;subst e;have:=((L.mem a).mp ha).2;have:=((L.vz a).mp hb).2;omega
 ·rw[d_,L.mem,L.vz];constructor
  ·rintro (⟨a,b⟩|⟨a,b⟩)
   ·exact⟨a,by omega⟩
   ·exact⟨a,by omega⟩
  ·rintro ⟨a,b⟩
   by_cases e:H m=h
   ·exact .inr ⟨a,e⟩
   ·exact .inl ⟨a,by omega⟩
 ·rw[h2,h4];constructor
  ·rintro ⟨hm,he⟩
   have hk:=sub m hm;refine⟨hk,?_⟩;rw[hc m hk]at he;have hz:cnt ks bh H (h+1) m=0:=by omega
   obtain⟨b,hb,hf⟩:=mm.mp hm;have jC:=(L.vz b).mp hb;have Md:b∈bh m:=bN (bF.mp hf).2;have g1:=K.lt m hk b Md jC.1;rcases K.ex m hk with e|⟨b2,k1,k2,k3⟩
   ·have:=K.pos b jC.1;omega
   ·by_cases q:h+1<=H b2
    ·exfalso;unfold cnt at hz;have:b2∈(bh m).filter fun b=>decide (b∈ks)&&decide (h+1<=H b):=bF.mpr ⟨k1,by simp[k2,q]⟩;rw[kH.mp hz]at this;cases this
    ·omega
  ·rintro ⟨hk,he⟩
   rcases K.ex m hk with e|⟨b,k1,k2,k3⟩
   ·have:=L.h1;omega
   ·refine⟨mm.mpr ⟨b,(L.vz b).mpr ⟨k2,by omega⟩,bF.mpr ⟨hk,bt k1⟩⟩,?_⟩;rw[hc m hk];have hz:cnt ks bh H (h+1) m=0:=by
     unfold cnt;rw[kH,List.filter_eq_nil_iff];intro a ha;by_cases q:a∈ks
     ·have:=K.lt m hk a ha q;have:¬h+1<=H a:=by omega
      simp[this]
     ·simp[q]
    omega
 ·rw[h1 m,hc m hm];omega
theorem Lv.last (K:pJ ks bh H){h:Nat}{hs:List Mk}{w:Mk->Int}(L:Lv ks bh H h hs [] w):∀m∈ks,H m<h:=by
 have key:∀(n:Nat) (m:Mk),m∈ks->H m=h+n->False:=fun n=>by
  induction n with
  |zero=>exact fun m hm e=>by have:=(L.vz m).mpr ⟨hm,e⟩;cases this
  |succ n ih=>
   intro m hm e;rcases K.ex m hm with q|⟨b,k1,k2,k3⟩
   ·have:=L.h1;omega
   ·exact ih b k2 (by omega)
 intro m hm;by_cases q:H m<h
 ·exact q
 ·exact(key (H m - h) m hm (by omega)).elim
theorem Lv.start (K:pJ ks bh H)(w:Mk->Int)(hw:∀m∈ks,w m=((bh m).filter fun b=>decide (b∈ks)).length):Lv ks bh H 1 [] (ks.filter fun m=>w m==0) w:=by
 have hc:∀m∈ks,cnt ks bh H 1 m=((bh m).filter fun b=>decide (b∈ks)).length:=fun m hm=>by
  unfold cnt;congr 1;refine List.filter_congr fun b _=>?_
  by_cases e:b∈ks
  ·have:=K.pos b e;simp[e];omega
  ·simp[e]
 refine⟨aA _,en,fun m=>?_,cD K.nd,fun m=>?_,fun m hm=>by rw[hw m hm,hc m hm]⟩
 ·constructor
  ·intro h;cases h
  ·rintro ⟨a,b⟩;have:=K.pos m a;omega
 ·rw[bF];refine and_congr_right fun hm=>?_
  rw[hw m hm,iL];constructor
  ·intro e;rcases K.ex m hm with q|⟨b,k1,k2,k3⟩
   ·exact q
   ·have:b∈(bh m).filter fun b=>decide (b∈ks):=bF.mpr ⟨k1,bt k2⟩;have z:((bh m).filter fun b=>decide (b∈ks)).length=0:=by omega
    rw[kH.mp z]at this;cases this
  ·intro e;have:(bh m).filter (fun b=>decide (b∈ks))=[]:=by
    rw[List.filter_eq_nil_iff];intro b hb q;have q:=bN q;have:=K.lt m hm b hb q;have:=K.pos b q;omega
   rw[this];rfl
end
end kD
namespace kD
open PySem L2
def bE:av->Ab->Rz Out:=fun ρ A=>bH (DB (fun A=>ai (ar ρ 3) A) (fun A=>ai (ar ρ 9) A) (fun A=>ai (Rs.ok (Tr.int 1)) A) ρ A) fun ρ A=>uf (ai (jA (cx nN (cx pC (ar (aT A ρ) 3) (ar (aT A ρ) 9)) (Rs.ok (Tr.int 0)))) A) (fun A=>fG (wN fL (ai (ar ρ 7) A) fun A=>cb (ai (ar ρ 9) A) fun A=>Rz.ok [] A) ρ) fun A=>Rz.ok (Out.nx ρ) A
def bL:av->Ab->Rz Out:=fun ρ A=>bH (uo (ai (ar ρ 6) A) (fun A=>ai (ar ρ 4) A) (fun A=>ai (ar ρ 8) A) ρ) fun ρ A=>loopAt (gN 9) bE 100 (ai (cx pC (ar ρ 2) (ar ρ 8)) A) ρ
def bW:av->Ab->Rz Out:=fun ρ A=>bH (cE 7 (dW (yf (Rs.ok [])) A) ρ) fun ρ A=>bH (loopAt (gN 8) bL 100 (ai (ar ρ 5) A) ρ) fun ρ A=>bH (cE 5 (ai (ar ρ 7) A) ρ) fun ρ A=>JP 6 (fun A=>ai (Rs.ok (Tr.int 1)) A) ρ A
def cW:av->Ab->Rz Bool:=fun ρ A=>ai (jA (cx Jl (aC iY (ag (ar (aT A ρ) 5) (Rs.ok []))) (Rs.ok (Tr.int 0)))) A
def P9(A:Ab)(ρ:av):Rs Tr:=gL [none,some 1] (gN 0) (fun _=>Rs.ok true) (fun ρ=>fB (ag (ar ρ 0) (ag (aC iY (ag (gL [none,some 1] (gN 0) (fun ρ=>jA (cx yx (ar ρ 0) (ar ρ 1))) (fun ρ=>ar ρ 0) (iU (cx pC (ar ρ 1) (ar ρ 0))) ρ) (Rs.ok []))) (Rs.ok [])))) (lJ (ar (aT A ρ) 1)) (aT A ρ)
def P_(A:Ab)(ρ:av):Rs Tr:=gL [none,some 3] (gN 0) (fun ρ=>jA (cx nN (cx pC (ar ρ 1) (ar ρ 0)) (Rs.ok (Tr.int 0)))) (fun ρ=>ar ρ 0) (lJ (ar (aT A ρ) 1)) (aT A ρ)
def gH:av->Ab->Rz Out:=fun ρ A=>bH (cE 1 (ai (aC de (ag (ar ρ 0) (Rs.ok []))) A) ρ) fun ρ A=>bH (cE 2 ((cb (ai (ar ρ 1) A) fun A=>Rz.ok [] A).bind fv) ρ) fun ρ A=>bH (cE 3 (dW (aC de (ag (P9 A ρ) (Rs.ok []))) A) ρ) fun ρ A=>bH (cE 4 (dW (Rs.ok (Tr.aE [])) A) ρ) fun ρ A=>bH (cE 5 (dW (P_ A ρ) A) ρ) fun ρ A=>bH (cE 6 (ai (Rs.ok (Tr.int 1)) A) ρ) fun ρ A=>bH (fj cW bW 100 ρ A) fun ρ A=>hW (ai (ar ρ 4) A)
theorem OK:gD.1=gH:=rfl
def tH(H:Mk->Nat)(m:Mk):Tr:=.int (H m)
structure Sy(ks:List Mk)(bh:Mk->List Mk)(H:Mk->Nat)(A:Ab)(w:Mk->Int)(hs:List Mk)(lv:Nat)(ls:List Mk):Prop where
 f:∀m∈ks,A[ks.idxOf m]?=some (.lst ((nE bh ks m).map tM))
 w:A[ks.length]?=some (.aE (fD ks fun m=>.int (w m)))
 h:A[ks.length+1]?=some (.aE (fD hs (tH H)))
 l:A[lv]?=some (.lst (ls.map tM))
 hl:ks.length+1<lv
structure Sx(ks:List Mk)(bh:Mk->List Mk)(H:Mk->Nat)(A:Ab)(w:Mk->Int)(hs:List Mk)(lv:Nat)(ls:List Mk)(fr:Nat)(fs:List Mk):Prop where
 y:Sy ks bh H A w hs lv ls
 r:A[fr]?=some (.lst (fs.map tM))
 hr:lv<fr
section
variable {ks:List Mk}{bh:Mk->List Mk}{H:Mk->Nat}{A:Ab}{w:Mk->Int}{hs ls fs:List Mk}{lv fr:Nat}
theorem cu{α:Type}{l:List α}{i:Nat}{x:α}(h:l[i]?=some x):i<l.length:=by
 by_cases q:i<l.length
 ·exact q
 ·rw[List.getElem?_eq_none (by omega)]at h;cases h
theorem sv{m:Mk}(h:m∈ks):ks.idxOf m<ks.length:=lQ h
theorem Sx.SW (S:Sx ks bh H A w hs lv ls fr fs)(w':Mk->Int):Sx ks bh H (A.set ks.length (.aE (fD ks fun m=>.int (w' m)))) w' hs lv ls fr fs:=by
 have:=S.hr;have:=S.y.hl;refine⟨⟨fun m hm=>?_,?_,?_,?_,S.y.hl⟩,?_,S.hr⟩
 ·rw[ck (by have:=sv hm;omega)];exact S.y.f m hm
 ·rw[dM (cu S.y.w)]
 ·rw[ck (by omega)];exact S.y.h
 ·rw[ck (by omega)];exact S.y.l
 ·rw[ck (by omega)];exact S.r
theorem Sx.SX (S:Sx ks bh H A w hs lv ls fr fs)(Gw:List Mk):Sx ks bh H (A.set (ks.length+1) (.aE (fD Gw (tH H)))) w Gw lv ls fr fs:=by
 have:=S.hr;have:=S.y.hl;refine⟨⟨fun m hm=>?_,?_,?_,?_,S.y.hl⟩,?_,S.hr⟩
 ·rw[ck (by have:=sv hm;omega)];exact S.y.f m hm
 ·rw[ck (by omega)];exact S.y.w
 ·rw[dM (cu S.y.h)]
 ·rw[ck (by omega)];exact S.y.l
 ·rw[ck (by omega)];exact S.r
theorem Sx.SY (S:Sx ks bh H A w hs lv ls fr fs)(AH:List Mk):Sx ks bh H (A.set fr (.lst (AH.map tM))) w hs lv ls fr AH:=by
 have:=S.hr;have:=S.y.hl;refine⟨⟨fun m hm=>?_,?_,?_,?_,S.y.hl⟩,?_,S.hr⟩
 ·rw[ck (by have:=sv hm;omega)];exact S.y.f m hm
 ·rw[ck (by omega)];exact S.y.w
 ·rw[ck (by omega)];exact S.y.h
 ·rw[ck (by omega)];exact S.y.l
 ·rw[dM (cu S.r)]
def rW(T K:Tr)(ks:List Mk)(lv:Nat)(h:Int)(fr c d:Cell):av:=[.sh T,.sh K,.sh (.aE (fD ks (tI ks))),.sh (.at ks.length),.sh (.at (ks.length+1)),.sh (.at lv),.sh (.int h),fr,c,d]
theorem sx{n:Nat}{us:List Mk}{g:Mk->Int}(e:A[n]?=some (.aE (fD us fun m=>.int (g m))))(k:Nat):bo (k+1) A (.at n)=.aE (fD us fun m=>.int (g m)):=by
 rw[bo];simp only[e];unfold fD;rw[bj];congr 1;refine eO fun m _=>?_
 cases k<;>rfl
theorem sy{n:Nat}{us:List Mk}(e:A[n]?=some (.lst (us.map tM)))(k:Nat):bo (k+1) A (.at n)=.lst (us.map tM):=by
 rw[bo];simp only[e];rw[bj];congr 1;refine eO fun m _=>?_
 cases k<;>rfl
theorem OL(a b:Int):nN (.int a) (.int b)=.ok (.bl (a==b)):=ab ⟨rfl,rfl,by show 0<=40;decide⟩
theorem OM(S:Sx ks bh H A w hs lv ls fr fs)(kl:ks.length<=1000){T K:Tr}{h:Int}{c:Cell}{f:Mk}(hf:f∈ks)(hl:fs.length<=1000):
  ∃A',bE (rW T K ks lv h (.sh (.at fr)) c (.sh (tM f))) A=.ok (.nx (rW T K ks lv h (.sh (.at fr)) c (.sh (tM f)))) A'/\Sx ks bh H A' (BP (w,fs) f).1 hs lv ls fr (BP (w,fs) f).2:=by
 have S1:=S.SW fun x=>if x=f then w f - 1 else w x
 have e1:DB (fun A=>ai (ar (rW T K ks lv h (.sh (.at fr)) c (.sh (tM f))) 3) A) (fun A=>ai (ar (rW T K ks lv h (.sh (.at fr)) c (.sh (tM f))) 9) A) (fun A=>ai (Rs.ok (Tr.int 1)) A) (rW T K ks lv h (.sh (.at fr)) c (.sh (tM f))) A=.ok (.nx (rW T K ks lv h (.sh (.at fr)) c (.sh (tM f)))) (A.set ks.length (.aE (fD ks fun m=>.int (if m=f then w f - 1 else w m)))):=by
  have g1:DA A (.at ks.length) (tM f)=some (w f):=by
   show(match A[ks.length]? with
    |some (.aE aB)=>(match ir aB (kM f)with
     |some (.int n)=>some n
     |_=>none)
    |_=>none)=_
   rw[S.y.w];show(match ir (fD ks fun m=>.int (w m)) (kM f)with
     |some (.int n)=>some n
     |_=>none)=_
   rw[nA,ab hf]
  have g2:jv A (.at ks.length) (tM f) (.int (w f - 1))=some (A.set ks.length (.aE (fD ks fun m=>.int (if m=f then w f - 1 else w m)))):=by
   show(match A[ks.length]? with
    |some (.aE aB)=>if aB.length<iT then some (A.set ks.length (.aE (i6 aB (kM f) (.int (w f - 1)))))else none
    |_=>none)=_
   rw[S.y.w];show(if(fD ks fun m=>.int (w m)).length<iT then some (A.set ks.length (.aE (i6 (fD ks fun m=>.int (w m)) (kM f) (.int (w f - 1)))))else none)=_;rw[ab (by unfold fD iT;rw[aj];omega),xC hf];have:(fun x=>if x=f then Tr.int (w f - 1)else Tr.int (w x))=fun m=>Tr.int (if m=f then w f - 1 else w m):=funext fun x=>by by_cases e:x=f<;>simp[e]
   rw[this]
  show(match DA A (.at ks.length) (tM f)with
   |some n=>_
   |none=>Rz.bad)=_
  rw[g1];show(match jv A (.at ks.length) (tM f) (.int (w f - 1))with
   |some A'=>Rz.ok (Out.nx _) A'
   |none=>Rz.bad)=_
  rw[g2]
 have key:bE (rW T K ks lv h (.sh (.at fr)) c (.sh (tM f))) A=uf (ai (jA (cx nN (cx pC (.ok (bo 5 (A.set ks.length (.aE (fD ks fun m=>.int (if m=f then w f - 1 else w m)))) (.at ks.length))) (.ok (tM f))) (Rs.ok (Tr.int 0)))) (A.set ks.length (.aE (fD ks fun m=>.int (if m=f then w f - 1 else w m))))) (fun A=>fG (wN fL (ai (Rs.ok (.at fr)) A) fun A=>cb (ai (.ok (tM f)) A) fun A=>Rz.ok [] A) (rW T K ks lv h (.sh (.at fr)) c (.sh (tM f)))) fun A=>Rz.ok (Out.nx (rW T K ks lv h (.sh (.at fr)) c (.sh (tM f)))) A:=by
  unfold bE;rw[e1]
  rfl
 rw[key,sx S1.y.w];show∃A',uf (ai (jA (cx nN (pC (.aE (fD ks fun m=>.int (if m=f then w f - 1 else w m))) (tM f)) (Rs.ok (Tr.int 0)))) _) _ _=_/\_;rw[jq hf,ab rfl];show∃A',uf (ai (jA (nN (.int (w f - 1)) (Tr.int 0))) _) _ _=_/\_;rw[OL];by_cases z:w f - 1=0
 ·have e0:(BP (w,fs) f)=(fun x=>if x=f then w f - 1 else w x,fs++[f]):=by unfold BP;simp only[z,fY]
  rw[e0];refine⟨_,?_,S1.SY (fs++[f])⟩;have b0:((w f - 1:Int)==0)=true:=by rw[z];rfl
  rw[b0];show fG (if Bn _ fr=true then fL fr [tM f] _ else .bad) _=_;have r1:=S1.r;have i1:Bn (A.set ks.length (.aE (fD ks fun m=>.int (if m=f then w f - 1 else w m)))) fr=true:=by unfold Bn;rw[r1]
  have a1:fL fr [tM f] (A.set ks.length (.aE (fD ks fun m=>.int (if m=f then w f - 1 else w m))))=.ok .cq ((A.set ks.length (.aE (fD ks fun m=>.int (if m=f then w f - 1 else w m)))).set fr (.lst ((fs++[f]).map tM))):=by
   unfold fL;simp only[r1];rw[ab (by rw[aj];unfold iT;omega),dP]
   rfl
  rw[ab i1,a1]
  rfl
 ·have e0:(BP (w,fs) f)=(fun x=>if x=f then w f - 1 else w x,fs):=by unfold BP;simp only[z,bB]
  rw[e0];refine⟨_,?_,S1⟩;have b0:((w f - 1:Int)==0)=false:=by simp[z]
  rw[b0]
  rfl
theorem Al(kl:ks.length<=1000){T K:Tr}{h:Int}{c:Cell}{b:Mk}(hb:b∈ks):∀(rem pre:List Mk) (n:Nat) (d:Cell) (A:Ab) (w:Mk->Int) (fs:List Mk),nE bh ks b=pre++rem->rem.length<n->fs.length+rem.length<=1000->Sx ks bh H A w hs lv ls fr fs->
  ∃A' d',gg (gN 9) bE (ks.idxOf b) n pre.length (rW T K ks lv h (.sh (.at fr)) c d) A=.ok (.nx (rW T K ks lv h (.sh (.at fr)) c d')) A'/\Sx ks bh H A' (pW rem (w,fs)).1 hs lv ls fr (pW rem (w,fs)).2
 |[],pre,n+1,d,A,w,fs,e,hn,hl,S=>⟨A,d,UA (S.y.f b hb) (by rw[e];simp),S⟩
 |f::rem,pre,n+1,d,A,w,fs,e,hn,hl,S=>by
  have hf:f∈ks:=(bF.mp (show f∈nE bh ks b by rw[e];simp)).1;rw[a_]at hl hn;obtain⟨A1,e1,S1⟩:=OM S kl (T:=T) (K:=K) (h:=h) (c:=c) hf (by omega);obtain⟨A2,d2,e2,S2⟩:=Al kl (T:=T) (K:=K) (h:=h) (c:=c) hb rem (pre++[f]) n (.sh (tM f)) A1 _ _ (by rw[e];simp) (by omega) (by have:=Ai (w,fs) f;simp only at this;omega) S1;refine⟨A2,d2,?_,by rw[nF];exact S2⟩;rw[Uz (S.y.f b hb) (t:=tM f) (by rw[e];simp) (ρ2:=rW T K ks lv h (.sh (.at fr)) c (.sh (tM f))) e1];rw[bc,a_,dz]at e2;exact e2
 |[],_,0,_,_,_,_,_,hn,_,_=>by omega
 |_::_,_,0,_,_,_,_,_,hn,_,_=>by omega
end
end kD
namespace kD
open PySem L2
section
variable {ks:List Mk}{bh:Mk->List Mk}{H:Mk->Nat}{A:Ab}{w:Mk->Int}{hs ls fs:List Mk}{lv fr:Nat}
theorem Am(b:Mk):(nE bh ks b).length<=ks.length:=ia _ _
theorem ON(kl:ks.length<=20)(S:Sx ks bh H A w hs lv ls fr fs){T K:Tr}{h:Int}{d:Cell}{m:Mk}(hm:m∈ks)(hh:(H m:Int)=h)(hn:m∉hs)(XM:hs.length<=1000)(hl:fs.length+(nE bh ks m).length<=1000):
  ∃A' d',bL (rW T K ks lv h (.sh (.at fr)) (.sh (tM m)) d) A=.ok (.nx (rW T K ks lv h (.sh (.at fr)) (.sh (tM m)) d')) A'/\Sx ks bh H A' (pW (nE bh ks m) (w,fs)).1 (hs++[m]) lv ls fr (pW (nE bh ks m) (w,fs)).2:=by
 have S1:=S.SX (hs++[m]);have g2:jv A (.at (ks.length+1)) (tM m) (.int h)=some (A.set (ks.length+1) (.aE (fD (hs++[m]) (tH H)))):=by
  show(match A[ks.length+1]? with
   |some (.aE aB)=>if aB.length<iT then some (A.set (ks.length+1) (.aE (i6 aB (kM m) (.int h))))else none
   |_=>none)=_
  rw[S.y.h];show(if(fD hs (tH H)).length<iT then some (A.set (ks.length+1) (.aE (i6 (fD hs (tH H)) (kM m) (.int h))))else none)=_;rw[ab (by unfold fD iT;rw[aj];omega),sq hn (by unfold tH;rw[hh])]
 obtain⟨A2,d2,e2,S2⟩:=Al (by omega) (T:=T) (K:=K) (h:=h) (c:=.sh (tM m)) hm (nE bh ks m) [] 100 d _ _ _ rfl (by have:=Am (ks:=ks) (bh:=bh) m;omega) hl S1;refine⟨A2,d2,?_,S2⟩;show bH (match jv A (.at (ks.length+1)) (tM m) (.int h)with
  |some A'=>Rz.ok (Out.nx (rW T K ks lv h (.sh (.at fr)) (.sh (tM m)) d)) A'
  |none=>Rz.bad) (fun ρ A=>loopAt (gN 9) bE 100 (ai (cx pC (ar ρ 2) (ar ρ 8)) A) ρ)=_
 rw[g2];show loopAt (gN 9) bE 100 (ai (pC (.aE (fD ks (tI ks))) (tM m)) _) _=_;rw[jq hm];show(match(A.set (ks.length+1) (.aE (fD (hs++[m]) (tH H))))[ks.idxOf m]? with
   |some (.lst ts)=>gg (gN 9) bE (ks.idxOf m) 100 0 (rW T K ks lv h (.sh (.at fr)) (.sh (tM m)) d) (A.set (ks.length+1) (.aE (fD (hs++[m]) (tH H))))
   |_=>Rz.bad)=_
 rw[S1.y.f m hm];exact e2
theorem An(kl:ks.length<=20){T K:Tr}{h:Int}:∀(rem pre:List Mk) (n:Nat) (c d:Cell) (A:Ab) (w:Mk->Int) (hs fs:List Mk),ls=pre++rem->rem.length<n->(∀m∈rem,m∈ks/\(H m:Int)=h/\m∉hs)->rem.Nodup->hs.length+rem.length<=500->fs.length+rem.length*20<=1000->Sx ks bh H A w hs lv ls fr fs->
  ∃A' c' d',gg (gN 8) bL lv n pre.length (rW T K ks lv h (.sh (.at fr)) c d) A=.ok (.nx (rW T K ks lv h (.sh (.at fr)) c' d')) A'/\Sx ks bh H A' (pW (rem.flatMap (nE bh ks)) (w,fs)).1 (hs++rem) lv ls fr (pW (rem.flatMap (nE bh ks)) (w,fs)).2
 |[],pre,n+1,c,d,A,w,hs,fs,e,hn,hm,nd,h1,h2,S=>⟨A,c,d,UA S.y.l (by rw[e];simp),by rw[cU];exact S⟩
 |m::rem,pre,n+1,c,d,A,w,hs,fs,e,hn,hm,nd,h1,h2,S=>by
  rw[a_]at h1 h2 hn;rw[dN]at nd;obtain⟨m1,m2,m3⟩:=hm m (aW ..);have fl:=Am (ks:=ks) (bh:=bh) m;obtain⟨A1,d1,e1,S1⟩:=ON kl S (T:=T) (K:=K) (h:=h) (d:=d) m1 m2 m3 (by omega) (by omega);obtain⟨A2,c2,d2,e2,S2⟩:=An kl (T:=T) (K:=K) (h:=h) rem (pre++[m]) n (.sh (tM m)) d1 A1 _ _ _ (by rw[e];simp) (by omega) (fun x hx=>by
   obtain⟨a,b,c⟩:=hm x (aV _ hx);refine⟨a,b,fun q=>?_⟩;rcases d_.mp q with q|q
   ·exact c q
   ·rw[cv]at q;exact nd.1 (q▸hx)) nd.2 (by rw[bc,a_,dz];omega) (by have:=Aj (nE bh ks m) (w,fs);simp only at this;omega) S1
  refine⟨A2,c2,d2,?_,?_⟩
  ·rw[Uz S.y.l (t:=tM m) (by rw[e];simp) (ρ2:=rW T K ks lv h (.sh (.at fr)) (.sh (tM m)) d1) e1];rw[bc,a_,dz]at e2;exact e2
  ·rw[List.flatMap_cons,Gv];rw[ib]at S2;exact S2
 |[],_,0,_,_,_,_,_,_,_,hn,_,_,_,_,_=>by omega
 |_::_,_,0,_,_,_,_,_,_,_,hn,_,_,_,_,_=>by omega
theorem Sy.new (S:Sy ks bh H A w hs lv ls):Sx ks bh H (A++[Ao.lst []]) w hs lv ls A.length []:=by
 have l1:=cu S.w;have l2:=cu S.h;have l3:=cu S.l;refine⟨⟨fun m hm=>?_,?_,?_,?_,S.hl⟩,?_,l3⟩
 ·rw[bZ (by have:=sv hm;omega)];exact S.f m hm
 ·rw[bZ l1];exact S.w
 ·rw[bZ l2];exact S.h
 ·rw[bZ l3];exact S.l
 ·rw[dJ (aA _),eY];rfl
theorem OO(S:Sy ks bh H A w hs lv ls){T K:Tr}{h:Int}{b c d:Cell}:cW (rW T K ks lv h b c d) A=.ok (decide (0<ls.length)) A:=by
 show ai (jA (cx Jl (aC iY (ag (.ok (bo 5 A (.at lv))) (Rs.ok []))) (Rs.ok (Tr.int 0)))) A=_;rw[sy S.l];show Rz.ok (decide ((0:Int)<((ls.map tM).length:Int))) A=_;rw[aj];congr 1;exact decide_eq_decide.mpr (by omega)
theorem OP(K0:pJ ks bh H){h:Nat}(L:Lv ks bh H h hs ls w)(S:Sy ks bh H A w hs lv ls){T K:Tr}{b c d:Cell}:
  ∃A' Lp b' c' d',bW (rW T K ks lv h b c d) A=.ok (.nx (rW T K ks Lp ((h+1:Nat):Int) b' c' d')) A'/\Sy ks bh H A' (pW (ls.flatMap (nE bh ks)) (w,[])).1 (hs++ls) Lp (pW (ls.flatMap (nE bh ks)) (w,[])).2:=by
 have Sn:=S.new;have hl:ls.length<=20:=bp (lP L.Lo fun m hm=>((L.vz m).mp hm).1) K0.len;have XN:hs.length<=20:=bp (lP L.nd fun m hm=>((L.mem m).mp hm).1) K0.len;obtain⟨A1,c1,d1,e1,S1⟩:=An K0.len (T:=T) (K:=K) (h:=(h:Int)) ls [] 100 c d _ w hs [] rfl (by omega) (fun m hm=>by
  have:=(L.vz m).mp hm;exact⟨this.1,by omega,fun q=>by have:=((L.mem m).mp q).2;omega⟩) L.Lo (by omega) (by rw[dz];omega) Sn
 refine⟨A1,A.length,.sh (.at A.length),c1,d1,?_,?_⟩
 ·show bH (loopAt (gN 8) bL 100 (.ok (.at lv) (A++[Ao.lst []])) (rW T K ks lv h (.sh (.at A.length)) c d)) _=_;have:loopAt (gN 8) bL 100 (.ok (.at lv) (A++[Ao.lst []])) (rW T K ks lv h (.sh (.at A.length)) c d)=gg (gN 8) bL lv 100 0 (rW T K ks lv h (.sh (.at A.length)) c d) (A++[Ao.lst []]):=by
   show(match(A++[Ao.lst []])[lv]? with
    |some (.lst ts)=>gg (gN 8) bL lv 100 0 (rW T K ks lv h (.sh (.at A.length)) c d) (A++[Ao.lst []])
    |_=>Rz.bad)=_
   rw[Sn.y.l]
  rw[this,show(0:Nat)=([]:List Mk).length from rfl,e1]
  rfl
 ·exact⟨S1.y.f,S1.y.w,S1.y.h,S1.r,by have:=Sn.hr;have:=S.hl;omega⟩
theorem HM(K0:pJ ks bh H){T K:Tr}:∀(k n h lv:Nat) (A:Ab) (w:Mk->Int) (hs ls:List Mk) (b c d:Cell),k<n->(∀m∈ks,H m<h+k)->Lv ks bh H h hs ls w->Sy ks bh H A w hs lv ls->
  ∃A' Lp h' Gw b' c' d',fj cW bW n (rW T K ks lv (h:Int) b c d) A=.ok (.nx (rW T K ks Lp h' b' c' d')) A'/\A'[ks.length+1]?=some (.aE (fD Gw (tH H)))/\Gw.Perm ks
 |k,0,h,lv,A,w,hs,ls,b,c,d,hk,_,_,_=>by omega
 |k,n+1,h,lv,A,w,hs,ls,b,c,d,hk,ht,L,S=>by
  rw[fj,OO S]
  match ls,L,S with
  |[],L,S=>
   refine⟨A,lv,h,hs,b,c,d,rfl,S.h,(lU L.nd K0.nd).mpr fun m=>?_⟩;rw[L.mem m];exact⟨fun q=>q.1,fun q=>⟨q,L.last K0 m q⟩⟩
  |m::ls,L,S=>
   have hm:=(L.vz m).mp (aW ..);have:=ht m hm.1;obtain⟨A1,W7,b1,c1,d1,e1,S1⟩:=OP K0 L S (T:=T) (K:=K) (b:=b) (c:=c) (d:=d)
   match k,hk,ht with
   |0,_,ht=>exact absurd (ht m hm.1) (by omega)
   |k+1,hk,ht=>
    obtain⟨A2,r⟩:=HM K0 (T:=T) (K:=K) k n (h+1) W7 A1 _ _ _ b1 c1 d1 (by omega) (fun x hx=>by have:=ht x hx;omega) (L.next K0) S1;refine⟨A2,?_⟩;show∃Lp h' Gw b' c' d',(bW (rW T K ks lv h b c d) A).bind _=_/\_;rw[e1];exact r
theorem OQ{P:Mk->Bool}{f:Mk->Tr}{Q:av->Rs Bool}{F:av->Rs Tr}{xs:List Cell}:∀(ms:List Mk) (c:Cell),(∀m∈ms,Q (.sh (tM m)::xs)=.ok (P m))->(∀m∈ms,P m=true->F (.sh (tM m)::xs)=.ok (f m))->lE (gN 0) Q F (ms.map tM) (c::xs)=.ok ((ms.filter P).map f)
 |[],c,_,_=>rfl
 |m::ms,c,hQ,hF=>by
  have ih:=OQ (P:=P) (f:=f) (Q:=Q) (F:=F) (xs:=xs) ms (.sh (tM m)) (fun x hx=>hQ x (aV _ hx)) (fun x hx=>hF x (aV _ hx));rw[ay,lE];show(EA (Q (.sh (tM m)::xs))).bind _=_;rw[hQ m (aW ..)];cases p:P m with
  |true=>
   show(EA (F (.sh (tM m)::xs))).bind _=_;rw[hF m (aW ..) p];show(lE (gN 0) Q F (ms.map tM) (.sh (tM m)::xs)).bind _=_;rw[ih,fP,p]
   rfl
  |false=>
   show lE (gN 0) Q F (ms.map tM) (.sh (tM m)::xs)=_;rw[ih,fP,p]
   rfl
def w0(ks:List Mk)(bh:Mk->List Mk)(m:Mk):Int:=((bh m).filter fun b=>decide (b∈ks)).length
theorem kF{ix:List (Option Nat)}{Q:av->Rs Bool}{F:av->Rs Tr}{ms:List Mk}{ρ:av}(h:ms.length<=1000):gL ix (gN 0) Q F (.ok (ms.map tM)) ρ=(lE (gN 0) Q F (ms.map tM) (kb ix ρ)).bind fun ys=>.ok (.lst ys):=by
 show(if(ms.map tM).length<=iT then(lE (gN 0) Q F (ms.map tM) (kb ix ρ)).bind fun ys=>Rs.ok (Tr.lst ys)else .bad)=_;rw[ab (by rw[aj];unfold iT;omega)]
theorem Kp(K0:pJ ks bh H){T:Tr}{FO c3 c4 c5 c6 c7 c8 c9:Cell}:P9 A [.sh T,.sh (.aE (fD ks (tB bh))),FO,c3,c4,c5,c6,c7,c8,c9]=.ok (.lst (ks.map fun m=>.tup [tM m,.int (w0 ks bh m)])):=by
 have kl:=K0.len;unfold P9;show gL [none,some 1] (gN 0) _ _ (lJ (.ok (.aE (fD ks (tB bh))))) _=_;rw[nB,kF (by omega)];show(lE (gN 0) _ _ (ks.map tM) [.no,.sh (.aE (fD ks (tB bh)))]).bind _=_;rw[OQ (P:=fun _=>true) (f:=fun m=>.tup [tM m,.int (w0 ks bh m)]) ks .no (fun _ _=>rfl) fun m hm _=>?_]
 ·rw[List.filter_eq_self.mpr (fun _ _=>rfl)];rfl
 ·show fB (ag (.ok (tM m)) (ag (aC iY (ag (gL [none,some 1] (gN 0) _ _ (iU (pC (.aE (fD ks (tB bh))) (tM m))) _) (Rs.ok []))) (Rs.ok [])))=_;rw[jq hm];have bl:=K0.Eb m hm;have e:gL [none,some 1] (gN 0) (fun ρ=>jA (cx yx (ar ρ 0) (ar ρ 1))) (fun ρ=>ar ρ 0) (iU (.ok (tB bh m))) [.sh (tM m),.sh (.aE (fD ks (tB bh)))]=.ok (.lst (((bh m).filter fun b=>decide (b∈ks)).map tM)):=by
   show gL [none,some 1] (gN 0) (fun ρ=>jA (cx yx (ar ρ 0) (ar ρ 1))) (fun ρ=>ar ρ 0) (.ok ((bh m).map tM)) _=_;rw[kF (by omega)];show(lE (gN 0) _ _ ((bh m).map tM) [.no,.sh (.aE (fD ks (tB bh)))]).bind _=_;rw[OQ (P:=fun b=>decide (b∈ks)) (f:=tM) (bh m) .no (fun b _=>by
    show jA (yx (tM b) (.aE (fD ks (tB bh))))=_;rw[oK];rfl) (fun _ _ _=>rfl)]
   rfl
  rw[e];show Rs.ok (Tr.tup [tM m,.int ((((bh m).filter fun b=>decide (b∈ks)).map tM).length:Int)])=_;rw[aj]
  rfl
theorem xG:∀(us:List Mk) (g:Mk->Int),gp ((fD us fun m=>.int (g m)).map (·.2))=true
 |[],_=>rfl
 |u::us,g=>by
  show(true&&gp ((fD us fun m=>.int (g m)).map (·.2)))=true;rw[xG us g];rfl
theorem Kq(K0:pJ ks bh H){T:Tr}{FO c4 c5 c6 c7 c8 c9:Cell}{i:Nat}(e:A[i]?=some (.aE (fD ks fun m=>.int (w m)))):P_ A [.sh T,.sh (.aE (fD ks (tB bh))),FO,.sh (.at i),c4,c5,c6,c7,c8,c9]=.ok (.lst ((ks.filter fun m=>w m==0).map tM)):=by
 have kl:=K0.len;unfold P_;show gL [none,some 3] (gN 0) _ _ (lJ (.ok (.aE (fD ks (tB bh))))) _=_;rw[nB,kF (by omega)];show(lE (gN 0) _ _ (ks.map tM) [.no,.sh (bo 5 A (.at i))]).bind _=_;rw[sx e];rw[OQ (P:=fun m=>w m==0) (f:=tM) ks .no (fun m hm=>by
  show jA (cx nN (pC (.aE (fD ks fun m=>.int (w m))) (tM m)) (Rs.ok (Tr.int 0)))=_;rw[jq hm];show jA (nN (.int (w m)) (Tr.int 0))=_;rw[OL];rfl) (fun _ _ _=>rfl)]
 rfl
theorem dU{i:Nat}{t:Tr}{A:Ab}{ρ:av}{G:av->Ab->Rz Out}:bH (cE i (.ok t A) ρ) G=G (ρ.set i (.sh t)) A:=rfl
def h9(ks:List Mk)(bh:Mk->List Mk):Tr:=.tup (ks.map fun m=>.tup [tM m,tB bh m])
theorem sA:∀ms:List Mk,cM (ms.map tM)=true
 |[]=>rfl
 |m::ms=>by rw[ay,cM,sA ms];rfl
theorem pZ(bh:Mk->List Mk):∀ms:List Mk,cM (ms.map fun m=>.tup [tM m,tB bh m])=true
 |[]=>rfl
 |m::ms=>by
  rw[ay,cM,pZ bh ms];show((true&&(cM ((bh m).map tM)&&true))&&true)=true;rw[sA];rfl
theorem uD:∀(us:List Mk) (g:Mk->Int),t_ (fD us fun m=>.int (g m))=true
 |[],_=>rfl
 |u::us,g=>by
  show(true&&t_ (fD us fun m=>.int (g m)))=true;rw[uD us g];rfl
theorem BS(K0:pJ ks bh H):∃hs:List Mk,gE [h9 ks bh]=.ok (.aE (fD hs (tH H)))/\hs.Perm ks:=by
 have kl:=K0.len;obtain⟨A0,e0,h0⟩:=xE K0.nd (by omega) K0.UB
 let A1:Ab:=A0++[.aE (fD ks fun m=>.int (w0 ks bh m))]
 let A2:Ab:=A1++[.aE []]
 let A3:Ab:=A2++[.lst ((ks.filter fun m=>w0 ks bh m==0).map tM)]
 have n0:A0.length=ks.length:=h0.1;have n1:A1.length=ks.length+1:=by show(A0++[_]).length=_;rw[bc,n0];rfl
 have n2:A2.length=ks.length+2:=by show(A1++[_]).length=_;rw[bc,n1];rfl
 have q1:A1[ks.length]?=some (.aE (fD ks fun m=>.int (w0 ks bh m))):=by
  show(A0++[_])[ks.length]?=_
  rw[dJ (by omega),n0,eY];rfl
 have q2:A2[ks.length]?=some (.aE (fD ks fun m=>.int (w0 ks bh m))):=by
  show(A1++[_])[ks.length]?=_
  rw[bZ (by omega)];exact q1
 have W8:Sy ks bh H A3 (w0 ks bh) [] (ks.length+2) (ks.filter fun m=>w0 ks bh m==0):=by
  refine⟨fun m hm=>?_,?_,?_,?_,by omega⟩
  ·have:=sv hm;show((A1++[_])++[_])[ks.idxOf m]?=_
   rw[bZ (by rw[bc,n1];omega),bZ (by omega)];show(A0++[_])[ks.idxOf m]?=_
   rw[bZ (by omega)];exact h0.2 m hm
  ·show(A2++[_])[ks.length]?=_
   rw[bZ (by omega)];exact q2
  ·show(A2++[_])[ks.length+1]?=_
   rw[bZ (by omega)];show(A1++[_])[ks.length+1]?=_
   rw[dJ (by omega),n1,eY];rfl
  ·show(A2++[_])[ks.length+2]?=_
   rw[dJ (by omega),n2,eY];rfl
 obtain⟨A',Lp,h',Gw,b',c',d',ew,q,hp⟩:=HM K0 (T:=h9 ks bh) (K:=.aE (fD ks (tB bh))) 50 100 1 _ A3 _ _ _ .no .no .no (by omega) (fun m hm=>by have:=K0.top m hm;omega) (Lv.start K0 (w0 ks bh) fun _ _=>rfl) W8;refine⟨Gw,?_,hp⟩;have key:gE [h9 ks bh]=dF (gH [.sh (h9 ks bh),.no,.no,.no,.no,.no,.no,.no,.no,.no] []):=by
  show(if _/\_ then dF (gD.1 _ _)else Rs.bad)=_;rw[ab ⟨rfl,by show(cM _&&true)=true;rw[pZ];rfl⟩,OK]
  rfl
 rw[key];unfold gH;have d1:aC de (ag (ar [.sh (h9 ks bh),.no,.no,.no,.no,.no,.no,.no,.no,.no] 0) (Rs.ok []))=.ok (.aE (fD ks (tB bh))):=nC (tB bh) K0.nd (by omega);rw[d1];show dF (bH (cE 2 (fv [.aE (fD ks (tB bh))] []) [.sh (h9 ks bh),.sh (.aE (fD ks (tB bh))),.no,.no,.no,.no,.no,.no,.no,.no]) _)=_;rw[e0];show dF (bH (cE 3 (dW (aC de (ag (P9 A0 [.sh (h9 ks bh),.sh (.aE (fD ks (tB bh))),.sh (.aE (fD ks (tI ks))),.no,.no,.no,.no,.no,.no,.no]) (Rs.ok []))) A0) [.sh (h9 ks bh),.sh (.aE (fD ks (tB bh))),.sh (.aE (fD ks (tI ks))),.no,.no,.no,.no,.no,.no,.no]) _)=_;rw[Kp K0];have d2:aC de (ag (.ok (.lst (ks.map fun m=>.tup [tM m,.int (w0 ks bh m)]))) (Rs.ok []))=.ok (.aE (fD ks fun m=>.int (w0 ks bh m))):=sr (fun m=>.int (w0 ks bh m)) K0.nd (by omega);rw[d2];have d3:dW (.ok (.aE (fD ks fun m=>.int (w0 ks bh m)))) A0=.ok (.at ks.length) A1:=by
  show(if gp ((fD ks fun m=>.int (w0 ks bh m)).map (·.2))=true then Rz.ok (Tr.at A0.length) A1 else .bad)=_;rw[ab (xG _ _),n0]
 rw[d3];rw[dU];have d5:dW (Rs.ok (Tr.aE [])) A1=.ok (.at (ks.length+1)) A2:=by
  show Rz.ok (Tr.at A1.length) A2=_;rw[n1]
 rw[d5,dU];show dF (bH (cE 5 (dW (P_ A2 [.sh (h9 ks bh),.sh (.aE (fD ks (tB bh))),.sh (.aE (fD ks (tI ks))),.sh (.at ks.length),.sh (.at (ks.length+1)),.no,.no,.no,.no,.no]) A2) [.sh (h9 ks bh),.sh (.aE (fD ks (tB bh))),.sh (.aE (fD ks (tI ks))),.sh (.at ks.length),.sh (.at (ks.length+1)),.no,.no,.no,.no,.no]) _)=_;rw[Kq K0 q2];have d4:dW (.ok (.lst ((ks.filter fun m=>w0 ks bh m==0).map tM))) A2=.ok (.at (ks.length+2)) A3:=by
  show(if gp ((ks.filter fun m=>w0 ks bh m==0).map tM)=true then Rz.ok (Tr.at A2.length) A3 else .bad)=_;rw[ab (gG _),n2]
 rw[d4];show dF (bH (fj cW bW 100 (rW (h9 ks bh) (.aE (fD ks (tB bh))) ks (ks.length+2) 1 .no .no .no) A3) _)=_;rw[show(1:Int)=((1:Nat):Int)from rfl,ew];show(if gA (bo 3 A' (.at (ks.length+1)))=true then Rs.ok (bo 3 A' (.at (ks.length+1)))else Rs.bad)=_;rw[sx (g:=fun m=>(H m:Int)) q];have nz:gA (Tr.aE (fD Gw fun m=>Tr.int (H m:Int)))=true:=by rw[gA];exact uD _ _
 rw[ab nz]
 rfl
end
end kD
namespace kD
open PySem L2
section
variable {ks:List Mk}{bh:Mk->List Mk}{H:Mk->Nat}
def o4(k:Nat)(t:Tr):Prop:=dh k [t,t]=.ok (.bl true)
theorem same_int(k:Nat)(i:Int):o4 (k+1) (.int i):=by
 show fF (j9 (AW (.ok (.bl true)) (nN (.int i) (.int i))))=_;rw[OL,bD];rfl
def gZ(k:Nat):av->Rs Tr:=fun ρ=>aC (dh k) (ag (ar ρ 0) (ag (ar ρ 1) (.ok [])))
theorem Ap{k:Nat}:∀(ts:List Tr) (a b:Cell),(∀t∈ts,o4 k t)->lE (gT [0,1]) (fun _=>.ok true) (gZ k) (Bj ts ts) [a,b]=.ok (ts.map fun _=>.bl true)
 |[],a,b,_=>rfl
 |t::ts,a,b,h=>by
  have e:=h t (aW ..);unfold o4 at e;show(EA (dh k [t,t])).bind (fun y=>(lE (gT [0,1]) (fun _=>.ok true) (gZ k) (Bj ts ts) [.sh t,.sh t]).bind fun ys=>.ok (y::ys))=_;rw[e,Ap ts (.sh t) (.sh t) fun u m=>h u (aV _ m)]
  rfl
theorem xH:∀ts:List Tr,uX (ts.map fun _=>Tr.bl true)=.ok (ts.map fun _=>true)
 |[]=>rfl
 |t::ts=>by rw[ay,uX,xH ts];rfl
theorem all_true:∀ts:List Tr,(ts.map fun _=>true).all id=true
 |[]=>rfl
 |t::ts=>by rw[ay,eV,all_true ts];rfl
theorem Kr{b:Bool}:jA (.ok (.bl b))=.ok b:=rfl
theorem OR{a b:Bool}:Pg (.ok a) (.ok b)=.ok (a||b):=by cases a<;>rfl
theorem xI{k:Nat}{ts:List Tr}(hl:ts.length<=1000)(h:∀t∈ts,o4 k t):o4 (k+1) (.tup ts):=by
 unfold o4;have e1:yX (.int (ts.length:Int)) (.int (ts.length:Int))=.ok (.bl (!((ts.length:Int)==(ts.length:Int)))):=rfl;show fF (wq (MK (.ok true) (wq (MK (Pg (.ok false) (jA (yX (.int (ts.length:Int)) (.int (ts.length:Int))))) (j9 (Rs.ok (.bl false))) (.ok (.nx [.sh (.tup ts),.sh (.tup ts)]))) fun ρ=>j9 (aC kg (ag (gL [none,none] (gT [0,1]) (fun _=>.ok true) (gZ k) (Rx (ag (ar ρ 0) (ag (ar ρ 1) (.ok [])))) ρ) (.ok [])))) (.ok (.nx [.sh (.tup ts),.sh (.tup ts)]))) _)=_;rw[e1,bD,Kr,OR];show fF (wq (j9 (aC kg (ag (gL [none,none] (gT [0,1]) (fun _=>.ok true) (gZ k) (if ts.length<=ts.length then .ok (Bj ts ts)else .bad) [.sh (.tup ts),.sh (.tup ts)]) (.ok [])))) _)=_;rw[ab (aA _)];have e2:gL [none,none] (gT [0,1]) (fun _=>.ok true) (gZ k) (.ok (Bj ts ts)) [.sh (.tup ts),.sh (.tup ts)]=.ok (.lst (ts.map fun _=>.bl true)):=by
  show(if(Bj ts ts).length<=iT then(lE (gT [0,1]) (fun _=>.ok true) (gZ k) (Bj ts ts) [.no,.no]).bind fun ys=>Rs.ok (Tr.lst ys)else Rs.bad)=_;rw[ab (by
   have:(Bj ts ts).length<=ts.length:=by unfold Bj;rw[qw];omega
   exact bp this (bp hl (by decide))),Ap ts .no .no h]
  rfl
 rw[e2];have e3:kg [.lst (ts.map fun _=>.bl true)]=.ok (.bl true):=by
  show(uX (ts.map fun _=>Tr.bl true)).bind (fun bs=>Rs.ok (Tr.bl (bs.all id)))=_;rw[xH];show Rs.ok (Tr.bl ((ts.map fun _=>true).all id))=_;rw[all_true]
 show fF (wq (j9 (kg [.lst (ts.map fun _=>.bl true)])) _)=_;rw[e3]
 rfl
theorem BU(k:Nat)(m:Mk):o4 (k+2) (tM m):=xI (by show 2<=1000;decide) fun t ht=>by
 rcases aR.mp ht with rfl|ht
 ·exact same_int k _
 ·rw[cv]at ht;subst ht;exact same_int k _
theorem sC(k:Nat){ms:List Mk}(h:ms.length<=1000):o4 (k+3) (.tup (ms.map tM)):=xI (by rw[aj];exact h) fun t ht=>by
 obtain⟨m,_,rfl⟩:=bg.mp ht;exact BU k m
def tP(H:Mk->Nat)(m:Mk):Tr:=.tup [.int (H m),tM m]
theorem vA(m:Mk):eE (tP H m)=[(H m:Int),m.1,m.2]:=rfl
theorem Ed{a b:Mk}(e:eE (tP H a)=eE (tP H b)):a=b:=by
 rw[vA,vA]at e;injection e with _ e
 injection e with e1 e
 injection e with e2 _
 exact Prod.ext e1 e2
def yO(H:Mk->Nat)(a b:Mk):Bool:=ox (eE (tP H a)) (eE (tP H b))
def cG(H:Mk->Nat)(ks:List Mk):List Mk:=ks.mergeSort (yO H)
theorem BV{l l':List Mk}(h:l.Perm l'):cG H l=cG H l':=by
 unfold cG;refine jD (le:=fun a b=>yO H a b=true) (fun a b _ _ h1 h2=>Ed (i9 h1 h2)) ?_ ?_ (((dv l _).trans h).trans (dv l' _).symm)
 ·exact jd (le:=yO H) (fun a b c h1 h2=>fM h1 h2) (fun a b=>fN _ _) _
 ·exact jd (le:=yO H) (fun a b c h1 h2=>fM h1 h2) (fun a b=>fN _ _) _
theorem Gx(ms:List Mk):cO (ms.map (tP H))=(cG H ms).map (tP H):=by
 unfold cO cG;exact(List.map_mergeSort (r:=yO H) (s:=fun a b=>ox (eE a) (eE b)) (f:=tP H) fun a _ b _=>rfl).symm
theorem Ks{ms:List Mk}(nd:ms.Nodup)(hl:ms.length<=20):oa (ms.map (tP H))=true/\((ms.map (tP H)).all fun t=>(eE t).length==3)=true:=by
 have a3:((ms.map (tP H)).all fun t=>(eE t).length==3)=true:=by
  rw[bw];intro t ht;obtain⟨m,_,rfl⟩:=bg.mp ht
  rfl
 refine⟨?_,a3⟩;unfold oa;have a1:((ms.map (tP H)).all fun t=>(B_ t).isSome)=true:=by
  rw[bw];intro t ht;obtain⟨m,_,rfl⟩:=bg.mp ht
  rfl
 have a2:((ms.map (tP H)).map eE).Nodup:=by
  rw[bj];unfold List.Nodup at nd⊢;rw[iC];exact nd.imp fun{a b} h e=>h (Ed e)
 rw[a1,a3,bt a2,bt (by rw[aj];omega),Bool.or_true]
 rfl
def TB:Ab:=[Ao.tb "order" "order.<locals>.<lambda>"]
theorem nH(ms:List Mk):(cG H ms).length=ms.length:=(dv ms _).length_eq
theorem vB(K0:pJ ks bh H){A:Ab}(hA:A[0]?=some (Ao.tb "order" "order.<locals>.<lambda>")):ny [h9 ks bh] A=.ok (.tup ((cG H ks).map tM)) A:=by
 obtain⟨hs,e,p⟩:=BS K0;have e1:kC "order" "order.<locals>.<lambda>" (.ok (.aE (fD hs (tH H)))) A=.ok (.lst ((cG H ks).map tM)) A:=by
  have hi:hX (fD hs (tH H))=hs.map (tP H):=by
   unfold hX fD;rw[bj]
   rfl
  obtain⟨o1,o2⟩:=Ks (H:=H) (p.nodup_iff.mpr K0.nd) (by rw[p.length_eq];exact K0.len);unfold kC;rw[hA];show ai (if oa (hX (fD hs (tH H)))=true/\((hX (fD hs (tH H))).all fun t=>(eE t).length==3)=true then Rs.ok (Tr.lst ((cO (hX (fD hs (tH H)))).map DZ))else .bad) A=_;rw[hi,ab ⟨o1,o2⟩,Gx,BV p,bj]
  rfl
 show fk (vw.1 [.sh (h9 ks bh),.no] A)=_;show fk (bH (cE 1 (ai (gE [h9 ks bh]) A) [.sh (h9 ks bh),.no]) fun ρ A=>hW (wO dE (cb (kC "order" "order.<locals>.<lambda>" (ar ρ 1) A) fun A=>Rz.ok [] A)))=_;rw[e];show fk (hW (wO dE (cb (kC "order" "order.<locals>.<lambda>" (.ok (.aE (fD hs (tH H)))) A) fun A=>Rz.ok [] A)))=_;rw[e1];show fk (hW (if rQ (.tup ((cG H ks).map tM))=true then Rz.ok (.tup ((cG H ks).map tM)) A else .bad))=_;have:rQ (.tup ((cG H ks).map tM))=true:=by rw[rQ];exact gG _
 rw[ab this]
 rfl
end
end kD
namespace kD
open PySem L2
def mix(c p m:Int):Int:=(c*48271 % p)*(c*48271 % p+7) % p % m
theorem vC{c p m:Int}(hm:0<m):0<=mix c p m/\mix c p m<m:=⟨qS _ (by omega),qC _ hm⟩
theorem yP{i j:Int}(h:rE i j):kc (.int i) (.int j)=.ok (.int (i*j)):=ab h
theorem o5(c p m:Int)(hp:0<p)(IG:p<=1048576)(hm:0<m):bx [.int c,.int p,.int m]=.ok (.int (mix c p m)):=by
 have b0:0<=c*48271 % p:=qS _ (by omega);have b1:c*48271 % p<p:=qC _ hp;show fF (wq (Ja 3 (cx sT (kc (.int c) (.int 48271)) (.ok (.int p))) [.sh (.int c),.sh (.int p),.sh (.int m),.no]) fun ρ=>j9 (cx sT (cx sT (cx kc (ar ρ 3) (cx hJ (ar ρ 3) (Rs.ok (.int 7)))) (ar ρ 1)) (ar ρ 2)))=_;have q1:kc (.int c) (.int 48271)=.ok (.int (c*48271)):=ab (.inr ⟨by decide,by decide⟩);rw[q1];have q2:cx sT (.ok (.int (c*48271))) (.ok (.int p))=.ok (.int (c*48271 % p)):=ab hp;rw[q2];show fF (j9 (cx sT (cx sT (kc (.int (c*48271 % p)) (.int (c*48271 % p+7))) (.ok (.int p))) (.ok (.int m))))=_;have q3:kc (.int (c*48271 % p)) (.int (c*48271 % p+7))=.ok (.int ((c*48271 % p)*(c*48271 % p+7))):=ab (.inl ⟨by omega,by omega⟩);rw[q3];have q4:cx sT (.ok (.int ((c*48271 % p)*(c*48271 % p+7)))) (.ok (.int p))=.ok (.int ((c*48271 % p)*(c*48271 % p+7) % p)):=ab hp;rw[q4];have q5:cx sT (.ok (.int ((c*48271 % p)*(c*48271 % p+7) % p))) (.ok (.int m))=.ok (.int (mix c p m)):=ab hm;rw[q5]
 rfl
theorem yQ(ns:List Int)(k:Int)(h:0<=k):∃c,fw [.f7 ns,.int k]=.ok (.int c):=by
 show∃c,fF (wq (MK (.ok (decide (k<(ns.length:Int)))) (j9 ((AZ (L2.sJ ns k)).bind fun n=>.ok (.int n))) (.ok (.nx [.sh (.f7 ns),.sh (.int k)]))) fun ρ=>j9 (Rs.ok (.int 0)))=_;by_cases hk:k<(ns.length:Int)
 ·have hl:k.toNat<ns.length:=by omega
  have e:L2.sJ ns k=some (ns[k.toNat]):=by
   have q:=EV (xs:=ns) (j:=k.toNat) (aI hl);rw[Int.toNat_of_nonneg h]at q;exact q
  rw[bt hk,e];exact⟨_,rfl⟩
 ·rw[aX hk];exact⟨0,rfl⟩
def sd(c:Int)(k:Nat):Int:=c+37*(k:Int)
def sM(c:Int)(k:Nat):Mk:=(mix (sd c k) 9601 3,(k:Int))
def marks(c:Int)(k:Nat):List Mk:=(List.range k).map (sM c)
def pK(c:Int)(k:Nat):List Mk:=if mix (sd c k) 9551 5==0 then[(mix (sd c k) 9547 4,90+mix (sd c k) 9539 4)]else[]
def Ee(c:Int)(k:Nat):List Mk:=(marks c k).filter fun o=>mix (sd c k+11*o.2) 9587 3==0
def vO(c:Int)(k:Nat):List Mk:=Ee c k++pK c k
def lM(a b:Mk):Bool:=ox (eE (tM a)) (eE (tM b))
def nJ(c:Int)(m:Mk):List Mk:=(vO c m.2.toNat).mergeSort lM
def bC(c:Int)(m:Mk):Tr:=.tup [tM m,tB (nJ c) m]
theorem sD(c:Int)(k:Nat):marks c (k+1)=marks c k++[sM c k]:=by unfold marks;rw[qU,dP];rfl
theorem eG(c:Int)(k:Nat):(marks c k).length=k:=by unfold marks;rw[aj,gx]
theorem gM{c:Int}{k:Nat}{m:Mk}:m∈marks c k↔∃j,j<k/\m=sM c j:=by
 unfold marks;rw[bg];constructor
 ·rintro ⟨j,hj,rfl⟩;exact⟨j,cI.mp hj,rfl⟩
 ·rintro ⟨j,hj,rfl⟩;exact⟨j,cI.mpr hj,rfl⟩
theorem xJ(c:Int)(k:Nat):(marks c k).Nodup:=by
 unfold marks List.Nodup;rw[iC];refine(qO (n:=k)).imp fun{a b} h e=>h ?_
 have:(a:Int)=(b:Int):=bT Prod.snd e;omega
theorem Ef(c:Int)(k:Nat)(hk:k<20):(vO c k).Nodup:=by
 unfold vO;rw[jg];refine⟨cD (xJ c k),?_,fun a ha b hb e=>?_⟩
 ·unfold pK;split
  ·simp
  ·exact en
 ·subst e;obtain⟨j,hj,rfl⟩:=gM.mp (bF.mp ha).1;unfold pK at hb;split at hb
  ·rw[cv]at hb;have:(j:Int)=90+mix (sd c k) 9539 4:=bT Prod.snd hb;have:=(vC (c:=sd c k) (p:=9539) (m:=4) (by decide)).1;omega
  ·cases hb
theorem Aq(c:Int)(k:Nat):(vO c k).length<=k+1:=by
 unfold vO;rw[bc];have a:(Ee c k).length<=(marks c k).length:=ia _ _;rw[eG]at a;have b:(pK c k).length<=1:=by
  unfold pK;split
  ·exact aA 1
  ·exact bG 1
 omega
theorem yR{a b:Mk}(e:eE (tM a)=eE (tM b)):a=b:=by
 have e:[a.1,a.2]=[b.1,b.2]:=e;injection e with e1 e
 injection e with e2 _
 exact Prod.ext e1 e2
theorem vD(ms:List Mk):cO (ms.map tM)=(ms.mergeSort lM).map tM:=by
 unfold cO;exact(List.map_mergeSort (r:=lM) (s:=fun a b=>ox (eE a) (eE b)) (f:=tM) fun a _ b _=>rfl).symm
theorem Gy{ms:List Mk}(nd:ms.Nodup)(hl:ms.length<=18):dS (.lst (ms.map tM))=.ok (.lst ((ms.mergeSort lM).map tM)):=by
 have a3:((ms.map tM).all fun t=>(eE t).length==2)=true:=by
  rw[bw];intro t ht;obtain⟨m,_,rfl⟩:=bg.mp ht
  rfl
 have a1:((ms.map tM).all fun t=>(B_ t).isSome)=true:=by
  rw[bw];intro t ht;obtain⟨m,_,rfl⟩:=bg.mp ht
  rfl
 have a2:((ms.map tM).map eE).Nodup:=by
  rw[bj];unfold List.Nodup at nd⊢;rw[iC];exact nd.imp fun{a b} h e=>h (yR e)
 have ok:oa (ms.map tM)=true:=by
  unfold oa;rw[a1,a3,bt a2,bt (by rw[aj];omega),jQ]
  rfl
 show(if oa (ms.map tM)=true/\(ms.map tM).length<=18/\((ms.map tM).all fun t=>(eE t).length==2)=true then Rs.ok (Tr.lst (cO (ms.map tM)))else .bad)=_;rw[ab ⟨ok,by rw[aj];exact hl,a3⟩,vD]
def Lq(A:Ab)(ρ:av):Rs Tr:=gL [none,some 5] (gN 0) (fun ρ=>jA (cx nN (aC bx (ag (cx hJ (ar ρ 1) (cx kc (Rs.ok (Tr.int 11)) (cx G1 (ar ρ 0) (Rs.ok (Tr.int 1))))) (ag (Rs.ok (Tr.int 9587)) (ag (Rs.ok (Tr.int 3)) (Rs.ok []))))) (Rs.ok (Tr.int 0)))) (fun ρ=>ar ρ 0) (iU (ar (aT A ρ) 2)) (aT A ρ)
def S0:av->Ab->Rz Out:=fun ρ A=>uf (ai (jA (cx nN (aC bx (ag (ar ρ 5) (ag (Rs.ok (Tr.int 9551)) (ag (Rs.ok (Tr.int 5)) (Rs.ok []))))) (Rs.ok (Tr.int 0)))) A) (fun A=>fG (wN fL (ai (ar ρ 7) A) fun A=>cb (ai (fB (ag (aC bx (ag (ar ρ 5) (ag (Rs.ok (Tr.int 9547)) (ag (Rs.ok (Tr.int 4)) (Rs.ok []))))) (ag (cx hJ (Rs.ok (Tr.int 90)) (aC bx (ag (ar ρ 5) (ag (Rs.ok (Tr.int 9539)) (ag (Rs.ok (Tr.int 4)) (Rs.ok [])))))) (Rs.ok [])))) A) fun A=>Rz.ok [] A) ρ) fun A=>Rz.ok (Out.nx ρ) A
def S3:av->Ab->Rz Out:=fun ρ A=>fG (wN fL (ai (ar ρ 2) A) fun A=>cb (ai (ar ρ 6) A) fun A=>Rz.ok [] A) ρ
def S4:av->Ab->Rz Out:=fun ρ A=>fG (wN fL (ai (ar ρ 3) A) fun A=>cb (pz (fB (ag (ar (aT A ρ) 6) (ag (aC dE (ag ((ar (aT A ρ) 7).bind dS) (Rs.ok []))) (Rs.ok [])))) A) fun A=>Rz.ok [] A) ρ
def Lr:av->Ab->Rz Out:=fun ρ A=>bH (cE 5 (ai (cx hJ (ar ρ 0) (cx kc (Rs.ok (Tr.int 37)) (ar ρ 4))) A) ρ) fun ρ A=>bH (cE 6 (ai (fB (ag (aC bx (ag (ar ρ 5) (ag (Rs.ok (Tr.int 9601)) (ag (Rs.ok (Tr.int 3)) (Rs.ok []))))) (ag (ar ρ 4) (Rs.ok [])))) A) ρ) fun ρ A=>bH (cE 7 (dW (Lq A ρ) A) ρ) fun ρ A=>bH (S0 ρ A) fun ρ A=>bH (S3 ρ A) fun ρ A=>S4 ρ A
def UC:av->Ab->Rz Out:=fun ρ A=>bH (cE 2 (dW (yf (Rs.ok [])) A) ρ) fun ρ A=>bH (cE 3 (dW (yf (Rs.ok [])) A) ρ) fun ρ A=>bH (f' (gN 4) Lr (ai (rD (ag (aC bx (ag (ar ρ 0) (ag (Rs.ok (Tr.int 9613)) (ag (cx hJ (ar ρ 1) (Rs.ok (Tr.int 1))) (Rs.ok []))))) (Rs.ok []))) A) ρ) fun ρ A=>hW (ai (ar ρ 3) A)
theorem Kt:kE.1=UC:=rfl
theorem yS{A:Ab}{i:Nat}{ts:List Tr}{t:Tr}(e:A[i]?=some (.lst ts))(hl:ts.length<=1000):wN fL (.ok (.at i) A) (fun A=>.ok [t] A)=.ok .cq (A.set i (.lst (ts++[t]))):=by
 show(if Bn A i=true then fL i [t] A else .bad)=_;have e1:Bn A i=true:=by unfold Bn;rw[e]
 have e2:fL i [t] A=.ok .cq (A.set i (.lst (ts++[t]))):=by
  unfold fL;simp only[e];rw[ab (by unfold iT;omega)]
 rw[ab e1,e2]
theorem Ku(c:Int)(k:Nat)(hk:k<20){A:Ab}(h0:A[0]?=some (.lst ((marks c k).map tM))){a b d e f g:Cell}:Lq A [a,b,.sh (.at 0),d,e,.sh (.int (sd c k)),f,g]=.ok (.lst ((Ee c k).map tM)):=by
 unfold Lq;show gL [none,some 5] (gN 0) _ _ (iU (.ok (bo 5 A (.at 0)))) _=_;rw[sy h0];show gL [none,some 5] (gN 0) _ _ (.ok ((marks c k).map tM)) _=_;rw[kF (by rw[eG];omega)];show(lE (gN 0) _ _ ((marks c k).map tM) [.no,.sh (.int (sd c k))]).bind _=_;rw[OQ (P:=fun o=>mix (sd c k+11*o.2) 9587 3==0) (f:=tM) (marks c k) .no (fun o ho=>?_) (fun _ _ _=>rfl)]
 ·rfl
 ·show jA (cx nN (aC bx (ag (cx hJ (.ok (.int (sd c k))) (kc (Tr.int 11) (.int o.2))) (ag (Rs.ok (Tr.int 9587)) (ag (Rs.ok (Tr.int 3)) (Rs.ok []))))) (Rs.ok (Tr.int 0)))=_;rw[yP (.inl ⟨by decide,by decide⟩)];show jA (cx nN (bx [.int (sd c k+11*o.2),.int 9587,.int 3]) (Rs.ok (Tr.int 0)))=_;rw[o5 _ _ _ (by decide) (by decide) (by decide)];show jA (nN (.int (mix (sd c k+11*o.2) 9587 3)) (Tr.int 0))=_;rw[OL]
  rfl
def rL(c k:Int)(c5 c6 c7:Cell):av:=[.sh (.int c),.sh (.int 9),.sh (.at 0),.sh (.at 1),.sh (.int k),c5,c6,c7]
theorem nK{A:Ab}{i j:Nat}{o:Ao}(h:i≠j):(A.set i o)[j]?=A[j]? :=ck h
set_option maxHeartbeats 1000000 in
theorem Kv(c:Int)(k:Nat)(hk:k<15){A:Ab}(h0:A[0]?=some (.lst ((marks c k).map tM)))(h1:A[1]?=some (.lst ((marks c k).map (bC c)))){c5 c6 c7:Cell}:
  ∃A' d5 d6 d7,Lr (rL c k c5 c6 c7) A=.ok (.nx (rL c k d5 d6 d7)) A'/\A'[0]?=some (.lst ((marks c (k+1)).map tM))/\A'[1]?=some (.lst ((marks c (k+1)).map (bC c))):=by
 have l1:=cu h1;have s5:cx hJ (ar (rL c k c5 c6 c7) 0) (cx kc (Rs.ok (Tr.int 37)) (ar (rL c k c5 c6 c7) 4))=.ok (.int (sd c k)):=by
  show cx hJ (.ok (.int c)) (kc (Tr.int 37) (.int k))=_;rw[yP (.inl ⟨by decide,by decide⟩)]
  rfl
 let R5:av:=rL c k (.sh (.int (sd c k))) c6 c7
 let R6:av:=rL c k (.sh (.int (sd c k))) (.sh (tM (sM c k))) c7
 let R7:av:=rL c k (.sh (.int (sd c k))) (.sh (tM (sM c k))) (.sh (.at A.length))
 have s6:fB (ag (aC bx (ag (ar R5 5) (ag (Rs.ok (Tr.int 9601)) (ag (Rs.ok (Tr.int 3)) (Rs.ok []))))) (ag (ar R5 4) (Rs.ok [])))=.ok (tM (sM c k)):=by
  show fB (ag (bx [.int (sd c k),.int 9601,.int 3]) (ag (.ok (.int k)) (Rs.ok [])))=_;rw[o5 _ _ _ (by decide) (by decide) (by decide)]
  rfl
 let A1:Ab:=A++[.lst ((Ee c k).map tM)]
 have s7:dW (Lq A R6) A=.ok (.at A.length) A1:=by
  have:Lq A R6=.ok (.lst ((Ee c k).map tM)):=Ku c k (by omega) h0;rw[this];show(if gp ((Ee c k).map tM)=true then Rz.ok (Tr.at A.length) A1 else .bad)=_;rw[ab (gG _)]
 have a10:A1[0]?=some (.lst ((marks c k).map tM)):=by
  show(A++[_])[0]?=_
  rw[bZ (by omega)];exact h0
 have W9:A1[1]?=some (.lst ((marks c k).map (bC c))):=by
  show(A++[_])[1]?=_
  rw[bZ (by omega)];exact h1
 have UD:A1[A.length]?=some (.lst ((Ee c k).map tM)):=by
  show(A++[_])[A.length]?=_
  rw[dJ (aA _),eY];rfl
 have al:A1.length=A.length+1:=by show(A++[_]).length=_;rw[bc];rfl
 let A2:Ab:=A1.set A.length (.lst ((vO c k).map tM))
 have bl:=Aq c k;have XO:(Ee c k).length<=k:=by
  have:(Ee c k).length<=(marks c k).length:=ia _ _;rw[eG]at this;exact this
 have s8:S0 R7 A1=.ok (.nx R7) A2:=by
  show uf (ai (jA (cx nN (bx [.int (sd c k),.int 9551,.int 5]) (Rs.ok (Tr.int 0)))) A1) (fun A=>fG (wN fL (ai (Rs.ok (.at _)) A) fun A=>cb (ai (fB (ag (bx [.int (sd c k),.int 9547,.int 4]) (ag (cx hJ (Rs.ok (Tr.int 90)) (bx [.int (sd c k),.int 9539,.int 4])) (Rs.ok [])))) A) fun A=>Rz.ok [] A) R7) (fun A=>Rz.ok (Out.nx R7) A)=_;rw[o5 _ _ _ (by decide) (by decide) (by decide),o5 _ _ _ (by decide) (by decide) (by decide),o5 _ _ _ (by decide) (by decide) (by decide)];show uf (ai (jA (nN (.int (mix (sd c k) 9551 5)) (Tr.int 0))) A1) _ _=_;rw[OL];cases z:mix (sd c k) 9551 5==0 with
  |true=>
   show fG (wN fL (.ok (.at A.length) A1) fun A=>.ok [tM (mix (sd c k) 9547 4,90+mix (sd c k) 9539 4)] A) R7=_;rw[yS UD (by rw[aj];omega)];show Rz.ok (Out.nx R7) (A1.set A.length (.lst ((Ee c k).map tM++[tM (mix (sd c k) 9547 4,90+mix (sd c k) 9539 4)])))=.ok (.nx R7) (A1.set A.length (.lst ((vO c k).map tM)));unfold vO pK;rw[z,dP]
   rfl
  |false=>
   show Rz.ok (Out.nx R7) A1=.ok (.nx R7) (A1.set A.length (.lst ((vO c k).map tM)));have:vO c k=Ee c k:=by
    unfold vO pK;rw[z];exact cU _
   rw[this];congr 1;refine(qJ fun i=>?_);by_cases e:A.length=i
   ·subst e;rw[dM (by omega),UD]
   ·rw[ck e]
 have W_:A2[0]?=some (.lst ((marks c k).map tM)):=by
  show(A1.set A.length _)[0]?=_
  rw[nK (by omega)];exact a10
 have Xa:A2[1]?=some (.lst ((marks c k).map (bC c))):=by
  show(A1.set A.length _)[1]?=_
  rw[nK (by omega)];exact W9
 have Xb:A2[A.length]?=some (.lst ((vO c k).map tM)):=dM (by omega)
 let A3:Ab:=A2.set 0 (.lst ((marks c (k+1)).map tM))
 have s9:S3 R7 A2=.ok (.nx R7) A3:=by
  show fG (wN fL (.ok (.at 0) A2) fun A=>.ok [tM (sM c k)] A) R7=_;rw[yS W_ (by rw[aj,eG];omega)];show Rz.ok (Out.nx R7) (A2.set 0 (.lst ((marks c k).map tM++[tM (sM c k)])))=.ok (.nx R7) (A2.set 0 (.lst ((marks c (k+1)).map tM)));rw[sD,dP]
  rfl
 have XQ:A2.length=A.length+1:=by show(A1.set _ _).length=_;rw[gQ];exact al
 have Xc:A3[1]?=some (.lst ((marks c k).map (bC c))):=by
  show(A2.set 0 _)[1]?=_
  rw[nK (by omega)];exact Xa
 have Xd:A3[A.length]?=some (.lst ((vO c k).map tM)):=by
  show(A2.set 0 _)[A.length]?=_
  rw[nK (by omega)];exact Xb
 have Rg:S4 R7 A3=.ok (.nx R7) (A3.set 1 (.lst ((marks c (k+1)).map (bC c)))):=by
  have e:(cb (pz (fB (ag (ar (aT A3 R7) 6) (ag (aC dE (ag ((ar (aT A3 R7) 7).bind dS) (Rs.ok []))) (Rs.ok [])))) A3) fun A=>Rz.ok [] A)=.ok [bC c (sM c k)] A3:=by
   show(cb (pz (fB (ag (.ok (tM (sM c k))) (ag (aC dE (ag (dS (bo 5 A3 (.at A.length))) (Rs.ok []))) (Rs.ok [])))) A3) fun A=>Rz.ok [] A)=_;rw[sy Xd,Gy (Ef c k (by omega)) (by omega)];show(cb (if rQ (.tup [tM (sM c k),.tup (((vO c k).mergeSort lM).map tM)])=true then Rz.ok (.tup [tM (sM c k),.tup (((vO c k).mergeSort lM).map tM)]) A3 else .bad) fun A=>Rz.ok [] A)=_;have tf:rQ (.tup [tM (sM c k),.tup (((vO c k).mergeSort lM).map tM)])=true:=by
    show(true&&(gp (((vO c k).mergeSort lM).map tM)&&true))=true;rw[gG];rfl
   rw[ab tf]
   rfl
  have e2:(wN fL (ai (ar R7 3) A3) fun A=>cb (pz (fB (ag (ar (aT A R7) 6) (ag (aC dE (ag ((ar (aT A R7) 7).bind dS) (Rs.ok []))) (Rs.ok [])))) A) fun A=>Rz.ok [] A)=wN fL (.ok (.at 1) A3) fun A=>.ok [bC c (sM c k)] A:=by
   show(if Bn A3 1=true then(cb (pz (fB (ag (ar (aT A3 R7) 6) (ag (aC dE (ag ((ar (aT A3 R7) 7).bind dS) (Rs.ok []))) (Rs.ok [])))) A3) fun A=>Rz.ok [] A).bind _ else .bad)=_;rw[e]
   rfl
  unfold S4;rw[e2,yS Xc (by rw[aj,eG];omega)];show Rz.ok (Out.nx R7) (A3.set 1 (.lst ((marks c k).map (bC c)++[bC c (sM c k)])))=_;rw[sD,dP]
  rfl
 refine⟨A3.set 1 (.lst ((marks c (k+1)).map (bC c))),.sh (.int (sd c k)),.sh (tM (sM c k)),.sh (.at A.length),?_,?_,?_⟩
 ·unfold Lr;rw[s5];show bH (cE 6 (ai (fB (ag (aC bx (ag (ar R5 5) (ag (Rs.ok (Tr.int 9601)) (ag (Rs.ok (Tr.int 3)) (Rs.ok []))))) (ag (ar R5 4) (Rs.ok [])))) A) R5) _=_;rw[s6];show bH (cE 7 (dW (Lq A R6) A) R6) _=_;rw[s7];rw[dU];show bH (S0 R7 A1) _=_;rw[s8];show bH (S3 R7 A2) _=_;rw[s9];exact Rg
 ·rw[nK (by omega)];exact dM (by omega)
 ·exact dM (by show _<(A2.set 0 _).length;rw[gQ];omega)
end kD
namespace kD
open PySem L2
def ED(l:List Nat):Nat:=l.foldr max 0
theorem HN:∀{l:List Nat} {n:Nat},n∈l->n<=ED l
 |a::l,n,h=>by
  show n<=max a (ED l);rcases aR.mp h with rfl|h
  ·omega
  ·have:=HN h;omega
theorem Eg:∀(l:List Nat),l=[]\/ED l∈l
 |[]=>.inl rfl
 |a::l=>by
  refine .inr ?_
  show max a (ED l)∈a::l;rcases Eg l with rfl|h
  ·have:max a (ED [])=a:=qR (bG _);rw[this];exact aW ..
  ·by_cases q:ED l<=a
   ·rw[qR q];exact aW ..
   ·rw[Nat.max_eq_right (by omega)];exact aV _ h
def hh(ks:List Mk)(bh:Mk->List Mk)(rk:Mk->Nat):Nat->Mk->Nat
 |0,_=>0
 |j+1,m=>if rk m<j then hh ks bh rk j m else 1+ED (((bh m).filter fun b=>decide (b∈ks)).map (hh ks bh rk j))
theorem Eh{ks:List Mk}{bh:Mk->List Mk}{rk:Mk->Nat}{m:Mk}:∀(j i:Nat),rk m<j->hh ks bh rk (j+i) m=hh ks bh rk j m
 |j,0,_=>rfl
 |j,i+1,h=>by
  show(if rk m<j+i then hh ks bh rk (j+i) m else _)=_;rw[ab (by omega)];exact Eh j i h
theorem hx{ks:List Mk}{bh:Mk->List Mk}{rk:Mk->Nat}(hr:∀m∈ks,∀b∈bh m,b∈ks->rk b<rk m){N:Nat}(hN:∀m∈ks,rk m<N):
  ∃H:Mk->Nat,(∀m∈ks,1<=H m)/\(∀m∈ks,∀b∈bh m,b∈ks->H b<H m)/\(∀m∈ks,H m=1\/∃b∈bh m,b∈ks/\H m=H b+1)/\∀m∈ks,H m<=rk m+1:=by
 have eq:∀m∈ks,hh ks bh rk N m=1+ED (((bh m).filter fun b=>decide (b∈ks)).map (hh ks bh rk N)):=fun m hm=>by
  have h1:=hN m hm;have:hh ks bh rk N m=hh ks bh rk (rk m+1) m:=by
   have e:=Eh (ks:=ks) (bh:=bh) (rk:=rk) (m:=m) (rk m+1) (N - (rk m+1)) (by omega);rw[<-e];congr 1;omega
  rw[this];show(if rk m<rk m then _ else 1+ED (((bh m).filter fun b=>decide (b∈ks)).map (hh ks bh rk (rk m))))=_;rw[ae (by omega)];congr 2;refine eO fun b hb=>?_
  have hb:=bF.mp hb;have:=hr m hm b hb.1 (bN hb.2);have e:=Eh (ks:=ks) (bh:=bh) (rk:=rk) (m:=b) (rk m) (N - rk m) this;rw[<-e];congr 1;omega
 refine⟨hh ks bh rk N,fun m hm=>by rw[eq m hm];omega,fun m hm b hb hk=>?_,fun m hm=>?_,?_⟩
 ·rw[eq m hm];have:hh ks bh rk N b<=ED (((bh m).filter fun b=>decide (b∈ks)).map (hh ks bh rk N)):=HN (bg.mpr ⟨b,bF.mpr ⟨hb,bt hk⟩,rfl⟩);omega
 ·rcases Eg (((bh m).filter fun b=>decide (b∈ks)).map (hh ks bh rk N))with e|e
  ·left;rw[eq m hm,e];rfl
  ·right;obtain⟨b,hb,q⟩:=bg.mp e;have hb:=bF.mp hb;exact⟨b,hb.1,bN hb.2,by rw[eq m hm];omega⟩
 ·have key:∀(n:Nat) (m:Mk),m∈ks->rk m=n->hh ks bh rk N m<=n+1:=fun n=>by
   induction n using Nat.strongRecOn with
   |ind n ih=>
    intro m hm e;rw[eq m hm];rcases Eg (((bh m).filter fun b=>decide (b∈ks)).map (hh ks bh rk N))with q|q
    ·rw[q];show 1+0<=_;omega
    ·obtain⟨b,hb,q⟩:=bg.mp q;have hb:=bF.mp hb;have h1:=hr m hm b hb.1 (bN hb.2);have:=ih (rk b) (by omega) b (bN hb.2) rfl;omega
  exact fun m hm=>key (rk m) m hm rfl
theorem Ar(c:Int):∀(j k:Nat) (A:Ab) (c4 c5 c6 c7:Cell),k+j<=10->A[0]?=some (.lst ((marks c k).map tM))->A[1]?=some (.lst ((marks c k).map (bC c)))->
  ∃A' d4 d5 d6 d7,fK (gN 4) Lr ((List.range' k j).map fun(i:Nat)=>Tr.int (i:Int)) [.sh (.int c),.sh (.int 9),.sh (.at 0),.sh (.at 1),c4,c5,c6,c7] A=.ok (.nx [.sh (.int c),.sh (.int 9),.sh (.at 0),.sh (.at 1),d4,d5,d6,d7]) A'/\A'[1]?=some (.lst ((marks c (k+j)).map (bC c)))
 |0,k,A,c4,c5,c6,c7,_,_,h1=>⟨A,c4,c5,c6,c7,rfl,h1⟩
 |j+1,k,A,c4,c5,c6,c7,hk,h0,h1=>by
  obtain⟨A1,d5,d6,d7,e,q0,q1⟩:=Kv c k (by omega) h0 h1 (c5:=c5) (c6:=c6) (c7:=c7);obtain⟨A2,r4,r5,r6,r7,e2,q2⟩:=Ar c j (k+1) A1 (.sh (.int k)) d5 d6 d7 (by omega) q0 q1;refine⟨A2,r4,r5,r6,r7,?_,by rw[show k+(j+1)=k+1+j by omega];exact q2⟩;rw[List.range'_succ,ay,pI (ρ1:=rL c k c5 c6 c7) rfl e];exact e2
theorem Kw(n:Nat):wt 0 n=(List.range' 0 n).map fun(i:Nat)=>Tr.int (i:Int):=by
 unfold wt;rw[List.range_eq_range'];refine eO fun k _=>?_
 rw[Int.zero_add]
theorem sE(c:Int):∀ms:List Mk,cM (ms.map (bC c))=true:=fun ms=>pZ (nJ c) ms
theorem sF(c:Int):∀ms:List Mk,gp (ms.map (bC c))=true
 |[]=>rfl
 |m::ms=>by
  rw[ay,gp,sF c ms];show((true&&(gp ((nJ c m).map tM)&&true))&&true)=true;rw[gG];rfl
theorem nM(c:Int){A:Ab}{i:Nat}{ms:List Mk}(e:A[i]?=some (.lst (ms.map (bC c))))(k:Nat):bo (k+1) A (.at i)=.lst (ms.map (bC c)):=by
 rw[bo];simp only[e];rw[bj];congr 1;refine eO fun m _=>?_
 cases k<;>rfl
theorem xK(ts:List Tr):gA (.lst ts)=cM ts:=by rw[gA]
theorem sG(ts:List Tr):gA (.tup ts)=cM ts:=by rw[gA]
theorem vE{n m:Nat}{G:av->Ab->Rz Out}{ts:List Tr}(h1:ts.length=n)(h2:cM ts=true):rR n m G ts=dF (G (startT m ts) []):=ab ⟨h1,h2⟩
theorem BW(c:Int):∃n,n<=9/\gj [.int c,.int 9]=.ok (.lst ((marks c n).map (bC c))):=by
 obtain⟨m0,m1⟩:=vC (c:=c) (p:=9613) (m:=10) (by decide);refine⟨(mix c 9613 10).toNat,by omega,?_⟩;have key:gj [.int c,.int 9]=dF (UC [.sh (.int c),.sh (.int 9),.no,.no,.no,.no,.no,.no] []):=by
  rw[<-Kt];exact vE rfl rfl
 have er:rD (ag (aC bx (ag (.ok (.int c)) (ag (Rs.ok (Tr.int 9613)) (ag (cx hJ (.ok (.int 9)) (Rs.ok (Tr.int 1))) (Rs.ok []))))) (Rs.ok []))=.ok ((List.range' 0 (mix c 9613 10).toNat).map fun(i:Nat)=>Tr.int (i:Int)):=by
  show rD (ag (bx [.int c,.int 9613,.int 10]) (Rs.ok []))=_;rw[o5 _ _ _ (by decide) (by decide) (by decide)];show(if-4611686018427387904<=mix c 9613 10/\mix c 9613 10<4611686018427387904 then Rs.ok (wt 0 (mix c 9613 10).toNat)else .bad)=_;rw[ab ⟨by omega,by omega⟩,Kw]
 obtain⟨A',d4,d5,d6,d7,el,q⟩:=Ar c (mix c 9613 10).toNat 0 [.lst [],.lst []] .no .no .no .no (by omega) rfl rfl;rw[jR]at q;rw[key];show dF (bH (f' (gN 4) Lr (ai (rD (ag (aC bx (ag (.ok (.int c)) (ag (Rs.ok (Tr.int 9613)) (ag (cx hJ (.ok (.int 9)) (Rs.ok (Tr.int 1))) (Rs.ok []))))) (Rs.ok []))) [.lst [],.lst []]) [.sh (.int c),.sh (.int 9),.sh (.at 0),.sh (.at 1),.no,.no,.no,.no]) fun ρ A=>hW (ai (ar ρ 3) A))=_;rw[er];show dF (bH (fK (gN 4) Lr _ _ _) _)=_;rw[el];show(if gA (bo 3 A' (.at 1))=true then Rs.ok (bo 3 A' (.at 1))else Rs.bad)=_;rw[nM c q,ab (by rw[xK];exact sE c _)]
theorem uE{α β:Type}(f:α->β):∀(l:List α) (i:Nat),(l.map f).eraseIdx i=(l.eraseIdx i).map f
 |[],_=>rfl
 |a::l,0=>rfl
 |a::l,i+1=>by
  show f a::(l.map f).eraseIdx i=f a::(l.eraseIdx i).map f;rw[uE f l i]
theorem sH{α:Type}:∀(l:List α) (i:Nat) (h:i<l.length),(l[i]::l.eraseIdx i).Perm l
 |a::l,0,_=>List.Perm.refl _
 |a::l,i+1,h=>by
  have hi:i<l.length:=by rw[a_]at h;omega
  have ih:=sH l i hi;show(l[i]::a::l.eraseIdx i).Perm (a::l);exact(List.Perm.swap a _ _).trans (List.Perm.cons a ih)
def Qa:av->Ab->Rz Bool:=fun ρ A=>ai ((ar (aT A ρ) 2).bind gz) A
def OS:av->Ab->Rz Out:=fun ρ A=>fG (wN fL (ai (ar ρ 3) A) fun A=>cb (wN Bo (ai (ar ρ 2) A) fun A=>cb (pz (aC bx (ag (cx hJ (ar (aT A ρ) 1) (cx kc (Rs.ok (Tr.int 7)) (aC iY (ag (ar (aT A ρ) 2) (Rs.ok []))))) (ag (Rs.ok (Tr.int 9533)) (ag (aC iY (ag (ar (aT A ρ) 2) (Rs.ok []))) (Rs.ok []))))) A) fun A=>Rz.ok [] A) fun A=>Rz.ok [] A) ρ
def S5:av->Ab->Rz Out:=fun ρ A=>bH (cE 2 (dW (aC zw (ag (ar (aT A ρ) 0) (Rs.ok []))) A) ρ) fun ρ A=>bH (cE 3 (dW (yf (Rs.ok [])) A) ρ) fun ρ A=>bH (fj Qa OS 100 ρ A) fun ρ A=>hW (pz (aC dE (ag (ar (aT A ρ) 3) (Rs.ok []))) A)
theorem Kx:oJ.1=S5:=rfl
theorem Ky(c d:Int){T:Tr}{ls fs:List Mk}(h0:0<ls.length)(h1:ls.length<=20)(h2:fs.length<=100):
  ∃OT AH:List Mk,OS [.sh T,.sh (.int d),.sh (.at 0),.sh (.at 1)] [.lst (ls.map (bC c)),.lst (fs.map (bC c))]=.ok (.nx [.sh T,.sh (.int d),.sh (.at 0),.sh (.at 1)]) [.lst (OT.map (bC c)),.lst (AH.map (bC c))]/\OT.length+1=ls.length/\AH.length=fs.length+1/\(AH++OT).Perm (fs++ls):=by
 have th:bo 5 [.lst (ls.map (bC c)),.lst (fs.map (bC c))] (.at 0)=.lst (ls.map (bC c)):=nM c rfl 4;obtain⟨m0,m1⟩:=vC (c:=d+7*(ls.length:Int)) (p:=9533) (m:=(ls.length:Int)) (by omega);have hj:(mix (d+7*(ls.length:Int)) 9533 (ls.length:Int)).toNat<ls.length:=by omega
 refine⟨ls.eraseIdx (mix (d+7*(ls.length:Int)) 9533 (ls.length:Int)).toNat,fs++[ls[(mix (d+7*(ls.length:Int)) 9533 (ls.length:Int)).toNat]],?_,?_,by rw[bc];rfl,?_⟩
 ·have em:pz (aC bx (ag (cx hJ (.ok (.int d)) (cx kc (Rs.ok (Tr.int 7)) (aC iY (ag (.ok (bo 5 [.lst (ls.map (bC c)),.lst (fs.map (bC c))] (.at 0))) (Rs.ok []))))) (ag (Rs.ok (Tr.int 9533)) (ag (aC iY (ag (.ok (bo 5 [.lst (ls.map (bC c)),.lst (fs.map (bC c))] (.at 0))) (Rs.ok []))) (Rs.ok []))))) [.lst (ls.map (bC c)),.lst (fs.map (bC c))]=.ok (.int (mix (d+7*(ls.length:Int)) 9533 (ls.length:Int))) [.lst (ls.map (bC c)),.lst (fs.map (bC c))]:=by
   rw[th];show pz (aC bx (ag (cx hJ (.ok (.int d)) (kc (Tr.int 7) (.int ((ls.map (bC c)).length:Int)))) (ag (Rs.ok (Tr.int 9533)) (ag (.ok (.int ((ls.map (bC c)).length:Int))) (Rs.ok []))))) _=_;rw[aj,yP (.inl ⟨by decide,by decide⟩)];show pz (bx [.int (d+7*(ls.length:Int)),.int 9533,.int (ls.length:Int)]) _=_;rw[o5 _ _ _ (by decide) (by decide) (by omega)]
   rfl
  have ep:Bo 0 [.int (mix (d+7*(ls.length:Int)) 9533 (ls.length:Int))] [.lst (ls.map (bC c)),.lst (fs.map (bC c))]=.ok (bC c ls[(mix (d+7*(ls.length:Int)) 9533 (ls.length:Int)).toNat]) [.lst ((ls.eraseIdx (mix (d+7*(ls.length:Int)) 9533 (ls.length:Int)).toNat).map (bC c)),.lst (fs.map (bC c))]:=by
   show(if-9223372036854775808<=mix (d+7*(ls.length:Int)) 9533 (ls.length:Int)/\mix (d+7*(ls.length:Int)) 9533 (ls.length:Int)<9223372036854775808 then
    (match seqIndex? (mix (d+7*(ls.length:Int)) 9533 (ls.length:Int)) (ls.map (bC c)).length with
    |some j=>(match(ls.map (bC c))[j]? with
     |some t=>Rz.ok t [Ao.lst ((ls.map (bC c)).eraseIdx j),.lst (fs.map (bC c))]
     |none=>Rz.bad)
    |none=>Rz.bad)else Rz.bad)=_
   rw[ab ⟨by omega,by omega⟩,aj,PySem.StrLaws.seqIndex_nonneg m0 m1];show(match(ls.map (bC c))[(mix (d+7*(ls.length:Int)) 9533 (ls.length:Int)).toNat]? with
     |some t=>Rz.ok t [Ao.lst ((ls.map (bC c)).eraseIdx (mix (d+7*(ls.length:Int)) 9533 (ls.length:Int)).toNat),.lst (fs.map (bC c))]
     |none=>Rz.bad)=_
   rw[aJ,aI hj,uE]
   rfl
  show fG ((cb ((cb (pz (aC bx (ag (cx hJ (.ok (.int d)) (cx kc (Rs.ok (Tr.int 7)) (aC iY (ag (.ok (bo 5 [.lst (ls.map (bC c)),.lst (fs.map (bC c))] (.at 0))) (Rs.ok []))))) (ag (Rs.ok (Tr.int 9533)) (ag (aC iY (ag (.ok (bo 5 [.lst (ls.map (bC c)),.lst (fs.map (bC c))] (.at 0))) (Rs.ok []))) (Rs.ok []))))) [.lst (ls.map (bC c)),.lst (fs.map (bC c))]) fun A=>Rz.ok [] A).bind fun ts A=>Bo 0 ts A) fun A=>Rz.ok [] A).bind fun ts A=>fL 1 ts A) _=_;rw[em];show fG ((cb (Bo 0 [.int (mix (d+7*(ls.length:Int)) 9533 (ls.length:Int))] [.lst (ls.map (bC c)),.lst (fs.map (bC c))]) fun A=>Rz.ok [] A).bind fun ts A=>fL 1 ts A) _=_;rw[ep];show fG (if(fs.map (bC c)).length<iT then Rz.ok Tr.cq [_,Ao.lst (fs.map (bC c)++[bC c ls[(mix (d+7*(ls.length:Int)) 9533 (ls.length:Int)).toNat]])]else .bad) _=_;rw[ab (by rw[aj];unfold iT;omega),dP]
  rfl
 ·rw[p9 hj];omega
 ·rw[ib];refine List.Perm.append_left fs ?_
  exact sH _ _ hj
theorem As(c d:Int){T:Tr}:∀(n k:Nat) (ls fs:List Mk),ls.length=k->k<n->k<=20->fs.length+k<=100->
  ∃AH:List Mk,fj Qa OS n [.sh T,.sh (.int d),.sh (.at 0),.sh (.at 1)] [.lst (ls.map (bC c)),.lst (fs.map (bC c))]=.ok (.nx [.sh T,.sh (.int d),.sh (.at 0),.sh (.at 1)]) [.lst [],.lst (AH.map (bC c))]/\AH.Perm (fs++ls)
 |0,k,ls,fs,_,hk,_,_=>by omega
 |n+1,k,ls,fs,hl,hk,h1,h2=>by
  have ec:Qa [.sh T,.sh (.int d),.sh (.at 0),.sh (.at 1)] [.lst (ls.map (bC c)),.lst (fs.map (bC c))]=.ok (!(ls.map (bC c)).isEmpty) [.lst (ls.map (bC c)),.lst (fs.map (bC c))]:=by
   show ai ((Rs.ok (bo 5 [.lst (ls.map (bC c)),.lst (fs.map (bC c))] (.at 0))).bind gz) _=_;rw[nM c rfl]
   rfl
  rw[fj,ec]
  match ls,hl with
  |[],_=>exact⟨fs,rfl,by rw[cU]⟩
  |m::ls,hl=>
   obtain⟨OT,AH,e,l1,l2,p⟩:=Ky c d (T:=T) (ls:=m::ls) (fs:=fs) (by rw[a_];omega) (by omega) (by omega);obtain⟨Xe,e2,p2⟩:=As c d (T:=T) n (k - 1) OT AH (by omega) (by omega) (by omega) (by omega);refine⟨Xe,?_,p2.trans p⟩;show(OS [.sh T,.sh (.int d),.sh (.at 0),.sh (.at 1)] [.lst ((m::ls).map (bC c)),.lst (fs.map (bC c))]).bind _=_;rw[e];exact e2
theorem Gz(c d:Int){ms:List Mk}(hl:ms.length<=20):∃ks:List Mk,ja [.lst (ms.map (bC c)),.int d]=.ok (h9 ks (nJ c))/\ks.Perm ms:=by
 obtain⟨ks,e,p⟩:=As c d (T:=.lst (ms.map (bC c))) 100 ms.length ms [] rfl (by omega) hl (by rw[dz];omega);rw[mn]at p;refine⟨ks,?_,p⟩;have key:ja [.lst (ms.map (bC c)),.int d]=dF (S5 [.sh (.lst (ms.map (bC c))),.sh (.int d),.no,.no] []):=by
  rw[<-Kx];exact vE rfl (by
   show(gA (.lst (ms.map (bC c)))&&(true&&true))=true;rw[xK,sE];rfl)
 rw[key];unfold S5;have e1:dW (aC zw (ag (ar (aT [] [.sh (.lst (ms.map (bC c))),.sh (.int d),.no,.no]) 0) (Rs.ok []))) []=.ok (.at 0) [.lst (ms.map (bC c))]:=by
  show(if gp (ms.map (bC c))=true then Rz.ok (Tr.at 0) [Ao.lst (ms.map (bC c))]else .bad)=_;rw[ab (sF c ms)]
 rw[e1,dU];have e2:dW (yf (Rs.ok [])) [.lst (ms.map (bC c))]=.ok (.at 1) [.lst (ms.map (bC c)),.lst []]:=rfl;rw[e2,dU];show dF (bH (fj Qa OS 100 [.sh (.lst (ms.map (bC c))),.sh (.int d),.sh (.at 0),.sh (.at 1)] [.lst (ms.map (bC c)),.lst (([]:List Mk).map (bC c))]) _)=_;rw[e];have th:bo 5 [Ao.lst [],.lst (ks.map (bC c))] (.at 1)=.lst (ks.map (bC c)):=nM c rfl 4;show dF (hW (pz (aC dE (ag (.ok (bo 5 [Ao.lst [],.lst (ks.map (bC c))] (.at 1))) (Rs.ok []))) [Ao.lst [],.lst (ks.map (bC c))]))=_;rw[th];have tf:rQ (.tup (ks.map (bC c)))=true:=by rw[rQ];exact sF c ks
 show dF (hW (if rQ (.tup (ks.map (bC c)))=true then Rz.ok (.tup (ks.map (bC c))) _ else .bad))=_;rw[ab tf];show(if gA (.tup (ks.map (bC c)))=true then Rs.ok (Tr.tup (ks.map (bC c)))else Rs.bad)=_;rw[ab (by rw[sG];exact sE c _)]
 rfl
end kD
namespace kD
open PySem L2
theorem uF:∀l:List Mk,uT (l.map tM) (l.map tM)=true
 |[]=>rfl
 |m::l=>by
  rw[ay,uT,uF l];show(((m.1==m.1)&&((m.2==m.2)&&true))&&true)=true;simp
theorem vF:∀l:List Mk,nX (l.map tM)=true
 |[]=>rfl
 |m::l=>by rw[ay,nX,vF l];rfl
theorem yT:∀l:List Mk,Ft (l.map tM)<=1
 |[]=>by show 0<=1;decide
 |m::l=>by
  rw[ay,Ft];have:=yT l;have e:dT (tM m)=1:=rfl;omega
theorem Kz(l:List Mk):yX (.tup (l.map tM)) (.tup (l.map tM))=.ok (.bl false):=by
 have p:rG (.tup (l.map tM))=true:=by rw[rG];exact vF l
 have d:dT (.tup (l.map tM))<=40:=by rw[dT];have:=yT l;omega
 have e:eqT (.tup (l.map tM)) (.tup (l.map tM))=true:=by rw[eqT];exact uF l
 unfold yX;rw[ab ⟨p,p,d⟩,e]
 rfl
theorem Ei{ms:List Mk}(nd:ms.Nodup)(hl:ms.length<=20):oa (ms.map tM)=true:=by
 have a3:((ms.map tM).all fun t=>(eE t).length==2)=true:=by
  rw[bw];intro t ht;obtain⟨m,_,rfl⟩:=bg.mp ht
  rfl
 have a1:((ms.map tM).all fun t=>(B_ t).isSome)=true:=by
  rw[bw];intro t ht;obtain⟨m,_,rfl⟩:=bg.mp ht
  rfl
 have a2:((ms.map tM).map eE).Nodup:=by
  rw[bj];unfold List.Nodup at nd⊢;rw[iC];exact nd.imp fun{a b} h e=>h (yR e)
 unfold oa;rw[a1,a3,bt a2,bt (by rw[aj];omega),jQ]
 rfl
theorem GA{ms:List Mk}(nd:ms.Nodup)(hl:ms.length<=20):i_ [.tup (ms.map tM)]=.ok (.lst ((ms.mergeSort lM).map tM)):=by
 show(if oa (ms.map tM)=true then Rs.ok (Tr.lst (cO (ms.map tM)))else .bad)=_;rw[ab (Ei nd hl),vD]
theorem GB{ms:List Mk}(nd:ms.Nodup)(hl:ms.length<=20):i_ [.lst (ms.map tM)]=.ok (.lst ((ms.mergeSort lM).map tM)):=GA nd hl
theorem Ej{l l':List Mk}(h:l.Perm l'):l.mergeSort lM=l'.mergeSort lM:=by
 refine jD (le:=fun a b=>lM a b=true) (fun a b _ _ h1 h2=>yR (i9 h1 h2)) ?_ ?_ (((dv l _).trans h).trans (dv l' _).symm)
 ·exact jd (le:=lM) (fun a b c h1 h2=>fM h1 h2) (fun a b=>fN _ _) _
 ·exact jd (le:=lM) (fun a b c h1 h2=>fM h1 h2) (fun a b=>fN _ _) _
theorem Ek{H:Mk->Nat}(ks:List Mk):(cG H ks).Pairwise fun a b=>yO H a b=true:=jd (le:=yO H) (fun a b c h1 h2=>fM h1 h2) (fun a b=>fN _ _) _
end kD
namespace kD
open PySem L2
theorem S6{c:Int}{n:Nat}(hn:n<=9){ks:List Mk}(nd:ks.Nodup)(sub:∀m∈ks,m∈marks c n):∃H,pJ ks (nJ c) H/\∀m∈ks,H m<=10:=by
 have sp:∀m:Mk,(nJ c m).Perm (vO c m.2.toNat):=fun m=>dv _ _;have mk:∀m∈ks,∃j,j<n/\m=sM c j:=fun m hm=>gM.mp (sub m hm);have tn:∀j:Nat,(sM c j).2.toNat=j:=fun j=>d0 j;have kl:ks.length<=20:=by
  have:=lP nd sub;rw[eG]at this;omega
 obtain⟨H,h1,h2,h3,h4⟩:=hx (ks:=ks) (bh:=nJ c) (rk:=fun m=>m.2.toNat) (fun m hm b hb hk=>by
  obtain⟨j,hj,rfl⟩:=mk m hm;obtain⟨i,hi,rfl⟩:=mk b hk;show(sM c i).2.toNat<(sM c j).2.toNat;rw[tn,tn];have hb:=(sp _).mem_iff.mp hb;rw[tn]at hb;rcases d_.mp hb with hb|hb
  ·obtain⟨i',uZ,e⟩:=gM.mp (bF.mp hb).1;have:(i:Int)=(i':Int):=bT Prod.snd e;omega
  ·unfold pK at hb;split at hb
   ·rw[cv]at hb;have:(i:Int)=90+mix (sd c j) 9539 4:=bT Prod.snd hb;have:=(vC (c:=sd c j) (p:=9539) (m:=4) (by decide)).1;omega
   ·cases hb) (N:=9) (fun m hm=>by
  obtain⟨j,hj,rfl⟩:=mk m hm;show(sM c j).2.toNat<9;rw[tn];omega)
 have h5:∀m∈ks,H m<=10:=fun m hm=>by
  have:=h4 m hm;obtain⟨j,hj,rfl⟩:=mk m hm;rw[tn]at this;omega
 refine⟨H,⟨nd,kl,fun m hm=>?_,fun m hm=>?_,h1,h2,h3,fun m hm=>by have:=h5 m hm;omega⟩,h5⟩
 ·obtain⟨j,hj,rfl⟩:=mk m hm;rw[(sp _).nodup_iff,tn];exact Ef c j (by omega)
 ·obtain⟨j,hj,rfl⟩:=mk m hm;rw[(sp _).length_eq,tn];have:=Aq c j;omega
def allB(c:Int)(n:Nat):List Mk:=marks c n++(List.range n).flatMap (pK c)
theorem El(c:Int)(n:Nat):(allB c n).length<=n+n:=by
 unfold allB;rw[bc,eG];have:((List.range n).flatMap (pK c)).length<=n:=by
  induction n with
  |zero=>exact aA 0
  |succ n ih=>
   rw[qU,List.flatMap_append,bc];have:([n].flatMap (pK c)).length<=1:=by
    rw[List.flatMap_cons,List.flatMap_nil,cU];unfold pK;split
    ·exact aA 1
    ·exact bG 1
   omega
 omega
theorem Em{c:Int}{n:Nat}{m b:Mk}(hm:m∈marks c n)(hb:b∈nJ c m):b∈allB c n:=by
 obtain⟨j,hj,rfl⟩:=gM.mp hm;have hb:=(dv _ _).mem_iff.mp hb;rw[show(sM c j).2.toNat=j from d0 j]at hb;unfold allB;rcases d_.mp hb with hb|hb
 ·obtain⟨i,hi,rfl⟩:=gM.mp (bF.mp hb).1;exact l7 _ (gM.mpr ⟨i,by omega,rfl⟩)
 ·exact eM _ (mm.mpr ⟨j,cI.mpr hj,hb⟩)
def gI(l:List Mk)(b:Mk):List Mk:=if b∈l then l else l++[b]
theorem GC{l:List Mk}(h:l.Nodup)(b:Mk):(gI l b).Nodup:=by
 unfold gI;split
 ·exact h
 ·rename_i q;rw[jg];refine⟨h,by simp,fun a ha c hc e=>?_⟩;rw[cv]at hc;exact q (by rw[<-hc,<-e];exact ha)
theorem En{l:List Mk}{b x:Mk}:x∈gI l b↔x∈l\/x=b:=by
 unfold gI;split
 ·rename_i q;constructor
  ·exact .inl
  ·rintro (h|rfl)
   ·exact h
   ·exact q
 ·rw[d_,cv]
theorem KA{l:List Mk}{g:Mk->Tr}{b:Mk}{t:Tr}(e:g b=t):i6 (fD l g) (kM b) t=fD (gI l b) g:=by
 unfold gI;by_cases q:b∈l
 ·rw[ab q,xC q];have:(fun x=>if x=b then t else g x)=g:=funext fun x=>by
   by_cases z:x=b
   ·rw[ab z,z,e]
   ·rw[ae z]
  rw[this]
 ·rw[ae q,sq q e]
theorem vG{A:Ab}{i:Nat}{l:List Mk}{g:Mk->Tr}{b:Mk}{t:Tr}(h:A[i]?=some (.aE (fD l g)))(hl:l.length<=1000)(e:g b=t):jv A (.at i) (tM b) t=some (A.set i (.aE (fD (gI l b) g))):=by
 show(match A[i]? with
  |some (.aE aB)=>if aB.length<iT then some (A.set i (.aE (i6 aB (kM b) t)))else none
  |_=>none)=_
 rw[h];show(if(fD l g).length<iT then some (A.set i (.aE (i6 (fD l g) (kM b) t)))else none)=_;rw[ab (by unfold fD iT;rw[aj];omega),KA e]
theorem Au(ks:List Mk)(g:Mk->Tr)(m:Mk):yy (tM m) (.aE (fD ks g))=.ok (.bl (decide (m∉ks))):=by
 show Rs.ok (Tr.bl (!(ir (fD ks g) (kM m)).isSome))=_;rw[nA];by_cases e:m∈ks
 ·rw[ab e,aX (by simpa using e)];rfl
 ·rw[ae e,bt e];rfl
theorem Eo{us:List Mk}{g:Mk->Tr}(nd:us.Nodup)(hl:us.length<=20):oC [.aE (fD us g)]=.ok (.lst ((us.mergeSort lM).map tM)):=by
 have hk:yK (fD us g)=us.map tM:=by unfold yK fD;rw[bj];rfl
 have h1:(fD us g).all (fun p=>p.1.all keyOk)=true:=by
  rw[bw];intro p hp;obtain⟨m,_,rfl⟩:=bg.mp hp
  rfl
 show(if(fD us g).all (fun p=>p.1.all keyOk)=true/\oa (yK (fD us g))=true then Rs.ok (Tr.lst (cO (yK (fD us g))))else .bad)=_;rw[hk,ab ⟨h1,Ei nd hl⟩,vD]
theorem GD{us:List Mk}{g:Mk->Tr}:uB [.aE (fD us g)]=.ok (.tup (us.map tM)):=by
 have hk:yK (fD us g)=us.map tM:=by unfold yK fD;rw[bj];rfl
 have h1:(fD us g).all (fun p=>p.1.all keyOk)=true:=by
  rw[bw];intro p hp;obtain⟨m,_,rfl⟩:=bg.mp hp
  rfl
 show(if(fD us g).all (fun p=>p.1.all keyOk)=true then Rs.ok (Tr.tup (yK (fD us g)))else .bad)=_;rw[ab h1,hk]
theorem p7{A:Ab}{n:Nat}{us:List Mk}{g:Mk->Bool}(e:A[n]?=some (.aE (fD us fun m=>.bl (g m))))(k:Nat):bo (k+1) A (.at n)=.aE (fD us fun m=>.bl (g m)):=by
 rw[bo];simp only[e];unfold fD;rw[bj];congr 1;refine eO fun m _=>?_
 cases k<;>rfl
end kD
namespace kD
open PySem L2
def S7:av->Ab->Rz Out:=fun ρ A=>uf (ai (jA (cx yy (ar ρ 4) (ar ρ 1))) A) (fun A=>uo (ai (Rs.ok (Tr.bl true)) A) (fun A=>ai (ar ρ 2) A) (fun A=>ai (ar ρ 4) A) ρ) fun A=>Rz.ok (Out.nx ρ) A
def Qb:av->Ab->Rz Out:=fun ρ A=>f' (gN 4) S7 (ai (iU (cx G1 (ar ρ 3) (Rs.ok (Tr.int 1)))) A) ρ
def gK:av->Ab->Rz Out:=fun ρ A=>bH (cE 1 (ai (aC de (ag (ar ρ 0) (Rs.ok []))) A) ρ) fun ρ A=>bH (cE 2 (dW (Rs.ok (Tr.aE [])) A) ρ) fun ρ A=>bH (f' (gN 3) Qb (ai (iU (ar ρ 0)) A) ρ) fun ρ A=>hW (pz (aC dE (ag (aC oC (ag (ar (aT A ρ) 2) (Rs.ok []))) (Rs.ok []))) A)
theorem OU:oF.1=gK:=rfl
def tT(_:Mk):Tr:=.bl true
def Av(ks us bs:List Mk):List Mk:=bs.foldl (fun us b=>if b∈ks then us else gI us b) us
def jb(ks:List Mk)(bh:Mk->List Mk)(us ms:List Mk):List Mk:=ms.foldl (fun us m=>Av ks us (bh m)) us
theorem sI(l:List Mk)(b:Mk):(gI l b).length<=l.length+1:=by
 unfold gI;split
 ·omega
 ·rw[bc];exact aA _
theorem vH(ks:List Mk):∀(bs us:List Mk),(Av ks us bs).length<=us.length+bs.length
 |[],us=>by show us.length<=us.length+0;omega
 |b::bs,us=>by
  show(Av ks (if b∈ks then us else gI us b) bs).length<=_;have:=vH ks bs (if b∈ks then us else gI us b);rw[a_];by_cases q:b∈ks
  ·rw[ab q]at this⊢;omega
  ·rw[ae q]at this⊢;have:=sI us b;omega
theorem Ep(ks:List Mk):∀(bs us:List Mk),us.Nodup->(Av ks us bs).Nodup
 |[],us,h=>h
 |b::bs,us,h=>by
  show(Av ks (if b∈ks then us else gI us b) bs).Nodup;refine Ep ks bs _ ?_
  by_cases q:b∈ks
  ·rw[ab q];exact h
  ·rw[ae q];exact GC h b
theorem Aw(ks:List Mk){x:Mk}:∀(bs us:List Mk),x∈Av ks us bs↔x∈us\/(x∈bs/\x∉ks)
 |[],us=>by show x∈us↔_;simp
 |b::bs,us=>by
  show x∈Av ks (if b∈ks then us else gI us b) bs↔_;rw[Aw ks bs,aR];by_cases q:b∈ks
  ·rw[ab q];constructor
   ·rintro (h|⟨h,h2⟩)
    ·exact .inl h
    ·exact .inr ⟨.inr h,h2⟩
   ·rintro (h|⟨rfl|h,h2⟩)
    ·exact .inl h
    ·exact absurd q h2
    ·exact .inr ⟨h,h2⟩
  ·rw[ae q,En];constructor
   ·rintro ((h|rfl)|⟨h,h2⟩)
    ·exact .inl h
    ·exact .inr ⟨.inl rfl,q⟩
    ·exact .inr ⟨.inr h,h2⟩
   ·rintro (h|⟨rfl|h,h2⟩)
    ·exact .inl (.inl h)
    ·exact .inl (.inr rfl)
    ·exact .inr ⟨h,h2⟩
theorem oM(ks:List Mk)(bh:Mk->List Mk):∀(ms us:List Mk),us.Nodup->(jb ks bh us ms).Nodup
 |[],us,h=>h
 |m::ms,us,h=>oM ks bh ms _ (Ep ks (bh m) us h)
theorem kU(ks:List Mk)(bh:Mk->List Mk){x:Mk}:∀(ms us:List Mk),x∈jb ks bh us ms↔x∈us\/∃m∈ms,x∈bh m/\x∉ks
 |[],us=>by show x∈us↔_;simp
 |m::ms,us=>by
  show x∈jb ks bh (Av ks us (bh m)) ms↔_;rw[kU ks bh ms,Aw];constructor
  ·rintro ((h|h)|⟨y,hy,h⟩)
   ·exact .inl h
   ·exact .inr ⟨m,aW ..,h⟩
   ·exact .inr ⟨y,aV _ hy,h⟩
  ·rintro (h|⟨y,hy,h⟩)
   ·exact .inl (.inl h)
   ·rcases aR.mp hy with rfl|hy
    ·exact .inl (.inr h)
    ·exact .inr ⟨y,hy,h⟩
section
variable {ks:List Mk}{bh:Mk->List Mk}{H:Mk->Nat}
theorem Ax{a d:Cell}:∀(bs us:List Mk) (e:Cell),us.length+bs.length<=1000->
  ∃e',fK (gN 4) S7 (bs.map tM) [a,.sh (.aE (fD ks (tB bh))),.sh (.at 0),d,e] [.aE (fD us tT)]=.ok (.nx [a,.sh (.aE (fD ks (tB bh))),.sh (.at 0),d,e']) [.aE (fD (Av ks us bs) tT)]
 |[],us,e,_=>⟨e,rfl⟩
 |b::bs,us,e,hl=>by
  rw[a_]at hl;have e1:S7 [a,.sh (.aE (fD ks (tB bh))),.sh (.at 0),d,.sh (tM b)] [.aE (fD us tT)]=.ok (.nx [a,.sh (.aE (fD ks (tB bh))),.sh (.at 0),d,.sh (tM b)]) [.aE (fD (if b∈ks then us else gI us b) tT)]:=by
   show uf (ai (jA (yy (tM b) (.aE (fD ks (tB bh))))) _) (fun A=>_) (fun A=>_)=_;rw[Au];by_cases q:b∈ks
   ·rw[aX (by simpa using q),ab q]
    rfl
   ·rw[bt q,ae q];show(match jv [.aE (fD us tT)] (.at 0) (tM b) (.bl true)with
     |some A'=>Rz.ok (Out.nx _) A'
     |none=>Rz.bad)=_
    rw[vG (A:=[.aE (fD us tT)]) (i:=0) (l:=us) (g:=tT) (b:=b) (t:=.bl true) rfl (by omega) rfl]
    rfl
  obtain⟨e',e2⟩:=Ax (a:=a) (d:=d) bs (if b∈ks then us else gI us b) (.sh (tM b)) (by
   by_cases q:b∈ks
   ·rw[ab q];omega
   ·rw[ae q];have:=sI us b;omega)
  refine⟨e',?_⟩;rw[ay,pI (ρ1:=[a,.sh (.aE (fD ks (tB bh))),.sh (.at 0),d,.sh (tM b)]) rfl e1];exact e2
theorem Ay{a:Cell}:∀(ms us:List Mk) (d e:Cell),(∀m∈ms,(bh m).length<=20)->us.length+ms.length*20<=1000->
  ∃d' e',fK (gN 3) Qb (ms.map fun m=>.tup [tM m,tB bh m]) [a,.sh (.aE (fD ks (tB bh))),.sh (.at 0),d,e] [.aE (fD us tT)]=.ok (.nx [a,.sh (.aE (fD ks (tB bh))),.sh (.at 0),d',e']) [.aE (fD (jb ks bh us ms) tT)]
 |[],us,d,e,_,_=>⟨d,e,rfl⟩
 |m::ms,us,d,e,hb,hl=>by
  rw[a_]at hl;have bl:=hb m (aW ..);obtain⟨e',e1⟩:=Ax (ks:=ks) (bh:=bh) (a:=a) (d:=.sh (.tup [tM m,tB bh m])) (bh m) us e (by omega);obtain⟨d2,S8,e2⟩:=Ay (a:=a) ms (Av ks us (bh m)) (.sh (.tup [tM m,tB bh m])) e' (fun x hx=>hb x (aV _ hx)) (by have:=vH ks (bh m) us;omega);refine⟨d2,S8,?_⟩;rw[ay,pI (ρ1:=[a,.sh (.aE (fD ks (tB bh))),.sh (.at 0),.sh (.tup [tM m,tB bh m]),e]) rfl (show Qb _ _=_ from e1)];exact e2
theorem oN(K:pJ ks bh H)(hl:(jb ks bh [] ks).length<=20):cz [h9 ks bh]=.ok (.tup (((jb ks bh [] ks).mergeSort lM).map tM)):=by
 have kl:=K.len;obtain⟨d,e,el⟩:=Ay (ks:=ks) (bh:=bh) (a:=.sh (h9 ks bh)) ks [] .no .no K.Eb (by rw[dz];omega);have key:cz [h9 ks bh]=dF (gK [.sh (h9 ks bh),.no,.no,.no,.no] []):=by
  rw[<-OU];exact vE rfl (by
   show(gA (.tup (ks.map fun m=>.tup [tM m,tB bh m]))&&true)=true;rw[sG,pZ];rfl)
 rw[key];unfold gK;have d1:aC de (ag (ar [.sh (h9 ks bh),.no,.no,.no,.no] 0) (Rs.ok []))=.ok (.aE (fD ks (tB bh))):=nC (tB bh) K.nd (by omega);rw[d1];show dF (bH (fK (gN 3) Qb (ks.map fun m=>.tup [tM m,tB bh m]) [.sh (h9 ks bh),.sh (.aE (fD ks (tB bh))),.sh (.at 0),.no,.no] [.aE (fD [] tT)]) _)=_;rw[el];have th:bo 5 [Ao.aE (fD (jb ks bh [] ks) tT)] (.at 0)=.aE (fD (jb ks bh [] ks) tT):=p7 (g:=fun _=>true) rfl 4;show dF (hW (pz (aC dE (ag (aC oC (ag (.ok (bo 5 [Ao.aE (fD (jb ks bh [] ks) tT)] (.at 0))) (Rs.ok []))) (Rs.ok []))) _))=_;rw[th];show dF (hW (pz (aC dE (ag (oC [.aE (fD (jb ks bh [] ks) tT)]) (Rs.ok []))) _))=_;rw[Eo (oM ks bh ks [] en) hl];have tf:rQ (.tup (((jb ks bh [] ks).mergeSort lM).map tM))=true:=by rw[rQ];exact gG _
 show dF (hW (if rQ (.tup (((jb ks bh [] ks).mergeSort lM).map tM))=true then Rz.ok (.tup (((jb ks bh [] ks).mergeSort lM).map tM)) _ else .bad))=_;rw[ab tf];show(if gA (.tup (((jb ks bh [] ks).mergeSort lM).map tM))=true then Rs.ok (Tr.tup (((jb ks bh [] ks).mergeSort lM).map tM))else Rs.bad)=_;rw[ab (by rw[sG];exact sA _)]
end
end kD
namespace kD
open PySem L2
def xM(ks:List Mk)(bh:Mk->List Mk):Nat->Mk->Bool
 |0,_=>false
 |n+1,m=>decide (m∈ks)&&(bh m).all (xM ks bh n)
theorem all_congr{l:List Mk}{f g:Mk->Bool}(h:∀x∈l,f x=g x):l.all f=l.all g:=by
 induction l with
 |nil=>rfl
 |cons a l ih=>rw[eV,eV,h a (aW ..),ih fun x hx=>h x (aV _ hx)]
theorem Er{α:Type}{f g:α->Tr}{F:av->Rs Tr}{xs:List Cell}:∀(l:List α) (c:Cell),(∀a∈l,F (.sh (f a)::xs)=.ok (g a))->lE (gN 0) (fun _=>.ok true) F (l.map f) (c::xs)=.ok (l.map g)
 |[],c,_=>rfl
 |a::l,c,h=>by
  rw[ay,lE];show(EA (F (.sh (f a)::xs))).bind (fun y=>(lE (gN 0) (fun _=>.ok true) F (l.map f) (.sh (f a)::xs)).bind fun ys=>.ok (y::ys))=_;rw[h a (aW ..),Er l _ fun b hb=>h b (aV _ hb)]
  rfl
theorem Az(f:Mk->Bool):∀l:List Mk,uX (l.map fun b=>Tr.bl (f b))=.ok (l.map f)
 |[]=>rfl
 |b::l=>by rw[ay,uX,Az f l];rfl
theorem all_map(f:Mk->Bool):∀l:List Mk,(l.map f).all id=l.all f
 |[]=>rfl
 |b::l=>by rw[ay,eV,all_map f l];rfl
theorem xN(f:Mk->Bool)(l:List Mk):kg [.lst (l.map fun b=>Tr.bl (f b))]=.ok (.bl (l.all f)):=by
 show(uX (l.map fun b=>Tr.bl (f b))).bind (fun bs=>Rs.ok (Tr.bl (bs.all id)))=_;rw[Az];show Rs.ok (Tr.bl ((l.map f).all id))=_;rw[all_map]
def Xf(r:List Tr->Rs Tr):av->Rs Out:=fun ρ=>j9 (AW (cx yx (ar ρ 1) (ar ρ 0)) (aC kg (ag (gL [none,some 0] (gN 0) (fun _=>Rs.ok true) (fun ρ=>aC r (ag (ar ρ 1) (ag (ar ρ 0) (Rs.ok [])))) (iU (cx pC (ar ρ 0) (ar ρ 1))) ρ) (Rs.ok []))))
theorem Es(r:List Tr->Rs Tr):(fy r).1=Xf r:=rfl
def bR:av->Ab->Rz Out:=fun ρ A=>uf (ai ((aC kg (ag (gL [none,some 2] (gN 0) (fun _=>Rs.ok true) (fun ρ=>cx yx (ar ρ 0) (ar ρ 1)) (iU (cx pC (ar (aT A ρ) 1) (ar (aT A ρ) 3))) (aT A ρ)) (Rs.ok []))).bind gz) A) (fun A=>uo (ai (Rs.ok (Tr.bl true)) A) (fun A=>ai (ar ρ 2) A) (fun A=>ai (ar ρ 3) A) ρ) fun A=>Rz.ok (Out.nx ρ) A
def gR:av->Ab->Rz Out:=fun ρ A=>bH (cE 1 (ai (aC de (ag (ar ρ 0) (Rs.ok []))) A) ρ) fun ρ A=>bH (cE 2 (dW (Rs.ok (Tr.aE [])) A) ρ) fun ρ A=>bH (f' (gN 3) bR (yM ((cb (ai (ar ρ 0) A) fun A=>Rz.ok [] A).bind ny)) ρ) fun ρ A=>hW (pz (aC uB (ag (ar (aT A ρ) 2) (Rs.ok []))) A)
theorem OV:pY.1=gR:=rfl
section
variable {ks:List Mk}{bh:Mk->List Mk}{H:Mk->Nat}
theorem yU(K:pJ ks bh H)(j:Nat):∀(n:Nat) (m:Mk),(m∈ks->H m<=n)->xM ks bh (n+1+j) m=xM ks bh (n+1) m:=by
 intro n
 induction n with
 |zero=>
  intro m h;have q:m∉ks:=fun q=>by have:=h q;have:=K.pos m q;omega
  rw[show 0+1+j=j+1 by omega,xM,xM,aX q]
  rfl
 |succ n ih=>
  intro m h;rw[show n+1+1+j=(n+1+j)+1 by omega,xM,xM];by_cases q:m∈ks
  ·congr 1;refine all_congr fun b hb=>ih b fun hk=>?_
   have:=K.lt m q b hb hk;have:=h q;omega
  ·rw[aX q];rfl
def jB(ks:List Mk)(bh:Mk->List Mk)(m:Mk):Bool:=xM ks bh 60 m
theorem KC(K:pJ ks bh H)(m:Mk):jB ks bh m=(decide (m∈ks)&&(bh m).all (jB ks bh)):=by
 show(decide (m∈ks)&&(bh m).all (xM ks bh 59))=_;congr 1;refine all_congr fun b hb=>?_
 have h1:=yU K 8 50 b fun hk=>K.top b hk;have h2:=yU K 9 50 b fun hk=>K.top b hk;show xM ks bh 59 b=xM ks bh 60 b;exact h1.trans h2.symm
theorem S9(K:pJ ks bh H){n:Nat}{m:Mk}(h:m∈ks->H m<=n)(hn:n<=50):xM ks bh (n+1) m=jB ks bh m:=by
 have:=yU K (59 - n) n m h;rw[show n+1+(59 - n)=60 by omega]at this;exact this.symm
theorem BX(K:pJ ks bh H):∀(n:Nat) (m:Mk),(m∈ks->H m<=n)->b_ (n+1) [.aE (fD ks (tB bh)),tM m]=.ok (.bl (xM ks bh (n+1) m)):=by
 intro n
 induction n with
 |zero=>
  intro m h;have q:m∉ks:=fun q=>by have:=h q;have:=K.pos m q;omega
  show fF ((fy (b_ 0)).1 [.sh (.aE (fD ks (tB bh))),.sh (tM m)])=_;rw[Es];show fF (j9 (AW (yx (tM m) (.aE (fD ks (tB bh)))) _))=_;rw[oK,xM,aX q]
  rfl
 |succ n ih=>
  intro m h;show fF ((fy (b_ (n+1))).1 [.sh (.aE (fD ks (tB bh))),.sh (tM m)])=_;rw[Es];show fF (j9 (AW (yx (tM m) (.aE (fD ks (tB bh)))) (aC kg (ag (gL [none,some 0] (gN 0) (fun _=>Rs.ok true) (fun ρ=>aC (b_ (n+1)) (ag (ar ρ 1) (ag (ar ρ 0) (Rs.ok [])))) (iU (pC (.aE (fD ks (tB bh))) (tM m))) [.sh (.aE (fD ks (tB bh))),.sh (tM m)]) (Rs.ok [])))))=_;rw[oK,xM];by_cases q:m∈ks
  ·have bl:=K.Eb m q;rw[jq q,bt q];show fF (j9 (aC kg (ag (gL [none,some 0] (gN 0) _ _ (.ok ((bh m).map tM)) _) (Rs.ok []))))=_;rw[kF (by omega)];show fF (j9 (aC kg (ag ((lE (gN 0) _ _ ((bh m).map tM) [.no,.sh (.aE (fD ks (tB bh)))]).bind _) (Rs.ok []))))=_;rw[Er (f:=tM) (g:=fun b=>.bl (xM ks bh (n+1) b)) (bh m) .no fun b hb=>?_]
   ·show fF (j9 (kg [.lst ((bh m).map fun b=>.bl (xM ks bh (n+1) b))]))=_;rw[xN]
    rfl
   ·show b_ (n+1) [.aE (fD ks (tB bh)),tM b]=_;exact ih b fun hk=>by
     have:=K.lt m q b hb hk;have:=h q;omega
  ·rw[aX q]
   rfl
theorem OW(K:pJ ks bh H){a:Cell}{A:Ab}{j:Nat}{wl:List Mk}{m:Mk}(hm:m∈ks)(hj:A[j]?=some (.aE (fD wl tT)))(hl:wl.length<=1000):
  bR [a,.sh (.aE (fD ks (tB bh))),.sh (.at j),.sh (tM m)] A=.ok (.nx [a,.sh (.aE (fD ks (tB bh))),.sh (.at j),.sh (tM m)]) (if(bh m).all (fun b=>decide (b∈wl))=true then A.set j (.aE (fD (gI wl m) tT))else A):=by
 have bl:=K.Eb m hm;have th:bo 5 A (.at j)=.aE (fD wl tT):=p7 (g:=fun _=>true) hj 4;unfold bR;show uf (ai ((aC kg (ag (gL [none,some 2] (gN 0) _ _ (iU (pC (.aE (fD ks (tB bh))) (tM m))) _) (Rs.ok []))).bind gz) A) _ _=_;rw[jq hm];show uf (ai ((aC kg (ag (gL [none,some 2] (gN 0) _ _ (.ok ((bh m).map tM)) _) (Rs.ok []))).bind gz) A) _ _=_;rw[kF (by omega)];show uf (ai ((aC kg (ag ((lE (gN 0) _ _ ((bh m).map tM) [.no,.sh (bo 5 A (.at j))]).bind _) (Rs.ok []))).bind gz) A) _ _=_;rw[th,Er (f:=tM) (g:=fun b=>.bl (decide (b∈wl))) (bh m) .no fun b hb=>?_]
 ·show uf (ai ((kg [.lst ((bh m).map fun b=>.bl (decide (b∈wl)))]).bind gz) A) _ _=_;rw[xN];cases q:(bh m).all fun b=>decide (b∈wl)with
  |true=>
   show(match jv A (.at j) (tM m) (.bl true)with
    |some A'=>Rz.ok (Out.nx _) A'
    |none=>Rz.bad)=_
   rw[vG (l:=wl) (g:=tT) (b:=m) (t:=.bl true) hj hl rfl]
   rfl
  |false=>rfl
 ·show yx (tM b) (.aE (fD wl tT))=_;exact oK wl tT b
theorem Et(K:pJ ks bh H){a:Cell}{j:Nat}(HE:0<j):∀(rest pre:List Mk) (A:Ab) (d:Cell),cG H ks=pre++rest->A[j]?=some (.aE (fD (pre.filter (jB ks bh)) tT))->
  ∃A' d',fK (gN 3) bR (rest.map tM) [a,.sh (.aE (fD ks (tB bh))),.sh (.at j),d] A=.ok (.nx [a,.sh (.aE (fD ks (tB bh))),.sh (.at j),d']) A'/\A'[j]?=some (.aE (fD ((cG H ks).filter (jB ks bh)) tT))/\A'[0]?=A[0]?
 |[],pre,A,d,e,hj=>⟨A,d,rfl,by rw[e,cU];exact hj,rfl⟩
 |m::rest,pre,A,d,e,hj=>by
  have pt:(cG H ks).Perm ks:=dv _ _;have nd:(pre++m::rest).Nodup:=by rw[<-e];exact pt.nodup_iff.mpr K.nd
  have hm:m∈ks:=pt.mem_iff.mp (by rw[e];simp);have kl:=K.len;have pl:(pre.filter (jB ks bh)).length<=1000:=by
   have h1:(pre.filter (jB ks bh)).length<=pre.length:=ia _ _;have h2:(cG H ks).length=ks.length:=nH ks;rw[e,bc]at h2;omega
  have mp:m∉pre:=fun q=>by
   rw[jg]at nd;exact nd.2.2 m q m (aW ..) rfl
  have pw:=Ek (H:=H) ks;rw[e,List.pairwise_append]at pw;have before:∀b∈ks,H b<H m->b∈pre:=fun b hb fc=>by
   have jC:b∈pre++m::rest:=by rw[<-e];exact pt.mem_iff.mpr hb
   rcases d_.mp jC with q|q
   ·exact q
   ·rcases aR.mp q with rfl|q
    ·omega
    ·have z:=nq.mp (List.rel_of_pairwise_cons pw.2.1 q);rw[vA,vA]at z;exact absurd (List.Lex.rel (by omega)) z
  have key:(bh m).all (fun b=>decide (b∈pre.filter (jB ks bh)))=jB ks bh m:=by
   rw[KC K m,bt hm,jO];refine all_congr fun b hb=>?_
   cases q:jB ks bh b with
   |true=>
    have hk:b∈ks:=by
     rw[KC K b,aM]at q;exact bN q.1
    exact bt (bF.mpr ⟨before b hk (K.lt m hm b hb hk),q⟩)
   |false=>exact aX fun z=>by rw[(bF.mp z).2]at q;cases q
  have e1:=OW K (a:=a) hm hj pl;rw[key]at e1;have step:∀A1:Ab,(if jB ks bh m=true then A.set j (.aE (fD (gI (pre.filter (jB ks bh)) m) tT))else A)=A1->A1[j]?=some (.aE (fD ((pre++[m]).filter (jB ks bh)) tT))/\A1[0]?=A[0]? :=fun A1 eA=>by
   subst eA;rw[List.filter_append,fP,qV];cases q:jB ks bh m with
   |true=>
    rw[ab rfl,ab rfl];have:gI (pre.filter (jB ks bh)) m=pre.filter (jB ks bh)++[m]:=ae fun z=>mp (bF.mp z).1;rw[this];exact⟨dM (cu hj),ck (by omega)⟩
   |false=>
    rw[ae (by decide),ae (by decide),cU];exact⟨hj,rfl⟩
  obtain⟨s1,s2⟩:=step _ rfl;obtain⟨A',d',e2,h1,h2⟩:=Et K (a:=a) HE rest (pre++[m]) _ (.sh (tM m)) (by rw[e];simp) s1;refine⟨A',d',?_,h1,h2.trans s2⟩;rw[ay,pI (ρ1:=[a,.sh (.aE (fD ks (tB bh))),.sh (.at j),.sh (tM m)]) rfl e1];exact e2
theorem fz{α:Type}{x:α}{A:Ab}:ai (.ok x) A=.ok x A:=rfl
theorem jr{α β:Type}{x:α}{A:Ab}{f:α->Ab->Rz β}:(Rz.ok x A).bind f=f x A:=rfl
theorem AA{ts:List Tr}{A:Ab}:yM (.ok (.tup ts) A)=.ok ts A:=rfl
theorem xO{T:j_}{G:av->Ab->Rz Out}{ts:List Tr}{A:Ab}{ρ:av}:f' T G (.ok ts A) ρ=fK T G ts ρ A:=rfl
theorem vI(K:pJ ks bh H){A:Ab}(hA:A[0]?=some (Ao.tb "order" "order.<locals>.<lambda>")):∃A',jo [h9 ks bh] A=.ok (.tup (((cG H ks).filter (jB ks bh)).map tM)) A'/\A'[0]?=some (Ao.tb "order" "order.<locals>.<lambda>"):=by
 have kl:=K.len;have l0:=cu hA;have Qc:(A++[.aE []])[0]?=some (Ao.tb "order" "order.<locals>.<lambda>"):=by rw[bZ l0];exact hA
 have hj:(A++[.aE []])[A.length]?=some (.aE (fD (([]:List Mk).filter (jB ks bh)) tT)):=by rw[qV,dJ (aA _),eY];rfl
 obtain⟨A',d',e2,h1,h2⟩:=Et K (a:=.sh (h9 ks bh)) l0 (cG H ks) [] (A++[.aE []]) .no rfl hj;refine⟨A',?_,h2.trans Qc⟩;show fk (pY.1 [.sh (h9 ks bh),.no,.no,.no] A)=_;rw[OV];unfold gR;have d1:aC de (ag (ar [.sh (h9 ks bh),.no,.no,.no] 0) (Rs.ok []))=.ok (.aE (fD ks (tB bh))):=nC (tB bh) K.nd (by omega);rw[d1,fz,dU];have dn:dW (Rs.ok (Tr.aE [])) A=.ok (.at A.length) (A++[.aE []]):=rfl;rw[dn,dU];have dc:(cb (ai (ar (List.set (List.set [.sh (h9 ks bh),.no,.no,.no] 1 (.sh (.aE (fD ks (tB bh))))) 2 (.sh (.at A.length))) 0) (A++[.aE []])) fun A=>Rz.ok [] A)=Rz.ok [h9 ks bh] (A++[.aE []]):=rfl;rw[dc,jr,vB K Qc,AA,xO];have dr:List.set (List.set [.sh (h9 ks bh),.no,.no,.no] 1 (.sh (.aE (fD ks (tB bh))))) 2 (.sh (.at A.length))=[Cell.sh (h9 ks bh),.sh (.aE (fD ks (tB bh))),.sh (.at A.length),.no]:=rfl;rw[dr];rw[e2];have th:bo 5 A' (.at A.length)=.aE (fD ((cG H ks).filter (jB ks bh)) tT):=p7 (g:=fun _=>true) h1 4;show fk (hW (pz (aC uB (ag (.ok (bo 5 A' (.at A.length))) (Rs.ok []))) A'))=_;rw[th];show fk (hW (pz (uB [.aE (fD ((cG H ks).filter (jB ks bh)) tT)]) A'))=_;rw[GD];have tf:rQ (.tup (((cG H ks).filter (jB ks bh)).map tM))=true:=by rw[rQ];exact gG _
 show fk (hW (if rQ (.tup (((cG H ks).filter (jB ks bh)).map tM))=true then Rz.ok (.tup (((cG H ks).filter (jB ks bh)).map tM)) A' else .bad))=_;rw[ab tf]
 rfl
end
end kD
namespace kD
open PySem L2
def fin(ρ:av)(r:Rz Bool):Rz Out:=uf r (fun A=>hW (ai (Rs.ok (Tr.bl false)) A)) fun A=>Rz.ok (Out.nx ρ) A
theorem yV{ρ:av}{A:Ab}:fin ρ (.ok false A)=.ok (.nx ρ) A:=rfl
theorem vJ{ρ:av}{A:Ab}{G:av->Ab->Rz Out}:bH (.ok (.nx ρ) A) G=G ρ A:=rfl
def UE(ρ:av):Rs Tr:=aC gj (ag (cx hJ (aC fw (ag (ar ρ 0) (ag (ar ρ 1) (Rs.ok [])))) (ar ρ 1)) (ag (Rs.ok (Tr.int 9)) (Rs.ok [])))
def S_(ρ:av):Rs Tr:=gL [none,some 0] (gN 0) (fun ρ=>jA (cx Jl (aC bx (ag (cx hJ (aC fw (ag (ar ρ 1) (ag (Rs.ok (Tr.int 3)) (Rs.ok [])))) (cx G1 (cx G1 (ar ρ 0) (Rs.ok (Tr.int 0))) (Rs.ok (Tr.int 1)))) (ag (Rs.ok (Tr.int 9511)) (ag (Rs.ok (Tr.int 4)) (Rs.ok []))))) (Rs.ok (Tr.int 0)))) (fun ρ=>ar ρ 0) (iU (ar ρ 2)) ρ
def UG(ρ:av):Rs Tr:=aC ja (ag (ar ρ 3) (ag (cx hJ (aC fw (ag (ar ρ 0) (ag (Rs.ok (Tr.int 4)) (Rs.ok [])))) (ar ρ 1)) (Rs.ok [])))
def UH(ρ:av):Rs Tr:=aC de (ag (ar ρ 4) (Rs.ok []))
def Ta:av->Ab->Rz Out:=fun ρ A=>uo (ai (cx yy (ar ρ 9) (ar ρ 5)) A) (fun A=>ai (ar ρ 6) A) (fun A=>ai (ar ρ 9) A) ρ
def Tb:av->Ab->Rz Out:=fun ρ A=>f' (gN 9) Ta (ai (iU (ar ρ 8)) A) ρ
def Tc(ρ:av):Rs Bool:=CN ((aC (dh 5) (ag (aC cz (ag (ar ρ 4) (Rs.ok []))) (ag (aC dE (ag (aC i_ (ag (gL [none,some 6] (gN 0) (fun ρ=>(cx pC (ar ρ 1) (ar ρ 0)).bind gz) (fun ρ=>ar ρ 0) (lJ (ar ρ 6)) ρ) (Rs.ok []))) (Rs.ok []))) (Rs.ok [])))).bind gz)
def Ls(ρ:av)(A:Ab):Rz Tr:=(cb (ai (ar ρ 4) A) fun A=>Rz.ok [] A).bind ny
def Lu(ρ:av)(A:Ab):Rz Tr:=(cb (ai (ar ρ 4) A) fun A=>Rz.ok [] A).bind jo
def Td(ρ:av)(A:Ab):Rz Tr:=D9 [none,some 5] (gN 0) (fun ρ=>(aC (b_ 12) (ag (ar ρ 1) (ag (ar ρ 0) (Rs.ok [])))).bind gz) (fun ρ=>ar ρ 0) (yM (Ls ρ A)) ρ
def Te(ρ:av)(A:Ab):Rz Bool:=F2 (F1 ((cb (Lu ρ A) fun A=>cb (ai (aC dE (ag (ar ρ 10) (Rs.ok []))) A) fun A=>Rz.ok [] A).bind fun ts A=>ai (dh 5 ts) A))
def Tf(ρ:av)(A:Ab):Rz Bool:=OD (ai (jA (cx nN (aC cz (ag (ar ρ 4) (Rs.ok []))) (fB (Rs.ok [])))) A) fun A=>FY (pA yX (Lu ρ A) fun A=>Ls ρ A)
def Qd:av->Ab->Rz Out:=fun ρ A=>bH (cE 2 (ai (UE ρ) A) ρ) fun ρ A=>bH (cE 3 (ai (S_ ρ) A) ρ) fun ρ A=>bH (cE 4 (ai (UG ρ) A) ρ) fun ρ A=>bH (cE 5 (ai (UH ρ) A) ρ) fun ρ A=>bH (cE 6 (dW (Rs.ok (Tr.aE [])) A) ρ) fun ρ A=>bH (f' (gT [7,8]) Tb (ai (iU (ar ρ 4)) A) ρ) fun ρ A=>bH (fin ρ (ai (Tc (aT A ρ)) A)) fun ρ A=>bH (cE 10 (Td ρ A) ρ) fun ρ A=>bH (fin ρ (Te ρ A)) fun ρ A=>fin ρ (Tf ρ A)
def KD:av->Ab->Rz Out:=fun ρ A=>hW (OE (ai (cx nN (aC cz (ag (fB (Rs.ok [])) (Rs.ok []))) (fB (Rs.ok []))) A) fun A=>pA nN ((cb (ai (fB (Rs.ok [])) A) fun A=>Rz.ok [] A).bind jo) fun A=>ai (fB (Rs.ok [])) A)
def Xg:av->Ab->Rz Out:=fun ρ A=>bH (f' (gN 1) Qd (ai (rD (ag (Rs.ok (Tr.int 3)) (Rs.ok []))) A) ρ) KD
theorem KG:Af.1=Xg:=rfl
theorem GF{P:Mk->Bool}{f g:Mk->Tr}{Q:av->Rs Bool}{F:av->Rs Tr}{xs:List Cell}:∀(ms:List Mk) (c:Cell),(∀m∈ms,Q (.sh (f m)::xs)=.ok (P m))->(∀m∈ms,P m=true->F (.sh (f m)::xs)=.ok (g m))->lE (gN 0) Q F (ms.map f) (c::xs)=.ok ((ms.filter P).map g)
 |[],c,_,_=>rfl
 |m::ms,c,hQ,hF=>by
  have ih:=GF (P:=P) (f:=f) (g:=g) (Q:=Q) (F:=F) (xs:=xs) ms (.sh (f m)) (fun x hx=>hQ x (aV _ hx)) (fun x hx=>hF x (aV _ hx));rw[ay,lE];show(EA (Q (.sh (f m)::xs))).bind _=_;rw[hQ m (aW ..)];cases p:P m with
  |true=>
   show(EA (F (.sh (f m)::xs))).bind _=_;rw[hF m (aW ..) p];show(lE (gN 0) Q F (ms.map f) (.sh (f m)::xs)).bind _=_;rw[ih,fP,p]
   rfl
  |false=>
   show lE (gN 0) Q F (ms.map f) (.sh (f m)::xs)=_;rw[ih,fP,p]
   rfl
def BY(ks:List Mk)(b:Mk):Tr:=.bl (decide (b∉ks))
section
variable {ks:List Mk}{bh:Mk->List Mk}{H:Mk->Nat}{j:Nat}{a0 a1 a2 a3 a4 a7 a8 a10:Cell}
theorem AB(HE:0<j):∀(bs vs:List Mk) (A:Ab) (e:Cell),A[j]?=some (.aE (fD vs (BY ks)))->vs.length+bs.length<=1000->
  ∃A' e',fK (gN 9) Ta (bs.map tM) [a0,a1,a2,a3,a4,.sh (.aE (fD ks (tB bh))),.sh (.at j),a7,a8,e,a10] A=.ok (.nx [a0,a1,a2,a3,a4,.sh (.aE (fD ks (tB bh))),.sh (.at j),a7,a8,e',a10]) A'/\A'[j]?=some (.aE (fD (Av [] vs bs) (BY ks)))/\A'[0]?=A[0]?
 |[],vs,A,e,h,_=>⟨A,e,rfl,h,rfl⟩
 |b::bs,vs,A,e,h,hl=>by
  rw[a_]at hl;have e1:Ta [a0,a1,a2,a3,a4,.sh (.aE (fD ks (tB bh))),.sh (.at j),a7,a8,.sh (tM b),a10] A=.ok (.nx [a0,a1,a2,a3,a4,.sh (.aE (fD ks (tB bh))),.sh (.at j),a7,a8,.sh (tM b),a10]) (A.set j (.aE (fD (gI vs b) (BY ks)))):=by
   show uo (ai (yy (tM b) (.aE (fD ks (tB bh)))) A) (fun A=>.ok (.at j) A) (fun A=>.ok (tM b) A) _=_;rw[Au];show(match jv A (.at j) (tM b) (.bl (decide (b∉ks)))with
    |some A'=>Rz.ok (Out.nx _) A'
    |none=>Rz.bad)=_
   rw[vG (l:=vs) (g:=BY ks) (b:=b) (t:=.bl (decide (b∉ks))) h (by omega) rfl]
  obtain⟨A',e',e2,h1,h2⟩:=AB HE bs (gI vs b) (A.set j (.aE (fD (gI vs b) (BY ks)))) (.sh (tM b)) (dM (cu h)) (by have:=sI vs b;omega);refine⟨A',e',?_,?_,?_⟩
  ·rw[ay,pI (ρ1:=[a0,a1,a2,a3,a4,.sh (.aE (fD ks (tB bh))),.sh (.at j),a7,a8,.sh (tM b),a10]) rfl e1];exact e2
  ·rw[h1];show some (Ao.aE (fD (Av [] (gI vs b) bs) (BY ks)))=some (Ao.aE (fD (Av [] (if b∈([]:List Mk)then vs else gI vs b) bs) (BY ks)));rw[ae (by simp)]
  ·rw[h2,ck (by omega)]
end
section
variable {ks:List Mk}{bh:Mk->List Mk}{H:Mk->Nat}{j:Nat}{a0 a1 a2 a3 a4 a10:Cell}
theorem AD(HE:0<j):∀(ms vs:List Mk) (A:Ab) (c d e:Cell),(∀m∈ms,(bh m).length<=20)->A[j]?=some (.aE (fD vs (BY ks)))->vs.length+ms.length*20<=1000->
  ∃A' c' d' e',fK (gT [7,8]) Tb (ms.map fun m=>.tup [tM m,tB bh m]) [a0,a1,a2,a3,a4,.sh (.aE (fD ks (tB bh))),.sh (.at j),c,d,e,a10] A=.ok (.nx [a0,a1,a2,a3,a4,.sh (.aE (fD ks (tB bh))),.sh (.at j),c',d',e',a10]) A'/\A'[j]?=some (.aE (fD (jb [] bh vs ms) (BY ks)))/\A'[0]?=A[0]?
 |[],vs,A,c,d,e,_,h,_=>⟨A,c,d,e,rfl,h,rfl⟩
 |m::ms,vs,A,c,d,e,hb,h,hl=>by
  rw[a_]at hl;have bl:=hb m (aW ..);obtain⟨A1,B6,e1,h1,g1⟩:=AB (ks:=ks) (bh:=bh) (a0:=a0) (a1:=a1) (a2:=a2) (a3:=a3) (a4:=a4) (a7:=.sh (tM m)) (a8:=.sh (tB bh m)) (a10:=a10) HE (bh m) vs A e h (by omega);obtain⟨A2,c2,d2,S8,e2,h2,g2⟩:=AD HE ms (Av [] vs (bh m)) A1 (.sh (tM m)) (.sh (tB bh m)) B6 (fun x hx=>hb x (aV _ hx)) h1 (by have:=vH [] (bh m) vs;omega);refine⟨A2,c2,d2,S8,?_,h2,g2.trans g1⟩;rw[ay,pI (ρ1:=[a0,a1,a2,a3,a4,.sh (.aE (fD ks (tB bh))),.sh (.at j),.sh (tM m),.sh (tB bh m),e,a10]) rfl (show Tb _ _=_ from e1)];exact e2
end
end kD
namespace kD
open PySem L2
abbrev GG:Ao:=Ao.tb "order" "order.<locals>.<lambda>"
section
variable {ks:List Mk}{bh:Mk->List Mk}{H:Mk->Nat}{j:Nat}{a0 a1 a2 a3 a7 a8 a9 a10:Cell}{A:Ab}
def vP(a0 a1 a2 a3:Cell)(ks:List Mk)(bh:Mk->List Mk)(j:Nat)(a7 a8 a9 a10:Cell):av:=[a0,a1,a2,a3,.sh (h9 ks bh),.sh (.aE (fD ks (tB bh))),.sh (.at j),a7,a8,a9,a10]
theorem KH(K:pJ ks bh H)(hl:(jb ks bh [] ks).length<=20)(hv:(jb [] bh [] ks).length<=20)(hj:A[j]?=some (.aE (fD (jb [] bh [] ks) (BY ks)))):Tc (aT A (vP a0 a1 a2 a3 ks bh j a7 a8 a9 a10))=.ok false:=by
 have th:bo 5 A (.at j)=.aE (fD (jb [] bh [] ks) (BY ks)):=p7 (g:=fun b=>decide (b∉ks)) hj 4;have UI:=oM [] bh ks [] en;have fl:((jb [] bh [] ks).filter fun b=>decide (b∉ks)).length<=20:=bp (ia _ _) hv;have pp:((jb [] bh [] ks).filter fun b=>decide (b∉ks)).Perm (jb ks bh [] ks):=(lU (cD UI) (oM ks bh ks [] en)).mpr fun x=>by
  rw[bF,kU,kU,cH];constructor
  ·rintro ⟨h|⟨m,hm,h1,_⟩,h2⟩
   ·cases h
   ·exact .inr ⟨m,hm,h1,h2⟩
  ·rintro (h|⟨m,hm,h1,h2⟩)
   ·cases h
   ·exact⟨.inr ⟨m,hm,h1,by simp⟩,h2⟩
 have e2:gL [none,some 6] (gN 0) (fun ρ=>(cx pC (ar ρ 1) (ar ρ 0)).bind gz) (fun ρ=>ar ρ 0) (lJ (ar (aT A (vP a0 a1 a2 a3 ks bh j a7 a8 a9 a10)) 6)) (aT A (vP a0 a1 a2 a3 ks bh j a7 a8 a9 a10))=.ok (.lst (((jb [] bh [] ks).filter fun b=>decide (b∉ks)).map tM)):=by
  show gL [none,some 6] (gN 0) _ _ (lJ (.ok (bo 5 A (.at j)))) _=_;rw[th,nB,kF (by omega)];show(lE (gN 0) _ _ ((jb [] bh [] ks).map tM) [.no,.sh (bo 5 A (.at j))]).bind _=_;rw[th,GF (P:=fun b=>decide (b∉ks)) (f:=tM) (g:=tM) _ .no (fun b hb=>?_) (fun _ _ _=>rfl)]
  ·rfl
  ·show(pC (.aE (fD (jb [] bh [] ks) (BY ks))) (tM b)).bind gz=_;rw[jq hb]
   rfl
 unfold Tc;rw[e2];show CN ((aC (dh 5) (ag (cz [h9 ks bh]) (ag (aC dE (ag (i_ [.lst (((jb [] bh [] ks).filter fun b=>decide (b∉ks)).map tM)]) (Rs.ok []))) (Rs.ok [])))).bind gz)=_;rw[oN K hl,GB (cD UI) fl,Ej pp];show CN ((dh 5 [.tup (((jb ks bh [] ks).mergeSort lM).map tM),.tup (((jb ks bh [] ks).mergeSort lM).map tM)]).bind gz)=_;have s:dh 5 [.tup (((jb ks bh [] ks).mergeSort lM).map tM),.tup (((jb ks bh [] ks).mergeSort lM).map tM)]=.ok (.bl true):=sC 2 (by rw[(dv _ _).length_eq];omega);rw[s]
 rfl
theorem Eu:Ls (vP a0 a1 a2 a3 ks bh j a7 a8 a9 a10) A=ny [h9 ks bh] A:=by
 unfold Ls;have:(cb (ai (ar (vP a0 a1 a2 a3 ks bh j a7 a8 a9 a10) 4) A) fun A=>Rz.ok [] A)=.ok [h9 ks bh] A:=rfl;rw[this,jr]
theorem Ew:Lu (vP a0 a1 a2 a3 ks bh j a7 a8 a9 a10) A=jo [h9 ks bh] A:=by
 unfold Lu;have:(cb (ai (ar (vP a0 a1 a2 a3 ks bh j a7 a8 a9 a10) 4) A) fun A=>Rz.ok [] A)=.ok [h9 ks bh] A:=rfl;rw[this,jr]
theorem KI(K:pJ ks bh H)(Tg:∀m∈ks,H m<=10)(hA:A[0]?=some GG):Td (vP a0 a1 a2 a3 ks bh j a7 a8 a9 a10) A=.ok (.lst (((cG H ks).filter (jB ks bh)).map tM)) A:=by
 have ol:(cG H ks).length<=1000:=by rw[nH];have:=K.len;omega
 unfold Td;rw[Eu,vB K hA,AA];have e:gL [none,some 5] (gN 0) (fun ρ=>(aC (b_ 12) (ag (ar ρ 1) (ag (ar ρ 0) (Rs.ok [])))).bind gz) (fun ρ=>ar ρ 0) (.ok ((cG H ks).map tM)) (vP a0 a1 a2 a3 ks bh j a7 a8 a9 a10)=.ok (.lst (((cG H ks).filter (jB ks bh)).map tM)):=by
  rw[kF ol];have r:kb [none,some 5] (vP a0 a1 a2 a3 ks bh j a7 a8 a9 a10)=[.no,.sh (.aE (fD ks (tB bh)))]:=rfl;rw[r,GF (P:=jB ks bh) (f:=tM) (g:=tM) _ .no (fun m hm=>?_) (fun _ _ _=>rfl)]
  ·rfl
  ·show(b_ 12 [.aE (fD ks (tB bh)),tM m]).bind gz=_;have hk:m∈ks->H m<=11:=fun q=>by have:=Tg m q;omega
   rw[BX K 11 m hk,S9 K hk (by omega)]
   rfl
 unfold D9;rw[jr,e,fz]
theorem KJ(K:pJ ks bh H)(hA:A[0]?=some GG):∃A',Te (vP a0 a1 a2 a3 ks bh j a7 a8 a9 (.sh (.lst (((cG H ks).filter (jB ks bh)).map tM)))) A=.ok false A'/\A'[0]?=some GG:=by
 have ol:((cG H ks).filter (jB ks bh)).length<=1000:=bp (ia _ _) (by rw[nH];have:=K.len;omega);obtain⟨A',e,h⟩:=vI K hA;refine⟨A',?_,h⟩;unfold Te;rw[Ew,e];have s:dh 5 [.tup (((cG H ks).filter (jB ks bh)).map tM),.tup (((cG H ks).filter (jB ks bh)).map tM)]=.ok (.bl true):=sC 2 ol;show F2 (F1 (ai (dh 5 [.tup (((cG H ks).filter (jB ks bh)).map tM),.tup (((cG H ks).filter (jB ks bh)).map tM)]) A'))=_;rw[s]
 rfl
theorem eq_nil(l:List Mk):jA (nN (.tup (l.map tM)) (.tup []))=.ok l.isEmpty:=by
 have p:rG (.tup (l.map tM))=true:=by rw[rG];exact vF l
 have d:dT (.tup (l.map tM))<=40:=by rw[dT];have:=yT l;omega
 unfold nN;rw[ab ⟨p,rfl,d⟩];cases l<;>rfl
theorem KL(K:pJ ks bh H)(hl:(jb ks bh [] ks).length<=20)(hA:A[0]?=some GG):∃A',Tf (vP a0 a1 a2 a3 ks bh j a7 a8 a9 a10) A=.ok false A'/\A'[0]?=some GG:=by
 unfold Tf;have e1:jA (cx nN (aC cz (ag (ar (vP a0 a1 a2 a3 ks bh j a7 a8 a9 a10) 4) (Rs.ok []))) (fB (Rs.ok [])))=.ok ((jb ks bh [] ks).mergeSort lM).isEmpty:=by
  show jA (cx nN (cz [h9 ks bh]) (.ok (.tup [])))=_;rw[oN K hl];exact eq_nil _
 rw[e1,fz];cases q:((jb ks bh [] ks).mergeSort lM).isEmpty with
 |false=>exact⟨A,rfl,hA⟩
 |true=>
  have z:jb ks bh [] ks=[]:=by
   have h1:=List.isEmpty_iff.mp q;have h2:=(dv (jb ks bh [] ks) lM).length_eq;rw[h1]at h2;exact kH.mp h2.symm
  have Th:∀m∈ks,∀b∈bh m,b∈ks:=fun m hm b hb=>by
   by_cases w:b∈ks
   ·exact w
   ·have:b∈jb ks bh [] ks:=(kU ks bh ks []).mpr (.inr ⟨m,hm,hb,w⟩);rw[z]at this;cases this
  have Ti:∀(n:Nat) (m:Mk),m∈ks->H m<=n->jB ks bh m=true:=fun n=>by
   induction n with
   |zero=>intro m hm h;have:=K.pos m hm;omega
   |succ n ih=>
    intro m hm h;rw[KC K m,bt hm,jO,bw];intro b hb;have hk:=Th m hm b hb;have:=K.lt m hm b hb hk;exact ih b hk (by omega)
  have pt:(cG H ks).Perm ks:=dv _ _;have ff:(cG H ks).filter (jB ks bh)=cG H ks:=List.filter_eq_self.mpr fun m hm=>Ti (H m) m (pt.mem_iff.mp hm) (aA _);obtain⟨A',e,h⟩:=vI K hA;rw[ff]at e;refine⟨A',?_,h⟩;have e3:pA yX (Lu (vP a0 a1 a2 a3 ks bh j a7 a8 a9 a10) A) (fun A=>Ls (vP a0 a1 a2 a3 ks bh j a7 a8 a9 a10) A)=.ok (.bl false) A':=by
   unfold pA;rw[Ew,e,jr];dsimp only;rw[Eu,vB K h,jr];show pz (yX (.tup ((cG H ks).map tM)) (.tup ((cG H ks).map tM))) A'=_;rw[Kz]
   rfl
  show FY (pA yX (Lu (vP a0 a1 a2 a3 ks bh j a7 a8 a9 a10) A) (fun A=>Ls (vP a0 a1 a2 a3 ks bh j a7 a8 a9 a10) A))=_;rw[e3]
  rfl
end
end kD
namespace kD
open PySem L2
theorem KN{ns:List Int}{y:Int}(ey:fw [.f7 ns,.int 3]=.ok (.int y)){c:Int}{ms:List Mk}(hl:ms.length<=20){a1 a3 a4 a5 a6 a7 a8 a9 a10:Cell}:S_ [.sh (.f7 ns),a1,.sh (.lst (ms.map (bC c))),a3,a4,a5,a6,a7,a8,a9,a10]=.ok (.lst ((ms.filter fun m=>decide (0<mix (y+m.2) 9511 4)).map (bC c))):=by
 unfold S_;show(if(ms.map (bC c)).length<=iT then(lE (gN 0) _ _ (ms.map (bC c)) [.no,.sh (.f7 ns)]).bind fun ys=>Rs.ok (Tr.lst ys)else .bad)=_;rw[ab (by rw[aj];unfold iT;omega),GF (P:=fun m=>decide (0<mix (y+m.2) 9511 4)) (f:=bC c) (g:=bC c) ms .no (fun m hm=>?_) (fun _ _ _=>rfl)]
 ·rfl
 ·show jA (cx Jl (aC bx (ag (cx hJ (fw [.f7 ns,.int 3]) (.ok (.int m.2))) (ag (Rs.ok (Tr.int 9511)) (ag (Rs.ok (Tr.int 4)) (Rs.ok []))))) (Rs.ok (Tr.int 0)))=_;rw[ey];show jA (cx Jl (bx [.int (y+m.2),.int 9511,.int 4]) (Rs.ok (Tr.int 0)))=_;rw[o5 _ _ _ (by decide) (by decide) (by decide)]
  rfl
set_option maxHeartbeats 1000000 in
theorem yW(ns:List Int)(k:Int)(hk:0<=k){A:Ab}(hA:A[0]?=some GG){c2 c3 c4 c5 c6 c7 c8 c9 c10:Cell}:∃A' d2 d3 d4 d5 d6 d7 d8 d9 Xh,Qd [.sh (.f7 ns),.sh (.int k),c2,c3,c4,c5,c6,c7,c8,c9,c10] A=.ok (.nx [.sh (.f7 ns),.sh (.int k),d2,d3,d4,d5,d6,d7,d8,d9,Xh]) A'/\A'[0]?=some GG:=by
 obtain⟨x,ex⟩:=yQ ns k hk;obtain⟨y,ey⟩:=yQ ns 3 (by decide);obtain⟨z,ez⟩:=yQ ns 4 (by decide);obtain⟨n,hn,el⟩:=BW (x+k);have ml:(marks (x+k) n).length<=20:=by rw[eG];omega
 have sl:((marks (x+k) n).filter fun m=>decide (0<mix (y+m.2) 9511 4)).length<=20:=bp (ia _ _) ml;obtain⟨ks,em,p⟩:=Gz (x+k) (z+k) (ms:=(marks (x+k) n).filter fun m=>decide (0<mix (y+m.2) 9511 4)) sl;have nd:ks.Nodup:=p.nodup_iff.mpr (cD (xJ _ _));have sub:∀m∈ks,m∈marks (x+k) n:=fun m hm=>(bF.mp (p.mem_iff.mp hm)).1;obtain⟨H,K,Tg⟩:=S6 hn nd sub;have kl:=K.len;have al:=El (x+k) n;have l1:(jb ks (nJ (x+k)) [] ks).length<=20:=by
  have:=lP (l₂:=allB (x+k) n) (oM ks (nJ (x+k)) ks [] en) fun b hb=>by
   rcases(kU _ _ _ _).mp hb with h|⟨m,hm,h1,_⟩
   ·cases h
   ·exact Em (sub m hm) h1
  omega
 have l2:(jb [] (nJ (x+k)) [] ks).length<=20:=by
  have:=lP (l₂:=allB (x+k) n) (oM [] (nJ (x+k)) ks [] en) fun b hb=>by
   rcases(kU _ _ _ _).mp hb with h|⟨m,hm,h1,_⟩
   ·cases h
   ·exact Em (sub m hm) h1
  omega
 have l0:=cu hA;have Qc:(A++[.aE []])[0]?=some GG:=by rw[bZ l0];exact hA
 have hj:(A++[.aE []])[A.length]?=some (.aE (fD [] (BY ks))):=by rw[dJ (aA _),eY];rfl
 obtain⟨A2,d7,d8,d9,e6,h2,g2⟩:=AD (ks:=ks) (bh:=nJ (x+k)) (a0:=.sh (.f7 ns)) (a1:=.sh (.int k)) (a2:=.sh (.lst ((marks (x+k) n).map (bC (x+k))))) (a3:=.sh (.lst (((marks (x+k) n).filter fun m=>decide (0<mix (y+m.2) 9511 4)).map (bC (x+k))))) (a4:=.sh (h9 ks (nJ (x+k)))) (a10:=c10) l0 ks [] (A++[.aE []]) c7 c8 c9 K.Eb hj (by rw[dz];omega);have UJ:A2[0]?=some GG:=g2.trans Qc
 obtain⟨A3,e9,Xi⟩:=KJ (a0:=.sh (.f7 ns)) (a1:=.sh (.int k)) (a2:=.sh (.lst ((marks (x+k) n).map (bC (x+k))))) (a3:=.sh (.lst (((marks (x+k) n).filter fun m=>decide (0<mix (y+m.2) 9511 4)).map (bC (x+k))))) (j:=A.length) (a7:=d7) (a8:=d8) (a9:=d9) K UJ;obtain⟨A4,Pz,Xj⟩:=KL (a0:=.sh (.f7 ns)) (a1:=.sh (.int k)) (a2:=.sh (.lst ((marks (x+k) n).map (bC (x+k))))) (a3:=.sh (.lst (((marks (x+k) n).filter fun m=>decide (0<mix (y+m.2) 9511 4)).map (bC (x+k))))) (j:=A.length) (a7:=d7) (a8:=d8) (a9:=d9) (a10:=.sh (.lst (((cG H ks).filter (jB ks (nJ (x+k)))).map tM))) K l1 Xi;refine⟨A4,.sh (.lst ((marks (x+k) n).map (bC (x+k)))),.sh (.lst (((marks (x+k) n).filter fun m=>decide (0<mix (y+m.2) 9511 4)).map (bC (x+k)))),.sh (h9 ks (nJ (x+k))),.sh (.aE (fD ks (tB (nJ (x+k))))),.sh (.at A.length),d7,d8,d9,.sh (.lst (((cG H ks).filter (jB ks (nJ (x+k)))).map tM)),?_,Xj⟩;have e1:UE [.sh (.f7 ns),.sh (.int k),c2,c3,c4,c5,c6,c7,c8,c9,c10]=.ok (.lst ((marks (x+k) n).map (bC (x+k)))):=by
  show aC gj (ag (cx hJ (fw [.f7 ns,.int k]) (.ok (.int k))) (ag (Rs.ok (Tr.int 9)) (Rs.ok [])))=_;rw[ex];exact el
 have r1:List.set [Cell.sh (.f7 ns),.sh (.int k),c2,c3,c4,c5,c6,c7,c8,c9,c10] 2 (.sh (.lst ((marks (x+k) n).map (bC (x+k)))))=[.sh (.f7 ns),.sh (.int k),.sh (.lst ((marks (x+k) n).map (bC (x+k)))),c3,c4,c5,c6,c7,c8,c9,c10]:=rfl;have r2:∀t,List.set [Cell.sh (.f7 ns),.sh (.int k),.sh (.lst ((marks (x+k) n).map (bC (x+k)))),c3,c4,c5,c6,c7,c8,c9,c10] 3 t=[.sh (.f7 ns),.sh (.int k),.sh (.lst ((marks (x+k) n).map (bC (x+k)))),t,c4,c5,c6,c7,c8,c9,c10]:=fun _=>rfl;have r3:∀s t,List.set [Cell.sh (.f7 ns),.sh (.int k),.sh (.lst ((marks (x+k) n).map (bC (x+k)))),s,c4,c5,c6,c7,c8,c9,c10] 4 t=[.sh (.f7 ns),.sh (.int k),.sh (.lst ((marks (x+k) n).map (bC (x+k)))),s,t,c5,c6,c7,c8,c9,c10]:=fun _ _=>rfl;have r4:∀s q t,List.set [Cell.sh (.f7 ns),.sh (.int k),.sh (.lst ((marks (x+k) n).map (bC (x+k)))),s,q,c5,c6,c7,c8,c9,c10] 5 t=[.sh (.f7 ns),.sh (.int k),.sh (.lst ((marks (x+k) n).map (bC (x+k)))),s,q,t,c6,c7,c8,c9,c10]:=fun _ _ _=>rfl;have r5:∀s q u t,List.set [Cell.sh (.f7 ns),.sh (.int k),.sh (.lst ((marks (x+k) n).map (bC (x+k)))),s,q,u,c6,c7,c8,c9,c10] 6 t=[.sh (.f7 ns),.sh (.int k),.sh (.lst ((marks (x+k) n).map (bC (x+k)))),s,q,u,t,c7,c8,c9,c10]:=fun _ _ _ _=>rfl;have e3:UG [.sh (.f7 ns),.sh (.int k),.sh (.lst ((marks (x+k) n).map (bC (x+k)))),.sh (.lst (((marks (x+k) n).filter fun m=>decide (0<mix (y+m.2) 9511 4)).map (bC (x+k)))),c4,c5,c6,c7,c8,c9,c10]=.ok (h9 ks (nJ (x+k))):=by
  show aC ja (ag (.ok (.lst (((marks (x+k) n).filter fun m=>decide (0<mix (y+m.2) 9511 4)).map (bC (x+k))))) (ag (cx hJ (fw [.f7 ns,.int 4]) (.ok (.int k))) (Rs.ok [])))=_;rw[ez];exact em
 have e4:UH [.sh (.f7 ns),.sh (.int k),.sh (.lst ((marks (x+k) n).map (bC (x+k)))),.sh (.lst (((marks (x+k) n).filter fun m=>decide (0<mix (y+m.2) 9511 4)).map (bC (x+k)))),.sh (h9 ks (nJ (x+k))),c5,c6,c7,c8,c9,c10]=.ok (.aE (fD ks (tB (nJ (x+k))))):=nC (tB (nJ (x+k))) K.nd (by omega);have dn:dW (Rs.ok (Tr.aE [])) A=.ok (.at A.length) (A++[.aE []]):=rfl;unfold Qd;rw[e1,fz,dU,r1,KN ey ml,fz,dU,r2,e3,fz,dU,r3,e4,fz,dU,r4,dn,dU,r5];have dw:ai (iU (ar [Cell.sh (.f7 ns),.sh (.int k),.sh (.lst ((marks (x+k) n).map (bC (x+k)))),.sh (.lst (((marks (x+k) n).filter fun m=>decide (0<mix (y+m.2) 9511 4)).map (bC (x+k)))),.sh (h9 ks (nJ (x+k))),.sh (.aE (fD ks (tB (nJ (x+k))))),.sh (.at A.length),c7,c8,c9,c10] 4)) (A++[.aE []])=.ok (ks.map fun m=>.tup [tM m,tB (nJ (x+k)) m]) (A++[.aE []]):=rfl;rw[dw,xO,e6,vJ];have c1:=KH (A:=A2) (j:=A.length) (a0:=.sh (.f7 ns)) (a1:=.sh (.int k)) (a2:=.sh (.lst ((marks (x+k) n).map (bC (x+k))))) (a3:=.sh (.lst (((marks (x+k) n).filter fun m=>decide (0<mix (y+m.2) 9511 4)).map (bC (x+k))))) (a7:=d7) (a8:=d8) (a9:=d9) (a10:=c10) K l1 l2 h2;have UK:=KI (A:=A2) (j:=A.length) (a0:=.sh (.f7 ns)) (a1:=.sh (.int k)) (a2:=.sh (.lst ((marks (x+k) n).map (bC (x+k))))) (a3:=.sh (.lst (((marks (x+k) n).filter fun m=>decide (0<mix (y+m.2) 9511 4)).map (bC (x+k))))) (a7:=d7) (a8:=d8) (a9:=d9) (a10:=c10) K Tg UJ;unfold vP at c1 UK e9 Pz;have r6:∀t,List.set [Cell.sh (.f7 ns),.sh (.int k),.sh (.lst ((marks (x+k) n).map (bC (x+k)))),.sh (.lst (((marks (x+k) n).filter fun m=>decide (0<mix (y+m.2) 9511 4)).map (bC (x+k)))),.sh (h9 ks (nJ (x+k))),.sh (.aE (fD ks (tB (nJ (x+k))))),.sh (.at A.length),d7,d8,d9,c10] 10 t=[.sh (.f7 ns),.sh (.int k),.sh (.lst ((marks (x+k) n).map (bC (x+k)))),.sh (.lst (((marks (x+k) n).filter fun m=>decide (0<mix (y+m.2) 9511 4)).map (bC (x+k)))),.sh (h9 ks (nJ (x+k))),.sh (.aE (fD ks (tB (nJ (x+k))))),.sh (.at A.length),d7,d8,d9,t]:=fun _=>rfl;rw[c1,fz,yV,vJ,UK,dU,r6,e9,yV,vJ,Pz,yV]
theorem OX:pJ [] (fun _=>[]) (fun _=>0):=⟨en,by decide,fun _ h=>(by cases h),fun _ h=>(by cases h),fun _ h=>(by cases h),fun _ h=>(by cases h),fun _ h=>(by cases h),fun _ h=>(by cases h)⟩
theorem OY(ns:List Int):∃A',uC [.f7 ns] TB=.ok (.bl true) A':=by
 obtain⟨A1,a2,a3,a4,a5,a6,a7,a8,a9,a10,e0,h1⟩:=yW ns 0 (by decide) (A:=TB) rfl (c2:=.no) (c3:=.no) (c4:=.no) (c5:=.no) (c6:=.no) (c7:=.no) (c8:=.no) (c9:=.no) (c10:=.no);obtain⟨A2,b2,b3,b4,b5,b6,b7,b8,b9,UL,e1,h2⟩:=yW ns 1 (by decide) h1 (c2:=a2) (c3:=a3) (c4:=a4) (c5:=a5) (c6:=a6) (c7:=a7) (c8:=a8) (c9:=a9) (c10:=a10);obtain⟨A3,c2,c3,c4,c5,c6,c7,c8,c9,c10,e2,h3⟩:=yW ns 2 (by decide) h2 (c2:=b2) (c3:=b3) (c4:=b4) (c5:=b5) (c6:=b6) (c7:=b7) (c8:=b8) (c9:=b9) (c10:=UL);obtain⟨A4,e4,_⟩:=vI OX h3;refine⟨A4,?_⟩;have or:(cG (fun _=>0) []).filter (jB [] fun _=>[])=[]:=by
  have:cG (fun _=>0) []=[]:=kH.mp (nH (H:=fun _=>0) []);rw[this];rfl
 rw[or]at e4;have lk:cz [.tup []]=.ok (.tup []):=by
  have h:=oN OX (by show 0<=20;decide);have:(jb [] (fun _=>[]) [] []).mergeSort lM=[]:=by
   have z:=(dv (jb [] (fun _=>[]) [] []) lM).length_eq;exact kH.mp z
  rw[this]at h;exact h
 show fk (Af.1 [.sh (.f7 ns),.no,.no,.no,.no,.no,.no,.no,.no,.no,.no] TB)=_;rw[KG];show fk (bH (fK (gN 1) Qd [.int 0,.int 1,.int 2] [.sh (.f7 ns),.no,.no,.no,.no,.no,.no,.no,.no,.no,.no] TB) KD)=_;rw[pI (ρ1:=[.sh (.f7 ns),.sh (.int 0),.no,.no,.no,.no,.no,.no,.no,.no,.no]) rfl e0,pI (ρ1:=[.sh (.f7 ns),.sh (.int 1),a2,a3,a4,a5,a6,a7,a8,a9,a10]) rfl e1,pI (ρ1:=[.sh (.f7 ns),.sh (.int 2),b2,b3,b4,b5,b6,b7,b8,b9,UL]) rfl e2];rw[fK,vJ];unfold KD;have q1:cx nN (aC cz (ag (fB (Rs.ok [])) (Rs.ok []))) (fB (Rs.ok []))=.ok (.bl true):=by
  show cx nN (cz [.tup []]) (.ok (.tup []))=_;rw[lk]
  rfl
 have q2:pA nN ((cb (ai (fB (Rs.ok [])) A3) fun A=>Rz.ok [] A).bind jo) (fun A=>ai (fB (Rs.ok [])) A)=.ok (.bl true) A4:=by
  have:(cb (ai (fB (Rs.ok [])) A3) fun A=>Rz.ok [] A)=.ok [h9 [] fun _=>[]] A3:=rfl;rw[this,jr,e4]
  rfl
 rw[q1,fz];show fk (hW (pA nN ((cb (ai (fB (Rs.ok [])) A3) fun A=>Rz.ok [] A).bind jo) (fun A=>ai (fB (Rs.ok [])) A)))=_;rw[q2]
 rfl
end kD
namespace kD
open PySem L2
def O:Ln:=⟨["all","bool","dict","int","isinstance","len","list","max","range","set","sorted","str","tuple","zip"],[],[],[],[],[],[],[],[]⟩
set_option maxHeartbeats 8000000 in
theorem all_mk{l:PySem.W.OpenLaw}{w:World}{K:PySem.W.Frag}{h:Heap}{mg:Str->Option Value}{fa tc tP:Addr}(X:K.In h)(G:h.Ns mainGlobals mg)(Xk:mg "law"=some (.ref fa))
  (c1:DS.map (Df.fd K)=DS.map (fun d=>d.re (d.fd K))) (c2:DS.all (Df.HK K)=true) (c3:O.HK K=true) (t1:PySem.W.tabIn K "order"=some (tc,tP)) (t2:BL K tc tP=true)
  :∃fd:FuncData,(∀(s:Shared) (v:Value),BindsTo s fd ⟨[v],[]⟩ [("_law_script",v)])/\∀base:Heap,K.In base->base.Ns mainGlobals mg->f6 l.prog w K mg base (pR l.prog w) 14 fa fd ["_law_script"] (vb K uC):=by
 have o:=O.ok X G c3;have T:Gr K w mg tc tP:=⟨fun i d e=>D5 X G c1 c2 d (bM e),o.bl rfl,o.bl rfl,o.bl rfl,o.bl rfl,o.bl rfl,o.bl rfl,o.bl rfl,o.bl rfl,o.bl rfl,o.bl rfl,o.bl rfl,o.bl rfl,o.bl rfl,o.bl rfl,⟨t1,t2⟩⟩;cases Xk.symm.trans ((T.d 11 rfl:oZ.Ok K mg).m0 rfl);obtain⟨oc,od,kV,doc,pm,an,cX,ct,y9,e9,_,_⟩:=(T.d 11 rfl:oZ.Ok K mg).fn.ex;exact⟨_,fun s v=>by rw[e9];exact .of_eq rfl,fun base _ _=>(OG T).ok⟩
theorem KO{K:PySem.W.Frag}{H:Hp}{E:XK}{a tc tP:Addr}{ns:List Int}(t1:PySem.W.tabIn K "order"=some (tc,tP))(hT:H tP=some (.vK #[.str "order.<locals>.<lambda>" 0])) (hS:iN K H a (ns.map V.int)):vb K uC [.ref a] H (fun v _=>v=.bl true) E:=by
 let B:bP:=⟨fun b=>b==tP,fun b=>if b=tP then some 0 else none⟩
 have J':iN K (aQ B H).H a (ns.map V.int):=by
  rcases hS with h|h
  ·refine .inl ?_
   have fA:a≠tP:=fun z=>by
    subst z;rcases h with h|⟨o,h⟩
    ·rw[hT]at h;cases h
    ·rw[hT]at h;cases h
   have e:(aQ B H).H a=H a:=by
    show(if(a==tP)=true then none else H a)=_;rw[ae (by simpa using fA)]
   rcases h with h|⟨o,h⟩
   ·exact .inl (by rw[e];exact h)
   ·exact .inr ⟨o,by rw[e];exact h⟩
  ·exact .inr h
 refine⟨B,TB,[.f7 ns],⟨fun b e=>?_,fun i o e=>?_,fun a b i h1 h2=>?_,fun a i h=>?_⟩,.cons (.f7 J') .nil,?_⟩
 ·have e:b=tP:=by simpa[B]using e
  subst e;exact⟨_,hT,fun vs z=>by cases z⟩
 ·match i,e with
  |0,e=>
   cases e;exact⟨tP,ab rfl,bD _,⟨tc,t1⟩,hT⟩
  |i+1,e=>cases e
 ·have h1:(if a=tP then some 0 else none)=some i:=h1;have h2:(if b=tP then some 0 else none)=some i:=h2;split at h1
  ·split at h2
   ·rename_i x y;rw[x,y]
   ·cases h2
  ·cases h1
 ·have h:(if a=tP then some 0 else none)=some i:=h;split at h
  ·cases h;exact Nat.zero_lt_one
  ·cases h
 ·obtain⟨A9,e9⟩:=OY ns;rw[e9];exact fun v B' H' _ _ r=>r.rq
theorem walk{l:PySem.W.OpenLaw}{q:Program}{loose:List Str}{XP:(Str->Option Value)->Heap->Prop}{YP:World->Heap->Prop}{d:DefRec}{K:Params->PySem.W.Frag}{tc tP:Addr}(hn:l.most=some 63)(Mb:d.params.defaults=[])
  (hY:∀(w:World) (h:Heap),YP w h->(K w.params).In h) (hP:∀(w:World) (h:Heap),YP w h->h.get? tP=some (PySem.W.tabObj #[])) (IL:∀w:World,(K w.params).lookup tP=none) (t1:∀w:World,PySem.W.tabIn (K w.params) "order"=some (tc,tP)) (t2:∀w:World,BL (K w.params) tc tP=true)
  (F:∀(w:World) (mg:Str->Option Value) (fa:Addr) (h:Heap),(K w.params).In h->h.Ns mainGlobals mg->mg d.name=some (.ref fa)->
   ∃fd:FuncData,(∀(s:Shared) (u:Value),BindsTo s fd ⟨[u],[]⟩ [("_law_script",u)])/\∀base:Heap,(K w.params).In base->base.Ns mainGlobals mg->f6 l.prog w (K w.params) mg base (pR l.prog w) 14 fa fd ["_law_script"] (vb (K w.params) uC)):
  PySem.W.WalkO q loose XP YP l.row.toRowW d [] (fun f vs=>PySem.call f vs):=
 L2.E5 (n:=63) (k:=14) (x:="_law_script") (tc:=tc) (tP:=tP) (tq:="order.<locals>.<lambda>") (CX:=fun w=>pR l.prog w) (sp:=fun w=>vb (K w.params) uC) hn (by decide) Mb ⟨rfl,by decide,by decide⟩ hY (fun w h Y=>DW (hY w h Y) (t2 w)) hP IL F (fun w _ a ns hl hT hS=>KO (t1 w) hT hS) fun _ _ _ _ _ ⟨_,_,_,_,_,_,_,_,_,z⟩=>z
end kD
open PySem PySem.W PyProof.Rows
set_option maxRecDepth 100000 in
set_option maxHeartbeats 0 in
theorem PySem.Challenge.cw_talkhall_k33_lacking_and_ready_holds : PySem.Challenge.rw_talkhall_k33_lacking_and_ready.Holds := by
 w_on;o_law;k_head;(case hw=>w_witness2)
 k_fill
 refine kD.walk (l:=PySem.Challenge.rw_talkhall_k33_lacking_and_ready) (tc:=30) rfl rfl (fun w h Y=>PySem.W.km_in_of Y) (fun w h Y=>PySem.W.km_tabs_of Y _ (cv.mpr rfl)) ?IL ?t1 ?t2 ?F
 case t1=>intro w;kernel_rfl
 case t2=>intro w;first|k_is|kernel_rfl
 case IL=>intro w;first|k_is|kernel_rfl
 case F=>
  intro w mg fa h KX G Mc
  refine' kD.all_mk (tc:=30) (tP:=26) KX G Mc ?_ ?_ ?_ ?_ ?_
  all_goals first|k_is|kernel_rfl|skip
