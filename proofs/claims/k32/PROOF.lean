import PyProof.Rows.All
import Wide.All
import OpenK.AllK
import Wide.FinOn
import Lean
import PyProof.EqAt
import PyProof.EqKinds
import PyProof.TupleCall
import KE.KLam
import PyProof.ExcArgsOwn
import PyProof.AttrMissSeq
import KE.KMinKey
import KE.KBoundM
import KE.KSortTup
import KE.KItemsList
import PyProof.ListRange
import PyProof.TupleIter
import PyProof.TupleOfSeq
import KE.KSortKey
import PySem.Challenge.RW_talkhall_k32_whole_one_order
set_option Elab.async false
set_option linter.all false
set_option maxRecDepth 100000
set_option maxHeartbeats 4000000
def aa:=@PySem.wpAny_bind
def aB:=@PySem.Heap.get?_push_of_some
def ai:=@List.length_map
def aF:=@List.getElem?_eq_getElem
def af:=@PySem.wpAny_pure
def aW:=@List.mem_cons_of_mem
def aT:=@PySem.Heap.get?_push_size
def bH:=@List.getD_eq_getElem?_getD
def ab:=@if_pos
def aU:=@List.getElem?_map
def aw:=@PySem.Heap.lt_size
def aM:=@List.mem_cons_self
def aA:=@List.map_cons
def ar:=@Nat.le_refl
def aK:=@Bool.and_eq_true
def ae:=@if_neg
def bc:=@List.size_toArray
def bj:=@List.length_append
def cj:=@Array.getD_eq_getD_getElem?
def aY:=@decide_eq_false
def aP:=@List.mem_cons
def ck:=@List.getElem?_append_left
def bJ:=@List.mem_of_getElem?
def bx:=@Nat.lt_of_lt_of_le
def bK:=@Array.length_toList
def aQ:=@List.mem_map
def bp:=@List.length_cons
def aS:=@Nat.ne_of_lt
def bz:=@beq_self_eq_true
def bM:=@of_decide_eq_true
def bV:=@Bool.false_eq_true
def bF:=@List.all_eq_true
def cH:=@Array.getElem?_eq_getElem
def bA:=@decide_eq_true
def cX:=@List.getElem?_eq_some_iff
def cw:=@List.getElem?_set_ne
def cn:=@List.mem_singleton
def bR:=@List.mem_filter
def bq:=@List.map_map
def cI:=@Array.getElem?_toList
def bt:=@Nat.le_trans
def cz:=@Bool.false_ne_true
def d_:=@List.getElem?_append_right
def cJ:=@List.mergeSort_perm
def bG:=@Nat.zero_le
def cK:=@decide_eq_true_eq
def ef:=@List.getElem?_set_self
def cL:=@List.lookup_cons
def bS:=@PySem.sizeLine_eq
def eB:=@List.mem_append_right
def cM:=@PySem.W.kia_one
def cp:=@Nat.ne_of_gt
def eC:=@PySem.Around.under_plainId
def eD:=@List.map_congr_left
def cY:=@List.map_append
def cN:=@List.mem_range
def cA:=@Nat.lt_irrefl
def dN:=@Int.toNat_natCast
def eE:=@PySem.Heap.SameBut.update
def dv:=@PySem.wpAny_call_entry
def cB:=@PySem.wpAny_holding
def dw:=@List.append_nil
def dy:=@List.nodup_cons
def dz:=@List.find?_cons
def bB:=@congrArg
def bC:=@if_false
def eG:=@PySem.wpAny_newObj_type
def eJ:=@PySem.wpAny_setState_of
def dO:=@List.length_nil
def dP:=@beq_false_of_ne
def gS:=@PySem.wpAny_callSpecial?_slot
def eK:=@List.not_mem_nil
def fB:=@PySem.wpAny_setField_rec
def dA:=@PySem.wpAny_seqItems
def dQ:=@PySem.codeAny_builtin
def f':=@PySem.mem_of_lookup
def gU:=@PySem.Heap.get?_update_other
def eM:=@List.mem_append
def iN:=@PySem.F.slot_list_append
def dB:=@PySem.plainId_quiet
def iO:=@List.pairwise_mergeSort
def gb:=@List.length_range
def gc:=@Nat.le_of_lt_succ
def j3:=@List.Perm.eq_of_pairwise
def j4:=@PySem.F.type_list_append
def gV:=@List.append_assoc
def iP:=@List.replicate_succ
def j5:=@PySem.F.plain_max_loop
def lb:=@List.idxOf_lt_length_of_mem
def fE:=@List.all_cons
def lg:=@PySem.F.slot_dict_keyiterator_next
def b_:=@Ne.symm
def j6:=@List.length_singleton
def j7:=@List.contains_iff_mem
def dR:=@PySem.wpAny_field
def lh:=@List.drop_eq_getElem_cons
def dC:=@PySem.wpAny_mono
def iQ:=@PySem.tupleKind_room_in1
def j8:=@PySem.Heap.get?_update_self
def j9:=@List.filterMap_cons
def fJ:=@PySem.wpAny_ite_split
def gp:=@List.getElem_inj
def gq:=@List.getElem_map
def gr:=@List.filter_cons
def fK:=@PySem.Heap.size_push
def gs:=@List.length_set
def je:=@List.length_filter_le
def hX:=@List.flatten_cons
def hZ:=@bne_self_eq_false
def h8:=@List.getElem?_set
def h9:=@Nat.lt_succ_of_lt
def lp:=@PySem.wpAny_typeNameOfWhole_keyiter
def h_:=@List.nodup_append
def ia:=@List.pairwise_map
def jf:=@List.mem_append_left
def gv:=@PySem.wpAny_passesOwn
def jg:=@List.getElem?_of_mem
def lq:=@Array.getElem?_eq_none_iff
def fL:=@Nat.le_of_lt
def ib:=@List.getElem_mem
def ic:=@PySem.wpAny_pyIter_list
def ie:=@PySem.PassesOwn.leaving
def lr:=@List.getElem?_eq_none_iff
def jh:=@PySem.Heap.get?_none_of_le
def gw:=@List.any_cons
def lu:=@PySem.F.slot_tuple_iterator_next
def ji:=@List.mem_filterMap
def fM:=@PySem.codeAny_mono
def ig:=@PySem.wpAny_forIn_list
def fN:=@PySem.F.called_set
def ly:=@List.getElem?_replicate
def lz:=@PySem.F.plain_list_iadd
def ij:=@List.nodup_nil
def dh:=@or_false
def gx:=@PySem.wpAny_attempt
def lA:=@PySem.wpAny_typeNameOf_keyiter
def gy:=@Nat.sub_self
def ik:=@PySem.PassesOwn.never
def jj:=@PySem.Calls.spliced_cons
def jk:=@PySem.wpAny_Call_Name_kw
def eO:=@PySem.wpAny_rule
def lB:=@List.length_replicate
def jl:=@List.drop_length
def jm:=@Nat.le_add_right
def jn:=@Nat.lt_succ_self
def oV:=@List.Nodup.length_le_of_subset
def il:=@Bool.not_true
def lC:=@PySem.W.hideAll_none
def jo:=@PySem.wpAny_truthy_bool
def gz:=@Nat.le_succ
def ip:=@PySem.wpAny_fieldsOf
def lD:=@PySem.W.hideAll_get
def lE:=@PySem.builtinLookup_eq_fast
def oW:=@PyProof.Rows.callWith_type1
def jq:=@PySem.wpAny_isInstance
def lF:=@PySem.wpAny_loadName_local
def gA:=@Nat.mod_lt
def oX:=@List.length_eraseIdx_of_lt
def gB:=@PySem.wpAny_letGo
def oY:=@List.perm_ext_iff_of_nodup
def lG:=@Array.forIn_toList
def oZ:=@PySem.F.slot_dict_getitem
def o4:=@List.pairwise_iff_getElem
def jr:=@PySem.wpAny_updateSeq
def lH:=@PySem.W.kitx_dict
def o5:=@Option.isSome_iff_exists
def o6:=@PySem.F.args_tuple_add_2
def iq:=@PySem.wpAny_typeOf
def gC:=@PySem.wpAny_Name
def o7:=@PySem.F.entry_tuple_add
def gD:=@PySem.call_meets
def lI:=@PySem.wpAny_pyIter_tuple
def js:=@PySem.wpAny_setField
def lJ:=@PySem.Obj.data_mapFields
def ir:=@PyProof.Rows.listUpdate_at
def lK:=@PySem.W.kat_cons
def o8:=@List.length_eq_zero_iff
def o9:=@PySem.F.slot_tuple_add
def jt:=@Bool.true_or
def iu:=@beq_iff_eq
def o_:=@PySem.F.slot_tuple_getattribute
def ju:=@Nat.zero_add
def jv:=@Nat.succ_pos
def pf:=@List.filter_eq_nil_iff
def lL:=@PySem.Calls.spliced_nil
def lM:=@List.nil_append
def lN:=@PySem.W.kia_tup
def jw:=@PyProof.Rows.get?_update_seq
def ph:=@PySem.F.slot_dict_get
def pj:=@PySem.F.slot_list_getattribute
def jx:=@PySem.wpAny_newList
def lO:=@PySem.wpAny_eqBool_int
def pk:=@PySem.wpAny_pyNext_tuple_item
def pq:=@Array.mem_toList_iff
def lP:=@Bool.and_false
def lQ:=@PySem.W.kat_no
def fO:=@if_true
def pz:=@PySem.Calls.callWith_builtin
def pA:=@List.length_zipWith
def pB:=@PySem.SetTable.insertAt_perm
def lR:=@PySem.wpAny_execs_nil
def lS:=@Bool.or_false
def lT:=@Bool.false_or
def lU:=@PySem.typeLookup_type
def lV:=@PySem.F.slot_zip_next
def pC:=@PySem.W.of_hideAll
def pF:=@PySem.wpAny_isOneOf_keyiter
def pG:=@Int.emod_lt_of_pos
def vl:=@List.findIdx?_eq_some_iff_getElem
def pH:=@PySem.W.kitx_list
def pI:=@PySem.Calls.evalArgs_plain
def lW:=@PySem.isSubtype_stop
def pJ:=@Array.toList_push
def lX:=@PySem.wpAny_newTuple
def lY:=@Nat.sub_zero
def lZ:=@PySem.wpAny_tryCatch
def pK:=@Nat.lt_succ_of_le
def pL:=@List.ext_getElem?
def pM:=@PyProof.Rows.F.plain_set_update_loop
def pN:=@PySem.wpAny_loadName_cell
def pO:=@List.length_take
def pP:=@Nat.le_of_not_lt
def pQ:=@List.range'_succ
def pR:=@List.nodup_range
def pS:=@List.mem_flatMap
def jy:=@PySem.wpAny_load
def pT:=@List.of_mem_zip
def pU:=@List.forIn_cons
def pV:=@Nat.not_lt_zero
def pW:=@Nat.max_eq_left
def pX:=@Int.emod_nonneg
def pY:=@Bool.or_eq_true
def vm:=@PySem.F.plain_proto_collect
def pZ:=@Bool.not_false
def p7:=@PySem.wpAny_pyIter_slot
def vn:=@Array.perm_iff_toList_perm
def p8:=@PySem.wpAny_dictEntries
def vo:=@Array.getElem?_eq_some_iff
def jz:=@Prod.ext
namespace L2
open PySem PySem.Spec PyProof.Rows
abbrev Key:=Sum Int Str
def l0:Key->Value->Bool
 |.inl k,v=>Value.isInt k v
 |.inr x,v=>Value.isStrOf x v
def P6(w:World):Key->Int
 |.inl k=>hashInt k
 |.inr x=>hashStr w x
theorem cx:∀{k:Key} {v:Value},l0 k v=true->(∃i t,k=Sum.inl i/\v=Value.int i t)\/(∃x t,k=Sum.inr x/\v=Value.str x t)
 |.inl i,v,h=>by
  obtain⟨t,e⟩:=Value.isInt_shape (k:=i) (v:=v) h;exact .inl ⟨i,t,rfl,e⟩
 |.inr x,v,h=>by
  obtain⟨t,e⟩:=Value.isStrOf_shape (x:=x) (v:=v) h;exact .inr ⟨x,t,rfl,e⟩
theorem Ac(i:Int)(t:Tok):l0 (.inl i) (.int i t)=true:=by simp[l0,Value.isInt]
theorem Ad(x:Str)(t:Tok):l0 (.inr x) (.str x t)=true:=by simp[l0,Value.isStrOf]
theorem Hg(a b:Int):decide ((Sum.inl a:Key)=Sum.inl b)=(a==b):=by
 by_cases e:a=b
 ·subst e;simp
 ·have h:¬(Sum.inl a:Key)=Sum.inl b:=fun q=>e (Sum.inl.inj q);rw[aY h];exact(beq_eq_false_iff_ne.mpr e).symm
theorem Hh(a b:Str):decide ((Sum.inr a:Key)=Sum.inr b)=decide (a=b):=by
 by_cases e:a=b
 ·subst e;simp
 ·have h:¬(Sum.inr a:Key)=Sum.inr b:=fun q=>e (Sum.inr.inj q);rw[aY h,aY e]
theorem Hi(a:Int)(b:Str):decide ((Sum.inl a:Key)=Sum.inr b)=false:=aY (fun q=>nomatch q)
theorem Hj(a:Str)(b:Int):decide ((Sum.inr a:Key)=Sum.inl b)=false:=aY (fun q=>nomatch q)
def ax(prog:Program)(w:World):PySem.KeyKind prog w Key where
 is:=l0
 hash:=P6 w
 inj:=fun v a b ha hb=>by
  rcases cx ha with⟨i,t,rfl,rfl⟩|⟨x,t,rfl,rfl⟩
  ·rcases cx hb with⟨j,u,rfl,e⟩|⟨y,u,rfl,e⟩
   ·injection e with e1 _;rw[e1]
   ·exact nomatch e
  ·rcases cx hb with⟨j,u,rfl,e⟩|⟨y,u,rfl,e⟩
   ·exact nomatch e
   ·injection e with e1 _;rw[e1]
 byValue:=fun k v h=>by
  rcases cx h with⟨i,t,rfl,rfl⟩|⟨x,t,rfl,rfl⟩<;>rfl
 pyHash:=fun hv h=>by
  rcases cx hv with⟨i,t,rfl,rfl⟩|⟨x,t,rfl,rfl⟩
  ·exact wpAny_pyHash_int h
  ·exact wpAny_pyHash_str h
 eqBool:=fun hu hv h=>by
  rcases cx hu with⟨i,t,rfl,rfl⟩|⟨x,t,rfl,rfl⟩
  ·rcases cx hv with⟨j,u,rfl,rfl⟩|⟨y,u,rfl,rfl⟩
   ·rw[Hg]at h;exact lO h
   ·rw[Hi]at h;exact SeqAt.EqAt.int_str i t y u _ _ _ _ h
  ·rcases cx hv with⟨j,u,rfl,rfl⟩|⟨y,u,rfl,rfl⟩
   ·rw[Hj]at h;exact SeqAt.EqAt.str_int x t j u _ _ _ _ h
   ·rw[Hh]at h;exact wpAny_eqBool_str h
 «strs»:=fun k x t v h=>by
  rcases cx h with⟨i,u,rfl,e⟩|⟨y,u,rfl,e⟩
  ·exact nomatch e
  ·injection e with e1 _
   subst e1;cases v<;>rfl
theorem vp(prog:Program)(w:World)(i:Int)(t:Tok):(ax prog w).is (.inl i) (.int i t)=true:=Ac i t
theorem vq(prog:Program)(w:World)(x:Str)(t:Tok):(ax prog w).is (.inr x) (.str x t)=true:=Ad x t
end L2
namespace L2
open PySem PySem.Spec PyProof.Rows
inductive V where
 |cg|bl (b:Bool)|int (i:Int)|str (x:Str)|Hk (b:Array UInt8)|F7 (b:UInt64)|ref (a:Addr)|ty (n:String)
 deriving DecidableEq
def RelV:V->Value->Prop
 |.cg,u=>u=Value.none
 |.bl b,u=>u=Value.bool b
 |.int i,u=>∃t,u=Value.int i t
 |.str x,u=>∃t,u=Value.str x t
 |.Hk b,u=>∃t,u=Value.bytes b t
 |.F7 b,u=>∃t,u=Value.float b t
 |.ref a,u=>u=Value.ref a
 |.ty n,u=>u=Value.type n
abbrev Vals:List V->List Value->Prop:=Paired RelV
theorem Vals.length {xs:List V}{us:List Value}(r:Vals xs us):xs.length=us.length:=Paired.length r
theorem Vals.get:∀{xs:List V} {us:List Value} {i:Nat} {x:V},Vals xs us->xs[i]?=some x->∃u,us[i]?=some u/\RelV x u
 |_,_,_,_,.nil,e=>by simp at e
 |_,_,0,_,.cons r _,e=>by simp at e;subst e;exact⟨_,rfl,r⟩
 |_,_,i+1,x,.cons _ t,e=>by
  obtain⟨u,h1,h2⟩:=Vals.get (i:=i) (x:=x) t (by simpa using e);exact⟨u,by simpa using h1,h2⟩
theorem Vals.set {x:V}{u:Value}(r:RelV x u):∀{xs:List V} {us:List Value} (i:Nat),Vals xs us->Vals (xs.set i x) (us.set i u)
 |_,_,_,.nil=>.nil
 |_,_,0,.cons _ t=>.cons r t
 |_,_,i+1,.cons q t=>.cons q (Vals.set r i t)
theorem Vals.append:∀{xs ys:List V} {us ws:List Value},Vals xs us->Vals ys ws->Vals (xs++ys) (us++ws)
 |_,_,_,_,.nil,s=>s
 |_,_,_,_,.cons r t,s=>.cons r (Vals.append t s)
def mT:Option V->Option Value->Prop
 |some v,some u=>RelV v u
 |none,none=>True
 |_,_=>False
def KV{κ:Type}:List (κ×V)->List (κ×Value)->Prop:=Paired fun(p:κ×V) (q:κ×Value)=>p.1=q.1/\RelV p.2 q.2
def kV:Key->V
 |.inl i=>.int i
 |.inr x=>.str x
inductive HO where
 |lst (xs:List V)
 |tup (xs:List V)
 |dK (av:List (Key×V))|dT (av:List (List Key×V))
 |set (S:Int->Bool) (n:Nat)
 |ins (C dx:Addr) (fs:List (Str×V))
 |own (x:Addr)
 |xd (fs:List (Str×V))
 |met (f x:Addr)
 |OL (lo hi:Int)
 |fP (o:Obj) (u:HO)
 |vb (ps:Array Value)
 |ext (φ:Heap->Prop)
abbrev Hp:=Addr->Option HO
def upd(H:Hp)(a:Addr)(o:HO):Hp:=fun b=>if b=a then some o else H b
theorem aH{H:Hp}{a:Addr}{o:HO}:upd H a o a=some o:=by unfold upd;rw[ab rfl]
theorem ah{H:Hp}{a b:Addr}{o:HO}(h:b≠a):upd H a o b=H b:=by unfold upd;rw[ae h]
theorem Lc{H:Hp}{a b:Addr}{o u:HO}(h:H a=some o)(h':H b=some u)(d:o≠u):a≠b:=by
 intro e;subst e;rw[h]at h';exact d (Option.some.inj h')
theorem aL{H:Hp}{a b:Addr}{o:HO}(h:H a=some o)(h':H b=none):a≠b:=by
 intro e;subst e;rw[h]at h';cases h'
section
variable (P:Program)(w:World)
def kD(h:Heap)(a:Addr)(items:Array Value):Prop:=∃o,h.get? a=some o/\o.cls=.type "tuple"/\∃n,o.data=.seq items n/\o.dict=none
theorem kD.tup {h:Heap}{a:Addr}{items:Array Value}(x:kD h a items):IsTup h a items:=let⟨o,h1,h2,n,h3,_⟩:=x;⟨o,h1,h2,n,h3⟩
theorem kD.new (h:Heap)(items:Array Value):kD (h.push {cls:=.type "tuple",data:=.seq items}) h.objs.size items:=⟨_,aT _ rfl,rfl,_,rfl,rfl⟩
def bu(H:Hp)(h:Heap)(a:Addr):HO->Prop
 |.lst xs=>xs.length<=sizeLine/\∃(aV:List Value) (n:Nat),Vals xs aV/\h.get? a=some {cls:=.type "list",data:=.seq aV.toArray n}
 |.tup xs=>xs.length<=sizeLine/\∃aV:List Value,Vals xs aV/\kD h a aV.toArray
 |.dK av=>av.length<=sizeLine/\(a==sysModules)=false/\∃vs,KV av vs/\h.DictOf (ax P w) a vs
 |.dT av=>av.length<=sizeLine/\(a==sysModules)=false/\∃xs:List (List Key×Addr×Value),
   Paired (fun(p:List Key×V) (q:List Key×Addr×Value)=>p.1=q.1/\H q.2.1=some (.tup (p.1.map kV))/\RelV p.2 q.2.2) av xs/\
   ∃o es ep,h.get? a=some o/\o.ExactDict/\o.data=.dict es ep/\es.toList=xs.map (entryOfKey (tupleKind (ax P w)))/\(xs.map (·.1)).Nodup
 |.set S n=>h.SetOf (intKind P w) a S n
 |.ins C dx fs=>H dx=some (.own a)/\fs.length<=1000/\dx≠a/\h.get? a=some (PySem.W.instObj C dx)/\
   ∃mA,h.Ns1 dx mA/\(∀f,mT (fs.lookup f) (mA f))/\PySem.Within mA (fs.map (·.1))
 |.own _=>∃o,h.get? a=some o
 |.xd fs=>∃mA,h.Ns1 a mA/\∀f,mT (fs.lookup f) (mA f)
 |.OL lo hi=>∃t u v,h.get? a=some {cls:=.type "range",data:=.fields #[.int lo t,.int hi u,.int 1 v]}
 |.fP o u=>h.get? a=some o/\bu H h a u
 |.vb ps=>∃qs:Array Value,h.get? a=some {cls:=.none,data:=.fields qs}/\TriplesOk qs.toList/\∀pos v,codeAmong pos qs.toList=some v->∃c oc vs q t,v=.ref c/\ps=#[.str q 0]/\H c=some (.own a)/\h.get? c=some oc/\oc.data=.fields vs/\vs[1]?=some (.str q t)
 |.met f x=>h.get? a=some (PySem.W.methodObj (.ref f) (.ref x))
 |.ext φ=>φ h/\(∃o,h.get? a=some o)/\∀h1 h2:Heap,φ h1->(∀o,h1.get? a=some o->h2.get? a=some o)->φ h2
def kr(H:Hp)(h:Heap):Prop:=∀a o,H a=some o->bu P w H h a o
end
section
variable {P:Program}{w:World}{H H':Hp}{h h':Heap}{a:Addr}{o:HO}
theorem bu.lt (x:bu P w H h a o):a<h.objs.size:=by
 cases o with
 |lst xs=>obtain⟨_,_,_,_,e⟩:=x;exact aw e
 |tup xs=>obtain⟨_,_,_,p⟩:=x;exact p.tup.lt
 |dK av=>obtain⟨_,_,_,_,o,_,_,e,_⟩:=x;exact aw e
 |dT av=>obtain⟨_,_,_,_,o,_,_,e,_⟩:=x;exact aw e
 |set S n=>obtain⟨o,_,_,_,e,_⟩:=x;exact aw e
 |ins C dx fs=>obtain⟨_,_,_,e,_⟩:=x;exact aw e
 |own y=>obtain⟨_,e⟩:=x;exact aw e
 |xd fs=>obtain⟨_,⟨_,_,_,e,_⟩,_⟩:=x;exact aw e
 |OL lo hi=>obtain⟨_,_,_,e⟩:=x;exact aw e
 |fP ob u=>obtain⟨e,_⟩:=x;exact aw e
 |vb ps=>obtain⟨qs,e,_⟩:=x;exact aw e
 |met f y=>exact aw (show h.get? a=some _ from x)
 |ext φ=>obtain⟨_,⟨_,e⟩,_⟩:=x;exact aw e
theorem Paired.Hl {α β:Type}{F G:α->β->Prop}:∀{Ld:List α} {Le:List β},Paired F Ld Le->(∀a b,F a b->G a b)->Paired G Ld Le
 |_,_,.nil,_=>.nil
 |_,_,.cons r t,f=>.cons (f _ _ r) (Paired.Hl t f)
theorem bu.kE (x:bu P w H h a o)(k:∀b u,(b=a\/H b=some (.own a))->h.get? b=some u->h'.get? b=some u)
  (ho:∀b,H b=some (.own a)->H' b=some (.own a)) (ht:∀b xs,H b=some (.tup xs)->H' b=some (.tup xs)):bu P w H' h' a o:=by
 induction o with
 |lst xs=>obtain⟨z,aV,n,r,e⟩:=x;exact⟨z,aV,n,r,k _ _ (.inl rfl) e⟩
 |tup xs=>obtain⟨z,aV,r,ob,e,c⟩:=x;exact⟨z,aV,r,ob,k _ _ (.inl rfl) e,c⟩
 |dK av=>obtain⟨z,y,vs,r,ob,es,ep,e,c⟩:=x;exact⟨z,y,vs,r,ob,es,ep,k _ _ (.inl rfl) e,c⟩
 |dT av=>
  obtain⟨z,y,xs,r,ob,es,ep,e,c⟩:=x;exact⟨z,y,xs,Paired.Hl r fun p q z=>⟨z.1,ht _ _ z.2.1,z.2.2⟩,ob,es,ep,k _ _ (.inl rfl) e,c⟩
 |set S n=>obtain⟨ob,es,ep,t,e,c⟩:=x;exact⟨ob,es,ep,t,k _ _ (.inl rfl) e,c⟩
 |ins C dx fs=>
  obtain⟨d,z,ne,e,mA,⟨od,es,ep,e2,c⟩,r⟩:=x;exact⟨ho _ d,z,ne,k _ _ (.inl rfl) e,mA,⟨od,es,ep,k _ _ (.inr d) e2,c⟩,r⟩
 |own y=>obtain⟨ob,e⟩:=x;exact⟨ob,k _ _ (.inl rfl) e⟩
 |xd fs=>obtain⟨mA,⟨od,es,ep,e,c⟩,r⟩:=x;exact⟨mA,⟨od,es,ep,k _ _ (.inl rfl) e,c⟩,r⟩
 |OL lo hi=>obtain⟨t,u,v,e⟩:=x;exact⟨t,u,v,k _ _ (.inl rfl) e⟩
 |fP ob u ih=>obtain⟨e,q⟩:=x;exact⟨k _ _ (.inl rfl) e,ih q⟩
 |vb ps=>
  obtain⟨qs,e,tr,r⟩:=x;exact⟨qs,k _ _ (.inl rfl) e,tr,fun pos v z=>by
   obtain⟨c,oc,vs,q,t,e1,e2,e3,e4,e5⟩:=r pos v z;exact⟨c,oc,vs,q,t,e1,e2,ho _ e3,k _ _ (.inr e3) e4,e5⟩⟩
 |met f y=>
  have e:h.get? a=some (PySem.W.methodObj (.ref f) (.ref y)):=x;show h'.get? a=some (PySem.W.methodObj (.ref f) (.ref y));exact k a _ (.inl rfl) e
 |ext φ=>obtain⟨p,⟨o,e⟩,st⟩:=x;exact⟨st _ _ p fun o q=>k _ _ (.inl rfl) q,⟨o,k _ _ (.inl rfl) e⟩,st⟩
theorem kr.lt (x:kr P w H h)(e:H a=some o):a<h.objs.size:=(x a o e).lt
theorem kr.fresh (x:kr P w H h)(e:h.objs.size<=a):H a=none:=by
 cases q:H a with
 |none=>rfl
 |some u=>exact absurd (bx (x.lt q) e) (cA _)
theorem kr.kept (x:kr P w H h)(k:∀b u,h.get? b=some u->h'.get? b=some u):kr P w H h':=fun a o e=>
 (x a o e).kE (fun b u _ q=>k b u q) (fun _ q=>q) fun _ _ q=>q
theorem kr.laid (x:kr P w H h)(k:∀b u,h.get? b=some u->h'.get? b=some u)(hp:h.objs.size<=a)(new:bu P w (upd H a o) h' a o):kr P w (upd H a o) h':=fun b u e=>by
 have hn:=x.fresh hp;by_cases hb:b=a
 ·subst hb;rw[aH]at e;cases e;exact new
 ·rw[ah hb]at e;exact(x b u e).kE (fun c v _ q=>k c v q) (fun c q=>by rw[ah (aL q hn)];exact q) fun c xs q=>by rw[ah (aL q hn)];exact q
end
def Rd(H:Hp)(a:Addr)(u:HO):Prop:=H a=some u\/∃o,H a=some (.fP o u)
theorem Rd.ok {P:Program}{w:World}{H:Hp}{h:Heap}{a:Addr}{u:HO}(r:Rd H a u)(x:kr P w H h):bu P w H h a u:=by
 rcases r with r|⟨o,r⟩
 ·exact x a u r
 ·obtain⟨_,q⟩:=x a _ r;exact q
def Lf:Option HO->Prop
 |some (.lst _)=>True
 |some (.dK _)=>True
 |some (.dT _)=>True
 |some (.set _ _)=>True
 |some (.ins _ _ _)=>True
 |some (.ext _)=>True
 |_=>False
section
variable {P:Program}{w:World}{H:Hp}{h h':Heap}{x e:Addr}{o':HO}
theorem kr.write (ok:kr P w H h)(mu:Lf (H x))(he:e=x\/H e=some (.own x))(k:∀b u,b≠e->h.get? b=some u->h'.get? b=some u)(Ko:∃u,h'.get? e=some u)
  (new:bu P w (upd H x o') h' x o'):kr P w (upd H x o') h':=fun b u q=>by
 have Lg:∀c y,H c=some (.own y)->c≠x:=fun c y r z=>by subst z;rw[r]at mu;exact mu
 have P7:∀c xs,H c=some (.tup xs)->c≠x:=fun c xs r z=>by subst z;rw[r]at mu;exact mu
 by_cases hb:b=x
 ·subst hb;rw[aH]at q;cases q;exact new
 ·rw[ah hb]at q;by_cases Hm:b=e
  ·have q':H b=some (.own x):=by
    rcases he with z|z
    ·exact absurd (Hm.trans z) hb
    ·rw[Hm];exact z
   rw[q]at q';cases q';obtain⟨v,hv⟩:=Ko;exact⟨v,by rw[Hm];exact hv⟩
  ·refine(ok b u q).kE (fun c v hc r=>k c v ?_ r) (fun c r=>by rw[ah (Lg c b r)];exact r) fun c xs r=>by rw[ah (P7 c xs r)];exact r
   rcases hc with rfl|hc
   ·exact Hm
   ·rintro rfl
    rcases he with z|z
    ·exact Lg c b hc z
    ·rw[hc]at z;cases z;exact hb rfl
end
structure Un(fs ex:List Addr)(H H':Hp)(h h':Heap):Prop where
 keep:∀b o,h.get? b=some o->H b=none->b∉fs->b∉ex->h'.get? b=some o
 slot:∀b o,h.get? b=some o->H b=none->b∈fs->b∉ex->∃sl,h'.get? b=some {o with slots:=sl}
 free:∀b o,h.get? b=some o->H b=none->b∉ex->H' b=none
 there:∀b o,h.get? b=some o->b∉ex->∃o',h'.get? b=some o'
 kg:∀b xs,H b=some (.tup xs)->H' b=some (.tup xs)
 i_:∀b o u,H b=some (.fP o u)->H' b=some (.fP o u)
 jA:∀b ps,H b=some (.vb ps)->∃more,H' b=some (.vb (ps++more))
section
variable {fs Ae ex Xe:List Addr}{H H1 H2:Hp}{h h1 h2 h':Heap}{a x e:Addr}{o:HO}
theorem Un.any (u:Un fs ex H H1 h h1){b:Addr}{ob:Obj}(q:h.get? b=some ob)(n:H b=none)(hx:b∉ex):∃sl,h1.get? b=some {ob with slots:=sl}:=by
 by_cases hb:b∈fs
 ·exact u.slot b ob q n hb hx
 ·exact⟨ob.slots,u.keep b ob q n hb hx⟩
theorem Un.trans (a:Un fs ex H H1 h h1)(b:Un fs ex H1 H2 h1 h2):Un fs ex H H2 h h2 where
 keep:=fun c ob q n hc hx=>b.keep c ob (a.keep c ob q n hc hx) (a.free c ob q n hx) hc hx
 slot:=fun c ob q n hc hx=>by
  obtain⟨sl,e1⟩:=a.slot c ob q n hc hx;obtain⟨P8,e2⟩:=b.slot c _ e1 (a.free c ob q n hx) hc hx;exact⟨P8,e2⟩
 free:=fun c ob q n hx=>by
  obtain⟨o',e1⟩:=a.there c ob q hx;exact b.free c o' e1 (a.free c ob q n hx) hx
 there:=fun c ob q hx=>by
  obtain⟨o',e1⟩:=a.there c ob q hx;exact b.there c o' e1 hx
 kg:=fun c xs q=>b.kg c xs (a.kg c xs q)
 i_:=fun c ob xs q=>b.i_ c ob xs (a.i_ c ob xs q)
 jA:=fun c ps q=>by
  obtain⟨m1,e1⟩:=a.jA c ps q;obtain⟨m2,e2⟩:=b.jA c _ e1;exact⟨m1++m2,by rw[e2,Array.append_assoc]⟩
theorem Un.kept (k:∀b u,h.get? b=some u->h'.get? b=some u):Un fs ex H H h h':=
 ⟨fun b ob q _ _ _=>k b ob q,fun b ob q _ _ _=>⟨ob.slots,k b ob q⟩,fun _ _ _ n _=>n,fun b ob q _=>⟨ob,k b ob q⟩,fun _ _ q=>q,fun _ _ _ q=>q,fun _ ps q=>⟨#[],by rw[q];simp⟩⟩
theorem Un.refl:Un fs ex H H h h:=Un.kept fun _ _ q=>q
theorem Un.laid (k:∀b u,h.get? b=some u->h'.get? b=some u)(hp:h.objs.size<=a)(hn:H a=none):Un fs ex H (upd H a o) h h' where
 keep:=fun b u q _ _ _=>k b u q
 slot:=fun b u q _ _ _=>⟨u.slots,k b u q⟩
 free:=fun b u q n _=>by rw[ah (aS (bx (aw q) hp))];exact n
 there:=fun b u q _=>⟨u,k b u q⟩
 kg:=fun b xs q=>by rw[ah (aL q hn)];exact q
 i_:=fun b u xs q=>by rw[ah (aL q hn)];exact q
 jA:=fun b ps q=>⟨#[],by rw[ah (aL q hn),q];simp⟩
theorem Un.write (mu:Lf (H x))(he:e=x\/H e=some (.own x))(k:∀b u,b≠e->h.get? b=some u->h'.get? b=some u)(Ko:∃u,h'.get? e=some u):Un fs ex H (upd H x o) h h':=by
 have hx:∀b,H b=none->b≠x:=fun b n z=>by subst z;rw[n]at mu;exact mu
 have hb:∀b,H b=none->b≠e:=fun b n z=>by
  subst z;rcases he with r|r
  ·exact hx b n r
  ·rw[n]at r;cases r
 have hm:∀b u,H b=some u->¬Lf (some u)->b≠x:=fun b u q nm z=>by subst z;rw[q]at mu;exact nm mu
 refine⟨fun b u q n _ _=>k b u (hb b n) q,fun b u q n _ _=>⟨u.slots,k b u (hb b n) q⟩,fun b u q n _=>by rw[ah (hx b n)];exact n,fun b u q _=>?_,
  fun b xs q=>by rw[ah (hm b _ q fun z=>z)];exact q,fun b u xs q=>by rw[ah (hm b _ q fun z=>z)];exact q,fun b ps q=>⟨#[],by rw[ah (hm b _ q fun z=>z),q];simp⟩⟩
 by_cases Hm:b=e
 ·subst Hm;exact Ko
 ·exact⟨u,k b u Hm q⟩
end
def OM(h:Heap)(H:Hp):List Addr:=(List.range h.objs.size).filter fun a=>(H a).isSome
def ua(h:Heap)(H:Hp):Heap:=PySem.W.hideAll h (OM h H)
theorem Af(h:Heap)(H:Hp):(ua h H).objs.size=h.objs.size:=PySem.W.hideAll_size _ _
theorem BF{h:Heap}{H:Hp}{b:Addr}{o:Obj}(e:h.get? b=some o)(n:H b=none):(ua h H).get? b=some o:=
 lD _ e fun hm=>by
  have q:(H b).isSome=true:=(bR.mp hm).2;rw[n]at q;simp at q
theorem Ef{h:Heap}{H:Hp}{b:Addr}{o:Obj}(e:(ua h H).get? b=some o):h.get? b=some o/\H b=none:=by
 have e':h.get? b=some o:=pC (OM h H) e;refine⟨e',?_⟩;cases q:H b with
 |none=>rfl
 |some x=>
  have hm:b∈OM h H:=bR.mpr ⟨cN.mpr (aw e'),by simp[q]⟩;have z:(ua h H).get? b=none:=lC (OM h H) hm;rw[z]at e;cases e
end L2
namespace L2
open PySem PySem.Spec PyProof.Rows
structure Mod(K:PySem.W.Frag)(mg:Str->Option Value)(base:Heap):Prop where
 Lh:K.In base
 glob:base.Ns mainGlobals mg
 blt:∃mb,base.Ns builtinsNs mb/\∀x:Str,x≠"__name__"->mb x=bootBuiltins x
 nolimit:base.NoLimit
 bm:∃bm ob,mg "__builtins__"=some (.ref bm)/\bm≠builtinsNs/\bm≠mainGlobals/\base.get? bm=some ob/\ob.cls=.type "module"/\ob.dict=some builtinsNs/\ob.data=.plain
structure Cx where
 prog:Program
 w:World
 K:PySem.W.Frag
 mg:Str->Option Value
 base:Heap
 A:Around
 N:List Str
 eP:Shared
 vt:Hp
 env:Env
 outer:List Env
 stack:List Env
 ex:List Addr
 fn:Str->Bool
 calm:Bool
 pn:List (Addr×Obj)
 xe:Value->Shared->Prop
def l4(l:List Env):List Addr:=l.filterMap (·.frame)
abbrev Cx.fs (X:Cx):List Addr:=l4 X.outer
def Hn(sc:Scope)(x:Str):Prop:=sc.names.lookup x=some .local\/sc.names.lookup x=some .cell\/sc.names.lookup x=some .free
def Loc(sc:Scope)(x:Str):Prop:=sc.names.lookup x=some .local\/sc.names.lookup x=some .cell
def Look(env:Env)(h:Heap)(m:Str->Option Value)(x:Str)(u:Value):Prop:=
 (env.kindOf x=some .local/\m x=some u)\/((env.kindOf x=some .cell\/env.kindOf x=some .free)/\∃c,env.cells.lookup x=some c/\h.IsCell c (some u))
structure Cx.Ok (X:Cx):Prop where
 mod:Mod X.K X.mg X.base
 kind:X.env.scope.kind=.function
 glob:X.env.globals=mainGlobals
 blt:X.env.builtins=builtinsNs
 above:X.eP.heap.objs.size<=X.env.locals
 inj:∀x y c,X.env.cells.lookup x=some c->X.env.cells.lookup y=some c->x=y
 has:∀x,(X.env.kindOf x=some .cell\/X.env.kindOf x=some .free)->∃c,X.env.cells.lookup x=some c
 Li:∀x c,X.fn x=true->X.env.cells.lookup x=some c->X.eP.heap.objs.size<=c
 hd:X.calm=true->X.A.handled=none
 frames:X.A.frames=some X.stack
 Kp:X.stack=X.outer\/(X.stack=X.env::X.outer/\X.env.frame=some X.env.locals)
 P9:∀b∈X.ex,b≠X.env.locals/\∀x c,X.env.cells.lookup x=some c->c≠b
 bs:∀b o,X.base.get? b=some o->X.eP.heap.get? b=some o/\X.vt b=none
 F8:X.base.objs.size<=X.eP.heap.objs.size
 Ag:∀b o,X.base.get? b=some o->b∉X.ex
 BG:∀b∈X.ex,b∉X.fs
 p9:X.eP.heap.FunFrames X.base X.outer
 Kq:∀b∈X.fs,X.vt b=none
structure Inv(X:Cx)(pins:List (Addr×Obj))(σ:List (Option V))(H:Hp)(s:Shared):Prop where
 ok:X.Ok
 os:s.os=X.eP.os
 bare:AllBare s.gens
 base:Un X.fs X.ex X.vt H X.eP.heap s.heap
 loc:∃m,s.heap.Ns X.env.locals m/\∀(i:Nat) (x:Str) (v:V),X.N[i]?=some x->σ[i]?=some (some v)->Hn X.env.scope x->∃u,RelV v u/\Look X.env s.heap m x u
 cell:∀x c,X.env.cells.lookup x=some c->∃v,s.heap.IsCell c v
 free:H X.env.locals=none
 f7:∀x c,X.env.cells.lookup x=some c->H c=none
 pin:∀p∈X.pn++pins,s.heap.get? p.1=some p.2/\H p.1=none/\p.1≠X.env.locals/\p.1∉X.fs/\∀v,p.2.data≠ .cell v
 bN:kr X.prog X.w H s.heap
 len:σ.length=X.N.length
section
variable {X:Cx}{pins:List (Addr×Obj)}{σ:List (Option V)}{H H':Hp}{s:Shared}{h':Heap}
theorem Cx.Ok.P_ (ok:X.Ok){b:Addr}{o:Obj}(e:X.base.get? b=some o):b∉X.fs:=fun hb=>by
 have:=(ok.p9.mem hb).1;rw[e]at this;cases this
theorem Inv.bs (I:Inv X pins σ H s):∀b o,X.base.get? b=some o->s.heap.get? b=some o/\H b=none:=fun b o e=>
 ⟨I.base.keep b o (I.ok.bs b o e).1 (I.ok.bs b o e).2 (I.ok.P_ e) (I.ok.Ag b o e),I.base.free b o (I.ok.bs b o e).1 (I.ok.bs b o e).2 (I.ok.Ag b o e)⟩
theorem Inv.bk (I:Inv X pins σ H s):∀b o,X.base.get? b=some o->s.heap.get? b=some o:=fun b o e=>(I.bs b o e).1
theorem Inv.mod (I:Inv X pins σ H s):Mod X.K X.mg X.base:=I.ok.mod
theorem Inv.n5 (I:Inv X pins σ H s):X.K.In s.heap:=I.ok.mod.Lh.keeps I.bk
theorem Inv.nolimit (I:Inv X pins σ H s):s.heap.NoLimit:=I.ok.mod.nolimit.keeps I.bk
theorem Inv.fr (I:Inv X pins σ H s):∃m,Fr X.base X.env.locals s.heap m:=
 let⟨m,hn,_⟩:=I.loc
 ⟨m,hn,I.bk,bt I.ok.F8 I.ok.above⟩
theorem Inv.lt (I:Inv X pins σ H s):X.env.locals<s.heap.objs.size:=let⟨_,hn,_⟩:=I.loc;hn.lt
theorem Inv.sz (I:Inv X pins σ H s):X.eP.heap.objs.size<=s.heap.objs.size:=bt I.ok.above (fL I.lt)
theorem Inv.Qa (I:Inv X pins σ H s){a:Addr}(h:s.heap.objs.size<=a):a∉X.fs:=fun hb=>by
 obtain⟨_,o,ho,_⟩:=I.ok.p9.mem hb;exact absurd (bx (aw ho) (bt I.sz h)) (cA _)
theorem Inv.BH (I:Inv X pins σ H s):∀x c,X.env.cells.lookup x=some c->c≠X.env.locals:=fun x c e z=>by
 obtain⟨v,o,ho,hd⟩:=I.cell x c e;obtain⟨m,⟨o',es,ep,Ah,BI,_⟩,_⟩:=I.loc;rw[z,Ah]at ho;cases ho;rw[BI]at hd;cases hd
theorem Inv.p9 (I:Inv X pins σ H s):s.heap.FunFrames X.base X.outer:=by
 have all:∀(l:List Env),(∀b∈l4 l,b∈X.fs)->X.eP.heap.FunFrames X.base l->s.heap.FunFrames X.base l:=by
  intro l
  induction l with
  |nil=>intro _ _;trivial
  |cons env r ih=>
   intro hs hl;obtain⟨hk,⟨L,o,hf,hn,ho,hd⟩,hr⟩:=hl;have hL:L∈X.fs:=hs L (by unfold l4;rw[j9,hf];exact aM);obtain⟨sl,e⟩:=I.base.slot L o ho (I.ok.Kq L hL) hL fun z=>I.ok.BG L z hL;exact⟨hk,⟨L,_,hf,hn,e,hd⟩,ih (fun b hb=>hs b (by unfold l4;rw[j9,hf];exact aW _ hb)) hr⟩
 exact all X.outer (fun _ hb=>hb) I.ok.p9
theorem Inv.stack (I:Inv X pins σ H s):s.heap.FunFrames X.base X.stack:=by
 rcases I.ok.Kp with e|⟨e,hf⟩
 ·rw[e];exact I.p9
 ·rw[e];obtain⟨m,hn,_⟩:=I.loc;refine .cons (by rw[I.ok.kind];decide) hf hn ?_ I.p9
  exact jh (bt I.ok.F8 I.ok.above)
theorem Inv.xo (I:Inv X pins σ H s):∀b∈l4 X.stack,b∈X.env.locals::X.fs:=fun b hb=>by
 rcases I.ok.Kp with e|⟨e,hf⟩
 ·rw[e]at hb;exact aW _ hb
 ·rw[e]at hb;unfold l4 at hb;rw[j9,hf]at hb;exact hb
theorem Inv.uc (I:Inv X pins σ H s):∀b∈l4 X.stack,H b=none:=fun b hb=>by
 rcases aP.mp (I.xo b hb)with e|hb
 ·rw[e];exact I.free
 ·obtain⟨_,o,ho,_⟩:=I.ok.p9.mem hb;exact I.base.free b o ho (I.ok.Kq b hb) fun z=>I.ok.BG b z hb
theorem Inv.step {g':Array GenState}{t':Nat}{d':Drawn}{ch:List Addr}(I:Inv X pins σ H s)
  (sk:∀b∈ch,(b∈X.ex\/X.eP.heap.objs.size<=b)/\b≠X.env.locals/\(∀x c,X.env.cells.lookup x=some c->c≠b)/\∀p∈X.pn++pins,p.1≠b)
  (keep:∀b o,b≠X.env.locals->b∉X.fs->b∉ch->s.heap.get? b=some o->H b=none->h'.get? b=some o)
  (slot:∀b o,b≠X.env.locals->b∈X.fs->b∉ch->s.heap.get? b=some o->H b=none->∃sl,h'.get? b=some {o with slots:=sl}) (free:∀b o,b∉ch->s.heap.get? b=some o->H b=none->H' b=none)
  (there:∀b o,b∉ch->s.heap.get? b=some o->∃o',h'.get? b=some o')
  (kg:∀b xs,H b=some (.tup xs)->H' b=some (.tup xs)) (i_:∀b o u,H b=some (.fP o u)->H' b=some (.fP o u)) (jA:∀b ps,H b=some (.vb ps)->∃more,H' b=some (.vb (ps++more)))
  (ns:∀m,s.heap.Ns X.env.locals m->h'.Ns X.env.locals m) (bN:kr X.prog X.w H' h') (hg:AllBare g'):
  Inv X pins σ H' {s with heap:=h',gens:=g',drawn:=d',toks:=t'}:=by
 have SY:∀b o,X.eP.heap.get? b=some o->b≠X.env.locals:=fun b o e=>aS (bx (aw e) I.ok.above);have mU:∀b o,X.eP.heap.get? b=some o->b∉X.ex->b∉ch:=fun b o e hx hb=>by
  rcases(sk b hb).1 with z|z
  ·exact hx z
  ·exact absurd (bx (aw e) z) (cA _)
 have cellK:∀x c,X.env.cells.lookup x=some c->∀v,s.heap.IsCell c v->h'.IsCell c v:=fun x c e v ⟨o,ho,hd⟩=>by
  have BJ:c∉ch:=fun z=>(sk c z).2.2.1 x c e rfl;by_cases hc:c∈X.fs
  ·obtain⟨sl,q⟩:=slot c o (I.BH x c e) hc BJ ho (I.f7 x c e);exact⟨_,q,hd⟩
  ·exact⟨o,keep c o (I.BH x c e) hc BJ ho (I.f7 x c e),hd⟩
 refine⟨I.ok,I.os,hg,⟨fun b o e n hb hx=>?_,fun b o e n hb hx=>?_,fun b o e n hx=>?_,fun b o e hx=>?_,fun b xs e=>kg b xs (I.base.kg b xs e),fun b o xs e=>i_ b o xs (I.base.i_ b o xs e),fun b ps e=>?_⟩,?_,fun x c e=>?_,?_,fun x c e=>?_,fun p hp=>?_,bN,I.len⟩
 ·exact keep b o (SY b o e) hb (mU b o e hx) (I.base.keep b o e n hb hx) (I.base.free b o e n hx)
 ·obtain⟨sl,e1⟩:=I.base.slot b o e n hb hx;obtain⟨P8,e2⟩:=slot b _ (SY b o e) hb (mU b o e hx) e1 (I.base.free b o e n hx);exact⟨P8,e2⟩
 ·obtain⟨o',e1⟩:=I.base.there b o e hx;exact free b o' (mU b o e hx) e1 (I.base.free b o e n hx)
 ·obtain⟨o',e1⟩:=I.base.there b o e hx;exact there b o' (mU b o e hx) e1
 ·obtain⟨m1,e1⟩:=I.base.jA b ps e;obtain⟨m2,e2⟩:=jA b _ e1;exact⟨m1++m2,by rw[e2,Array.append_assoc]⟩
 ·obtain⟨m,hn,hl⟩:=I.loc;refine⟨m,ns m hn,fun i x v e1 e2 e3=>?_⟩;obtain⟨u,r,l⟩:=hl i x v e1 e2 e3;refine⟨u,r,?_⟩;rcases l with l|⟨k,c,e,z⟩
  ·exact .inl l
  ·exact .inr ⟨k,c,e,cellK x c e _ z⟩
 ·obtain⟨v,z⟩:=I.cell x c e;exact⟨v,cellK x c e v z⟩
 ·obtain⟨m,⟨o,_,_,ho,_⟩,_⟩:=I.loc;exact free _ o (fun z=>(sk _ z).2.1 rfl) ho I.free
 ·obtain⟨v,o,ho,hd⟩:=I.cell x c e;exact free c o (fun z=>(sk c z).2.2.1 x c e rfl) ho (I.f7 x c e)
 ·obtain⟨e,n,ne,nf,d⟩:=I.pin p hp;have BJ:p.1∉ch:=fun z=>(sk p.1 z).2.2.2 p hp rfl;exact⟨keep p.1 p.2 ne nf BJ e n,free p.1 p.2 BJ e n,ne,nf,d⟩
theorem Inv.un {t':Nat}(I:Inv X pins σ H s)(u:Un X.fs [] H H' s.heap h')(bN:kr X.prog X.w H' h'):Inv X pins σ H' {s with heap:=h',toks:=t'}:=by
 obtain⟨m,⟨o,es,ep,ho,r⟩,_⟩:=id I.loc;obtain⟨sl,hL⟩:=u.any ho I.free (by simp);exact I.step (g':=s.gens) (d':=s.drawn) (ch:=[]) (fun _ z=>nomatch z) (fun b o _ hb _ e n=>u.keep b o e n hb (by simp)) (fun b o _ hb _ e n=>u.slot b o e n hb (by simp)) (fun b o _ e n=>u.free b o e n (by simp)) (fun b o _ e=>u.there b o e (by simp)) u.kg u.i_ u.jA (fun m' hm=>by
  obtain⟨o',Ho,yH,Ah,r'⟩:=hm;rw[ho]at Ah;cases Ah;exact⟨_,Ho,yH,hL,r'⟩) bN I.bare
theorem Inv.call {g':Array GenState}{t':Nat}{d':Drawn}{ch:List Addr}(I:Inv X pins σ H s)(u:Un (l4 X.stack) ch H H' s.heap h')(bN:kr X.prog X.w H' h')(hg:AllBare g')
  (sk:∀b∈ch,(b∈X.ex\/X.eP.heap.objs.size<=b)/\b≠X.env.locals/\(∀x c,X.env.cells.lookup x=some c->c≠b)/\∀p∈X.pn++pins,p.1≠b):
  Inv X pins σ H' {s with heap:=h',gens:=g',drawn:=d',toks:=t'}:=by
 obtain⟨m,⟨o,es,ep,ho,r⟩,_⟩:=id I.loc;obtain⟨sl,hL⟩:=u.any ho I.free fun z=>(sk _ z).2.1 rfl;exact I.step (ch:=ch) sk (fun b o hL hb hc e n=>u.keep b o e n (fun z=>(aP.mp (I.xo b z)).elim hL hb) hc) (fun b o _ _ hc e n=>u.any e n hc) (fun b o hc e n=>u.free b o e n hc) (fun b o hc e=>u.there b o e hc) u.kg u.i_ u.jA (fun m' hm=>by
  obtain⟨o',Ho,yH,Ah,r'⟩:=hm;rw[ho]at Ah;cases Ah;exact⟨_,Ho,yH,hL,r'⟩) bN hg
theorem Inv.turned {t':Nat}{it:Addr}(I:Inv X pins σ H s)(k:∀b o,b≠it->s.heap.get? b=some o->h'.get? b=some o)(hn:H it=none)(hL:it≠X.env.locals)
  (h1:it∈X.ex\/X.eP.heap.objs.size<=it) (h2:∀x c,X.env.cells.lookup x=some c->c≠it) (h3:∀p∈X.pn++pins,p.1≠it):Inv X pins σ H {s with heap:=h',toks:=t'}:=by
 have S0:∀b u,H b=some u->b≠it:=fun b u e z=>by rw[z,hn]at e;cases e
 refine I.step (g':=s.gens) (d':=s.drawn) (ch:=[it]) (fun b hb=>?_) (fun b o _ _ hc e _=>k b o (fun z=>hc (by simp[z])) e) (fun b o _ _ hc e _=>⟨o.slots,k b o (fun z=>hc (by simp[z])) e⟩) (fun _ _ _ _ n=>n)
  (fun b o hc e=>⟨o,k b o (fun z=>hc (by simp[z])) e⟩) (fun _ _ e=>e) (fun _ _ _ e=>e) (fun b ps e=>⟨#[],by rw[e];simp⟩) (fun m hm=>?_) (fun b u e=>?_) I.bare
 ·have e:b=it:=by simpa using hb
  subst e;exact⟨h1,hL,h2,h3⟩
 ·obtain⟨o,es,ep,ho,r⟩:=hm;exact⟨o,es,ep,k _ o (b_ hL) ho,r⟩
 ·refine(I.bN b u e).kE (fun c v hc q=>k c v ?_ q) (fun _ q=>q) fun _ _ q=>q;rcases hc with z|z
  ·rw[z];exact S0 b u e
  ·exact S0 c _ z
theorem Inv.tok (I:Inv X pins σ H s)(t:Nat):Inv X pins σ H {s with toks:=t}:=I.un (h':=s.heap) (t':=t) Un.refl I.bN
theorem Inv.kept {t':Nat}(I:Inv X pins σ H s)(k:∀b u,s.heap.get? b=some u->h'.get? b=some u):Inv X pins σ H {s with heap:=h',toks:=t'}:=I.un (Un.kept k) (I.bN.kept k)
theorem Inv.laid {a:Addr}{o:HO}{t':Nat}(I:Inv X pins σ H s)(k:∀b u,s.heap.get? b=some u->h'.get? b=some u)(hp:s.heap.objs.size<=a)(new:bu X.prog X.w (upd H a o) h' a o):
  Inv X pins σ (upd H a o) {s with heap:=h',toks:=t'}:=I.un (Un.laid k hp (I.bN.fresh hp)) (I.bN.laid k hp new)
theorem Inv.write {x e:Addr}{o:HO}{t':Nat}(I:Inv X pins σ H s)(mu:Lf (H x))(he:e=x\/H e=some (.own x))(k:∀b u,b≠e->s.heap.get? b=some u->h'.get? b=some u)(Ko:∃u,h'.get? e=some u)
  (new:bu X.prog X.w (upd H x o) h' x o):Inv X pins σ (upd H x o) {s with heap:=h',toks:=t'}:=I.un (Un.write mu he k Ko) (I.bN.write mu he k Ko new)
theorem Inv.yI {F9:List (Addr×Obj)}(I:Inv X pins σ H s)(h:∀p∈F9,s.heap.get? p.1=some p.2/\H p.1=none/\p.1≠X.env.locals/\p.1∉X.fs/\∀v,p.2.data≠ .cell v):Inv X F9 σ H s:=
 ⟨I.ok,I.os,I.bare,I.base,I.loc,I.cell,I.free,I.f7,fun p hp=>(eM.mp hp).elim (fun z=>I.pin p (jf _ z)) (h p),I.bN,I.len⟩
theorem vu{N:List Str}(hN:N.Nodup){i j:Nat}{x:Str}(a:N[i]?=some x)(b:N[j]?=some x):i=j:=by
 obtain⟨h1,e1⟩:=cX.mp a;obtain⟨h2,e2⟩:=cX.mp b;exact(gp hN).mp (e1.trans e2.symm)
theorem sq{M:Model}{A:Around}{E:Value->Shared->Prop}{i:Nat}{x:Str}{v:V}{u:Value}{Q:Unit->Shared->Prop}(I:Inv X pins σ H s)(hN:X.N.Nodup)(hi:X.N[i]?=some x)(hx:Loc X.env.scope x)(r:RelV v u)
  (h:∀s',Inv X pins (σ.set i (some v)) H s'->(∃a,Heap.SameBut a s.heap s'.heap/\(a=X.env.locals\/X.env.cells.lookup x=some a))->Q () s') (hf:X.fn x=true\/X.env.scope.names.lookup x=some .local:=by first|exact .inl rfl|exact .inr rfl|assumption):wpAny M A (storeName X.env x u) Q E s:=by
 obtain⟨m,hn,hl⟩:=id I.loc;have Eg:(X.env.scope.kind== .class||(X.env.scope.kind== .module&&X.env.locals !=X.env.globals))=false:=by rw[I.ok.kind];rfl
 have Lj:i<σ.length:=by rw[I.len];exact(cX.mp hi).1
 have BH:=I.BH;have tracked:∀{a:Addr} {h':Heap},(∃o,s.heap.get? a=some o/\H a=none)->Heap.SameBut a s.heap h'->kr X.prog X.w H h':=fun{a h'} ha hs b ob e=>by
  obtain⟨_,_,yJ⟩:=ha;refine(I.bN b ob e).kE (fun c w' hc q=>(hs.2 c ?_).trans q) (fun _ q=>q) fun _ _ q=>q
  rintro rfl
  rcases hc with rfl|hc
  ·rw[yJ]at e;cases e
  ·rw[yJ]at hc;cases hc
 rcases hx with hk|hk
 ·refine wpAny_storeName_local hk hn (fun h' Kr hs=>?_) Eg;obtain⟨oL,_,_,D9,_⟩:=id hn;refine h _ ⟨I.ok,I.os,I.bare,⟨fun b o e n hb hx=>?_,fun b o e n hb hx=>?_,I.base.free,fun b o e hx=>?_,I.base.kg,I.base.i_,I.base.jA⟩,⟨_,Kr,fun j y v' e1 e2 e3=>?_⟩,fun y c e=>?_,I.free,I.f7,fun p hp=>?_,tracked ⟨oL,D9,I.free⟩ hs,by simpa using I.len⟩ ⟨_,hs,.inl rfl⟩
  ·exact(hs.2 b (aS (bx (aw e) I.ok.above))).trans (I.base.keep b o e n hb hx)
  ·obtain⟨sl,e1⟩:=I.base.slot b o e n hb hx;exact⟨sl,(hs.2 b (aS (bx (aw e) I.ok.above))).trans e1⟩
  ·obtain⟨o',e1⟩:=I.base.there b o e hx;exact⟨o',(hs.2 b (aS (bx (aw e) I.ok.above))).trans e1⟩
  ·by_cases hj:j=i
   ·subst hj;rw[hi]at e1;cases e1;rw[ef Lj]at e2;cases e2;exact⟨u,r,.inl ⟨hk,by simp⟩⟩
   ·rw[cw (b_ hj)]at e2;obtain⟨u',r',q⟩:=hl j y v' e1 e2 e3;refine⟨u',r',?_⟩;rcases q with⟨k,e⟩|⟨k,c,e,z⟩
    ·refine .inl ⟨k,?_⟩;have:y≠x:=fun e=>hj (vu hN e1 (e▸hi));simp[this,e]
    ·exact .inr ⟨k,c,e,z.sameBut hs (BH y c e)⟩
  ·obtain⟨w',z⟩:=I.cell y c e;exact⟨w',z.sameBut hs (BH y c e)⟩
  ·obtain⟨e,n,ne,nf,d⟩:=I.pin p hp;exact⟨(hs.2 p.1 ne).trans e,n,ne,nf,d⟩
 ·have Ks:X.fn x=true:=by
   rcases hf with z|z
   ·exact z
   ·rw[z]at hk;cases hk
  obtain⟨c,hc⟩:=I.ok.has x (.inl hk);obtain⟨w',z⟩:=I.cell x c hc;refine wpAny_storeName_cell I.ok.kind hk hc z (fun h' Ll hs=>?_);obtain⟨oc,Kt,Qb⟩:=id z;refine h {s with heap:=h'} ⟨I.ok,I.os,I.bare,⟨fun b o e n hb hx=>?_,fun b o e n hb hx=>?_,I.base.free,fun b o e hx=>?_,I.base.kg,I.base.i_,I.base.jA⟩,⟨m,hn.sameBut hs (b_ (BH x c hc)),fun j y v' e1 e2 e3=>?_⟩,fun y c' e=>?_,I.free,I.f7,fun p hp=>?_,tracked ⟨oc,Kt,I.f7 x c hc⟩ hs,by simpa using I.len⟩ ⟨c,hs,.inr hc⟩
  ·exact(hs.2 b (aS (bx (aw e) (I.ok.Li x c Ks hc)))).trans (I.base.keep b o e n hb hx)
  ·obtain⟨sl,e1⟩:=I.base.slot b o e n hb hx;exact⟨sl,(hs.2 b (aS (bx (aw e) (I.ok.Li x c Ks hc)))).trans e1⟩
  ·obtain⟨o',e1⟩:=I.base.there b o e hx;exact⟨o',(hs.2 b (aS (bx (aw e) (I.ok.Li x c Ks hc)))).trans e1⟩
  ·by_cases hj:j=i
   ·subst hj;rw[hi]at e1;cases e1;rw[ef Lj]at e2;cases e2;exact⟨u,r,.inr ⟨.inl hk,c,hc,Ll⟩⟩
   ·rw[cw (b_ hj)]at e2;obtain⟨u',r',q⟩:=hl j y v' e1 e2 e3;refine⟨u',r',?_⟩;rcases q with q|⟨k,c',e,z'⟩
    ·exact .inl q
    ·refine .inr ⟨k,c',e,z'.sameBut hs ?_⟩
     rintro rfl
     exact hj (vu hN e1 (I.ok.inj _ _ _ e hc▸hi))
  ·by_cases S3:c'=c
   ·subst S3;exact⟨_,Ll⟩
   ·obtain⟨w2,z2⟩:=I.cell y c' e;exact⟨w2,z2.sameBut hs S3⟩
  ·obtain⟨e,n,ne,nf,d⟩:=I.pin p hp;refine⟨(hs.2 p.1 ?_).trans e,n,ne,nf,d⟩;intro q;rw[q,Kt]at e;have q':oc=p.2:=Option.some.inj e;exact d w' (by rw[<-q'];exact Qb)
theorem p_{M:Model}{A:Around}{E:Value->Shared->Prop}{i:Nat}{x:Str}{v:V}{u:Value}{Q:Unit->Shared->Prop}(I:Inv X pins σ H s)(hN:X.N.Nodup)(hi:X.N[i]?=some x)(hx:Loc X.env.scope x)(r:RelV v u)
  (h:∀s',Inv X pins (σ.set i (some v)) H s'->Q () s') (hf:X.fn x=true\/X.env.scope.names.lookup x=some .local:=by first|exact .inl rfl|exact .inr rfl|assumption):wpAny M A (storeName X.env x u) Q E s:=
 sq I hN hi hx r (fun s' I' _=>h s' I') hf
theorem Inv.Lm {s':Shared}{ch:List Addr}(I:Inv X pins σ H s)(ho:s'.os=s.os)(u:Un (l4 X.stack) ch H H' s.heap s'.heap)(bN:kr X.prog X.w H' s'.heap)(hg:AllBare s'.gens)
  (sk:∀b∈ch,(b∈X.ex\/X.eP.heap.objs.size<=b)/\b≠X.env.locals/\(∀x c,X.env.cells.lookup x=some c->c≠b)/\∀p∈X.pn++pins,p.1≠b):Inv X pins σ H' s':=by
 obtain⟨h',g',d',t',o'⟩:=s';have e:o'=s.os:=ho;subst e;exact I.call (g':=g') (t':=t') (d':=d') u bN hg sk
end
abbrev XK:=Value->Option Addr->Hp->Prop
abbrev St:=List (Option V)
abbrev VK:=V->Hp->Prop
abbrev TE:=St->Hp->VK->Prop
abbrev TT:=St->Hp->(Bool->Hp->Prop)->Prop
abbrev TA:=St->Hp->(List V->Hp->Prop)->Prop
structure Ends where
 nx:St->Hp->Prop
 rt:VK
 bk:St->Hp->Prop:=fun _ _=>False
 ct:St->Hp->Prop:=fun _ _=>False
abbrev TS:=Ends->St->Hp->Prop
def EP(X:Cx)(pins:List (Addr×Obj))(σ:St)(Q:VK)(u:Value)(s':Shared):Prop:=∃v H',Inv X pins σ H' s'/\RelV v u/\Q v H'
def TP(X:Cx)(pins:List (Addr×Obj))(σ:St)(Q:Bool->Hp->Prop)(b:Bool)(s':Shared):Prop:=∃H',Inv X pins σ H' s'/\Q b H'
def AP(X:Cx)(pins:List (Addr×Obj))(σ:St)(Q:List V->Hp->Prop)(us:List Value)(s':Shared):Prop:=∃vs H',Inv X pins σ H' s'/\Vals vs us/\Q vs H'
def SP(X:Cx)(pins:List (Addr×Obj))(D:Ends)(f:Flow)(s':Shared):Prop:=
 match f with
 |.next=>∃bP H',Inv X pins bP H' s'/\D.nx bP H'
 |.brk=>∃bP H',Inv X pins bP H' s'/\D.bk bP H'
 |.cont=>∃bP H',Inv X pins bP H' s'/\D.ct bP H'
 |.ret u=>∃v bP H',Inv X pins bP H' s'/\RelV v u/\D.rt v H'
def PE(X:Cx)(e:Expr)(t:TE):Prop:=
 ∀(pins:List (Addr×Obj)) (s:Shared) (σ:St) (H:Hp) (Q:VK),Inv X pins σ H s->t σ H Q->wpAny (model X.prog X.w) X.A (eval e X.env) (EP X pins σ Q) X.xe s
def PT(X:Cx)(e:Expr)(t:TT):Prop:=
 ∀(pins:List (Addr×Obj)) (s:Shared) (σ:St) (H:Hp) (Q:Bool->Hp->Prop),Inv X pins σ H s->t σ H Q->wpAny (model X.prog X.w) X.A (isTrue e X.env (eval e X.env)) (TP X pins σ Q) X.xe s
def PW(X:Cx)(e:Expr)(t:TT):Prop:=
 ∀(whole:Sem Value) (pins:List (Addr×Obj)) (s:Shared) (σ:St) (H:Hp) (Q:Bool->Hp->Prop),Inv X pins σ H s->t σ H Q->wpAny (model X.prog X.w) X.A (isTrue e X.env whole) (TP X pins σ Q) X.xe s
theorem PW.pt {X:Cx}{e:Expr}{t:TT}(h:PW X e t):PT X e t:=h _
def PA(X:Cx)(es:List Expr)(t:TA):Prop:=
 ∀(pos:Pos) (pins:List (Addr×Obj)) (s:Shared) (σ:St) (H:Hp) (Q:List V->Hp->Prop),Inv X pins σ H s->t σ H Q->wpAny (model X.prog X.w) X.A (spliced (backTo pos (starEach es X.env))) (AP X pins σ Q) X.xe s
def PS(X:Cx)(st:Stmt)(t:TS):Prop:=
 ∀(pins:List (Addr×Obj)) (s:Shared) (σ:St) (H:Hp) (D:Ends),Inv X pins σ H s->t D σ H->wpAny (model X.prog X.w) X.A (exec st X.env) (SP X pins D) X.xe s
def jB(X:Cx)(st:List Stmt)(t:TS):Prop:=
 ∀(pins:List (Addr×Obj)) (s:Shared) (σ:St) (H:Hp) (D:Ends),Inv X pins σ H s->t D σ H->wpAny (model X.prog X.w) X.A (execs st X.env) (SP X pins D) X.xe s
theorem du{α:Type}{t:Sem α}{Q Q':α->Shared->Prop}{M:Model}{A:Around}{E:Value->Shared->Prop}{s:Shared}(h:wpAny M A t Q E s)(hQ:∀a s,Q a s->Q' a s):wpAny M A t Q' E s:=dC h hQ fun _ _ x=>x
end L2
namespace L2
open PySem PySem.Spec PyProof.Rows
section
variable {X:Cx}
def Qc(i:Nat):TE:=fun σ H Q=>∃v,σ[i]?=some (some v)/\Q v H
def tC(v:V):TE:=fun _ H Q=>Q v H
theorem BK{i:Nat}{x:Str}{pos:Pos}(hN:X.N[i]?=some x)(hv:Hn X.env.scope x)(hd:(x==("__debug__":Str))=false:=by decide) (n6:(x==("__classdict__":Str))=false:=by decide):PE X (.Name x pos) (Qc i):=by
 intro pins s σ H Q I h;obtain⟨v,e,h⟩:=h;obtain⟨m,hn,hl⟩:=I.loc;obtain⟨u,r,l⟩:=hl i x v hN e hv;have fin:EP X pins σ Q u s:=⟨v,H,I,r,h⟩;rcases l with⟨hk,hm⟩|⟨hk,c,hc,nM⟩
 ·exact gC (lF I.ok.kind hk hn hm fin) hd
 ·rcases hk with hk|hk
  ·exact gC (pN I.ok.kind hk hc nM fin) hd
  ·exact gC (wpAny_loadName_free I.ok.kind hk hc nM fin n6) hd
theorem Hq{i j pos}:PE X (.Constant (.int i) j pos) (tC (.int i)):=fun _ _ _ H _ I h=>wpAny_Constant_int ⟨.int i,H,I.tok _,⟨_,rfl⟩,h⟩
theorem Ln{b j pos}:PE X (.Constant (.bool b) j pos) (tC (.bl b)):=fun _ _ _ H _ I h=>Constant_bool ⟨.bl b,H,I,rfl,h⟩
theorem Hr{j pos}:PE X (.Constant .none j pos) (tC .cg):=fun _ _ _ H _ I h=>Constant_none ⟨.cg,H,I,rfl,h⟩
def Gl(X:Cx)(x:Str):Prop:=X.env.kindOf x=some .globalImplicit
theorem Eh{E:Value->Shared->Prop}{pins:List (Addr×Obj)}{s:Shared}{σ:St}{H:Hp}{x:Str}{u:Value}{pos:Pos}{Q:Value->Shared->Prop}(I:Inv X pins σ H s)(hg:Gl X x)(hm:X.mg x=some u)(h:Q u s)
  (hd:(x==("__debug__":Str))=false:=by decide):wpAny (model X.prog X.w) X.A (eval (.Name x pos) X.env) Q E s:=
 Calls.Name_function_global I.ok.kind hg (Calls.loadGlobal_global (by rw[I.ok.glob];exact I.mod.glob.keeps I.bk) hm h) hd
theorem kF{E:Value->Shared->Prop}{pins:List (Addr×Obj)}{s:Shared}{σ:St}{H:Hp}{x:Str}{u:Value}{pos:Pos}{Q:Value->Shared->Prop}(I:Inv X pins σ H s)(hg:Gl X x)(hm:X.mg x=none)(hv:bootBuiltins x=some u)(h:Q u s)
  (hn:x≠"__name__":=by decide) (hd:(x==("__debug__":Str))=false:=by decide):wpAny (model X.prog X.w) X.A (eval (.Name x pos) X.env) Q E s:=by
 obtain⟨mb,h1,h2⟩:=I.mod.blt;exact Calls.Name_function_global I.ok.kind hg (Calls.loadGlobal_builtin (by rw[I.ok.glob];exact I.mod.glob.keeps I.bk) hm (by rw[I.ok.blt];exact h1.keeps I.bk) ((h2 x hn).trans hv) h) hd
theorem Ei{x:Str}{v:V}{u:Value}{pos:Pos}(hg:Gl X x)(hm:X.mg x=none)(hv:bootBuiltins x=some u)(r:RelV v u)(hn:x≠"__name__":=by decide) (hd:(x==("__debug__":Str))=false:=by decide):PE X (.Name x pos) (tC v):=
 fun _ _ _ H _ I h=>kF I hg hm hv ⟨v,H,I,r,h⟩ hn hd
variable {a b:Expr}{ta tb:TE}{pos:Pos}
def tB(t:TE):TT:=fun σ H Q=>t σ H fun x H1=>∃c,x=.bl c/\Q c H1
variable {tA ON:TT}{rest:List Expr}
def Qd(t u:TT):TT:=fun σ H Q=>t σ H fun c H1=>if c=true then u σ H1 Q else Q false H1
def Uv(t u:TT):TT:=fun σ H Q=>t σ H fun c H1=>if c=true then Q true H1 else u σ H1 Q
def Qe(t:TT):TT:=fun σ H Q=>t σ H fun c H1=>Q (!c) H1
theorem pw_and1(ha:PT X a tA):PW X (.BoolOp .And [a] pos) tA:=by
 intro wh pins s σ H Q I h;refine isTrue_and (du (ha pins s σ H Q I h) fun c s1 e=>?_);cases c with
 |true=>exact isTrue_and_nil e
 |false=>exact e
theorem pw_or1(ha:PT X a tA):PW X (.BoolOp .Or [a] pos) tA:=by
 intro wh pins s σ H Q I h;refine isTrue_or (du (ha pins s σ H Q I h) fun c s1 e=>?_);cases c with
 |false=>exact isTrue_or_nil e
 |true=>exact e
theorem pw_and(ha:PT X a tA)(hb:PW X (.BoolOp .And (b::rest) pos) ON):PW X (.BoolOp .And (a::b::rest) pos) (Qd tA ON):=by
 intro wh pins s σ H Q I h;refine isTrue_and (du (ha pins s σ H _ I h) fun c s1 ⟨H1,I1,q1⟩=>?_);cases c with
 |true=>exact hb wh pins s1 σ H1 Q I1 q1
 |false=>exact⟨H1,I1,q1⟩
theorem pw_or(ha:PT X a tA)(hb:PW X (.BoolOp .Or (b::rest) pos) ON):PW X (.BoolOp .Or (a::b::rest) pos) (Uv tA ON):=by
 intro wh pins s σ H Q I h;refine isTrue_or (du (ha pins s σ H _ I h) fun c s1 ⟨H1,I1,q1⟩=>?_);cases c with
 |true=>exact⟨H1,I1,q1⟩
 |false=>exact hb wh pins s1 σ H1 Q I1 q1
theorem BL(ha:PT X a tA):PT X (.UnaryOp .Not a pos) (Qe tA):=by
 intro pins s σ H Q I h;exact isTrue_not (ha pins s σ H (fun c H1=>Q (!c) H1) I h)
theorem Hs{op}{t:TE}(h:PE X a t):PE X (.BoolOp op [a] pos) t:=fun pins s σ H Q I hw=>BoolOp_one (h pins s σ H Q I hw)
end
end L2
namespace L2
open PySem PySem.Spec PyProof.Rows
def iw(K:PySem.W.Frag)(H:Hp)(a:Addr)(xs:List V):Prop:=
 Rd H a (.lst xs)\/
  ∃(o:Obj) (aV:Array Value) (n:Nat),K.lookup a=some o/\o.cls=.type "list"/\o.dict=none/\o.data=.seq aV n/\aV.size<=sizeLine/\Vals xs aV.toList
def gW(K:PySem.W.Frag)(H:Hp)(a:Addr)(xs:List V):Prop:=
 Rd H a (.tup xs)\/
  ∃(o:Obj) (aV:Array Value) (n:Nat),K.lookup a=some o/\o.cls=.type "tuple"/\o.data=.seq aV n/\aV.size<=sizeLine/\Vals xs aV.toList
def Qg:Value->Option V
 |.none=>some .cg
 |.bool b=>some (.bl b)
 |.int i _=>some (.int i)
 |.str x _=>some (.str x)
 |.bytes b _=>some (.Hk b)
 |.float b _=>some (.F7 b)
 |.ref a=>some (.ref a)
 |.type n=>some (.ty n)
 |_=>none
theorem RelV.abs {x:V}{u:Value}(r:RelV x u):Qg u=some x:=by
 cases x with
 |cg=>cases r;rfl
 |bl _=>cases r;rfl
 |int _=>obtain⟨t,rfl⟩:=r;rfl
 |str _=>obtain⟨t,rfl⟩:=r;rfl
 |Hk _=>obtain⟨t,rfl⟩:=r;rfl
 |F7 _=>obtain⟨t,rfl⟩:=r;rfl
 |ref _=>cases r;rfl
 |ty _=>cases r;rfl
theorem RelV.inj {x y:V}{u:Value}(r:RelV x u)(q:RelV y u):x=y:=Option.some.inj (r.abs.symm.trans q.abs)
theorem Vals.inj:∀{xs ys:List V} {us:List Value},Vals xs us->Vals ys us->xs=ys
 |_,_,_,.nil,.nil=>rfl
 |_,_,_,.cons r t,.cons r' t'=>by rw[r.inj r',Vals.inj t t']
section
variable {X:Cx}{pins:List (Addr×Obj)}{σ:St}{H:Hp}{s:Shared}{a:Addr}{xs ys:List V}
theorem iw.of {K:PySem.W.Frag}(h:H a=some (.lst xs)):iw K H a xs:=.inl (.inl h)
theorem Inv.list (I:Inv X pins σ H s)(h:iw X.K H a xs):∃aV:List Value,Vals xs aV/\PlainL s.heap a aV.toArray/\xs.length<=sizeLine:=by
 rcases h with h|⟨o,aV,n,hk,hc,hd,hs,hz,r⟩
 ·obtain⟨z,aV,n,r,e⟩:=h.ok I.bN;exact⟨aV,r,⟨_,n,e,rfl,rfl,rfl⟩,z⟩
 ·refine⟨aV.toList,r,⟨o,n,I.n5 a o hk,hc,hd,by simpa using hs⟩,?_⟩;have e:=r.length;simp only[bK]at e;omega
theorem Inv.tuple (I:Inv X pins σ H s)(h:gW X.K H a xs):∃aV:List Value,Vals xs aV/\IsTup s.heap a aV.toArray/\xs.length<=sizeLine:=by
 rcases h with h|⟨o,aV,n,hk,hc,hs,hz,r⟩
 ·obtain⟨z,aV,r,p⟩:=h.ok I.bN;exact⟨aV,r,p.tup,z⟩
 ·refine⟨aV.toList,r,⟨o,I.n5 a o hk,hc,n,by simpa using hs⟩,?_⟩;have e:=r.length;simp only[bK]at e;omega
theorem Inv.BM (I:Inv X pins σ H s)(h:iw X.K H a xs)(h':iw X.K H a ys):xs=ys:=by
 obtain⟨aV,r,⟨o,n,e,_,_,d⟩,_⟩:=I.list h;obtain⟨ud,r',⟨o',n',e',_,_,d'⟩,_⟩:=I.list h';rw[e]at e';cases e';rw[d]at d';injection d' with d1 _
 have:aV=ud:=by simpa using bB Array.toList d1
 subst this;exact r.inj r'
theorem Inv.j_ (I:Inv X pins σ H s)(h:gW X.K H a xs)(h':gW X.K H a ys):xs=ys:=by
 obtain⟨aV,r,⟨o,e,_,n,d⟩,_⟩:=I.tuple h;obtain⟨ud,r',⟨o',e',_,n',d'⟩,_⟩:=I.tuple h';rw[e]at e';cases e';rw[d]at d';injection d' with d1 _
 have:aV=ud:=by simpa using bB Array.toList d1
 subst this;exact r.inj r'
end
abbrev Cx.rU (X:Cx)(E:Value->Shared->Prop):Cx:={X with xe:=E}
abbrev Cx.Bz (X:Cx):Cx:=X.rU fun _ _=>False
theorem Cx.Ok.rU {X:Cx}(ok:X.Ok)(E:Value->Shared->Prop):(X.rU E).Ok:=
 ⟨ok.mod,ok.kind,ok.glob,ok.blt,ok.above,ok.inj,ok.has,ok.Li,ok.hd,ok.frames,ok.Kp,ok.P9,ok.bs,ok.F8,ok.Ag,ok.BG,ok.p9,ok.Kq⟩
theorem Cx.Ok.jC {X:Cx}{E:Value->Shared->Prop}(ok:(X.rU E).Ok):X.Ok:=
 ⟨ok.mod,ok.kind,ok.glob,ok.blt,ok.above,ok.inj,ok.has,ok.Li,ok.hd,ok.frames,ok.Kp,ok.P9,ok.bs,ok.F8,ok.Ag,ok.BG,ok.p9,ok.Kq⟩
section
variable {X:Cx}{pins:List (Addr×Obj)}{σ:St}{H:Hp}{s:Shared}{E:Value->Shared->Prop}
theorem Inv.rU (I:Inv X pins σ H s)(E:Value->Shared->Prop):Inv (X.rU E) pins σ H s:=⟨I.ok.rU E,I.os,I.bare,I.base,I.loc,I.cell,I.free,I.f7,I.pin,I.bN,I.len⟩
theorem Inv.jC (I:Inv (X.rU E) pins σ H s):Inv X pins σ H s:=⟨I.ok.jC,I.os,I.bare,I.base,I.loc,I.cell,I.free,I.f7,I.pin,I.bN,I.len⟩
theorem SP.jC {D:Ends}{f:Flow}{s':Shared}(h:SP (X.rU E) pins D f s'):SP X pins D f s':=by
 cases f with
 |next=>obtain⟨bP,H',I,q⟩:=h;exact⟨bP,H',I.jC,q⟩
 |brk=>obtain⟨bP,H',I,q⟩:=h;exact⟨bP,H',I.jC,q⟩
 |cont=>obtain⟨bP,H',I,q⟩:=h;exact⟨bP,H',I.jC,q⟩
 |ret u=>obtain⟨v,bP,H',I,r,q⟩:=h;exact⟨v,bP,H',I.jC,r,q⟩
theorem jB.Bz {st:List Stmt}{t:TS}(h:jB X.Bz st t):jB X st t:=fun pins s σ H D I hw=>
 dC (h pins s σ H D (I.rU _) hw) (fun _ _ q=>q.jC) fun _ _ z=>False.elim z
end
section
variable {X:Cx}{st:Stmt}{rest:List Stmt}{t u:TS}{e:Expr}{te:TE}{pos:Pos}
def Lo:TS:=fun D σ H=>D.nx σ H
def Qh(t u:TS):TS:=fun D σ H=>t {D with nx:=u D} σ H
theorem yK:jB X [] Lo:=fun _ _ σ H _ I h=>lR ⟨σ,H,I,h⟩
theorem vw(h1:PS X st t)(h2:jB X rest u):jB X (st::rest) (Qh t u):=by
 intro pins s σ H D I h;refine wpAny_execs_cons (du (h1 pins s σ H {D with nx:=u D} I h) fun f s1 q=>?_);cases f with
 |next=>
  obtain⟨bP,H',I',q⟩:=q;exact h2 pins s1 bP H' D I' q
 |ret v=>exact q
 |brk=>exact q
 |cont=>exact q
theorem yL(h1:PS X st t):jB X [st] t:=by
 intro pins s σ H D I h;refine wpAny_execs_cons (du (h1 pins s σ H D I h) fun f s1 q=>?_);cases f with
 |next=>exact lR q
 |ret v=>exact q
 |brk=>exact q
 |cont=>exact q
theorem Inv.quiet {pins:List (Addr×Obj)}{σ:St}{H:Hp}{s:Shared}(I:Inv X pins σ H s):interactive X.env=false:=by simp[interactive,I.ok.kind]
def Lp(te:TE):TS:=fun D σ H=>te σ H fun _ H1=>D.nx σ H1
theorem Ej(he:PE X e te)(hs:swapsWith e none pos.line X.env=pure false:=by rfl):PS X (.Expr e pos) (Lp te):=by
 intro pins s σ H D I h;exact wpAny_Expr_any (du (he pins s σ H _ I h) fun v s1 ⟨x,H1,I1,r1,q1⟩=>⟨σ,H1,I1,q1⟩) I.quiet hs
def Qi(te:TE):TS:=fun D σ H=>te σ H D.rt
theorem BN(he:PE X e te):PS X (.Return (some e) pos) (Qi te):=by
 intro pins s σ H D I h;exact wpAny_Return_some (du (he pins s σ H _ I h) fun v s1 ⟨x,H1,I1,r1,q1⟩=>⟨x,σ,H1,I1,r1,q1⟩)
def Qj(c:TT)(t u:TS):TS:=fun D σ H=>c σ H fun b H1=>if b=true then t D σ H1 else u D σ H1
theorem F_{c:Expr}{a b:List Stmt}{tc:TT}(hc:PT X c tc)(ha:jB X a t)(hb:jB X b u):PS X (.If c a b pos) (Qj tc t u):=by
 intro pins s σ H D I h;refine wpAny_If (du (hc pins s σ H _ I h) fun d s1 ⟨H1,I1,q1⟩=>?_);cases d with
 |true=>exact ha pins s1 σ H1 D I1 q1
 |false=>exact hb pins s1 σ H1 D I1 q1
end
abbrev TG:=V->St->Hp->(St->Hp->Prop)->Prop
abbrev Ht:=List V->St->Hp->(St->Hp->Prop)->Prop
def PG(X:Cx)(target:Expr)(t:TG):Prop:=
 ∀(pins:List (Addr×Obj)) (s:Shared) (σ:St) (H:Hp) (v:V) (u:Value) (Q:St->Hp->Prop),Inv X pins σ H s->RelV v u->t v σ H Q->
  wpAny (model X.prog X.w) X.A (assign target X.env u) (fun _ s'=>∃bP H',Inv X pins bP H' s'/\Q bP H') X.xe s
def Ek(X:Cx)(ts:List Expr)(t:Ht):Prop:=
 ∀(pins:List (Addr×Obj)) (s:Shared) (σ:St) (H:Hp) (vs:List V) (us:List Value) (Q:St->Hp->Prop),Inv X pins σ H s->Vals vs us->t vs σ H Q->
  wpAny (model X.prog X.w) X.A (assignInOrder ((assignEach ts X.env).map (·.2)) us) (fun _ s'=>∃bP H',Inv X pins bP H' s'/\Q bP H') X.xe s
abbrev Qk:=V->V->Hp->VK->Prop
def Uw(X:Cx)(op:Operator)(t:Qk):Prop:=
 ∀(pins:List (Addr×Obj)) (s:Shared) (σ:St) (H:Hp) (x y:V) (v u:Value) (Q:VK),Inv X pins σ H s->RelV x v->RelV y u->t x y H Q->
  wpAny (model X.prog X.w) X.A (inplaceOp op v u) (EP X pins σ Q) X.xe s
section
variable {X:Cx}{pos:Pos}
def BO(i:Nat):TG:=fun v σ H Q=>Q (σ.set i (some v)) H
theorem ue{i:Nat}{x:Str}(hN:X.N.Nodup)(hi:X.N[i]?=some x)(hx:Loc X.env.scope x)(hf:X.fn x=true\/X.env.scope.names.lookup x=some .local:=by first|exact .inl rfl|exact .inr rfl|assumption):PG X (.Name x pos) (BO i):=by
 intro pins s σ H v u Q I r h;exact wpAny_assign_Name (p_ I hN hi hx r (fun s' I'=>⟨_,H,I',h⟩) hf)
def Ql:Ht:=fun vs σ H Q=>vs=[]/\Q σ H
def Lq(t:TG)(u:Ht):Ht:=fun vs σ H Q=>∃v r,vs=v::r/\t v σ H fun bP H'=>u r bP H' Q
theorem El:Ek X [] Ql:=by
 intro pins s σ H vs us Q I r h;obtain⟨e,h⟩:=h;subst e;cases r;exact assignInOrder_nil ⟨σ,H,I,h⟩
theorem BP{e:Expr}{es:List Expr}{t:TG}{u:Ht}(h1:PG X e t)(h2:Ek X es u)
  (hs:(assignEach (e::es) X.env).map (·.2)=assign e X.env::(assignEach es X.env).map (·.2):=by rfl):Ek X (e::es) (Lq t u):=by
 intro pins s σ H vs us Q I r h;obtain⟨v,vr,e1,h⟩:=h;subst e1;cases r with
 |cons r rr=>
  rw[hs];refine assignInOrder_cons (du (h1 pins s σ H _ _ _ I r h) fun _ s1 ⟨Ga,H1,I1,q1⟩=>?_);exact h2 pins s1 Ga H1 _ _ Q I1 rr q1
def Qm(K:PySem.W.Frag)(n:Nat)(t:Ht):TG:=fun v σ H Q=>∃a xs,v=.ref a/\gW K H a xs/\xs.length=n/\t xs σ H Q
theorem Hv{es:List Expr}{k:Nat}{t:Ht}{n:Nat}(hc:X.calm=true)(h:Ek X es t)
  (hn:(assignEach es X.env).length=n:=by rfl) (cZ:(assignEach es X.env).findIdx? (·.1)=none:=by rfl):PG X (.Tuple es k pos) (Qm X.K n t):=by
 intro pins s σ H v u Q I r hw;obtain⟨a,xs,e1,hq,hl,hw⟩:=hw;subst e1;cases r;obtain⟨aV,rv,ht,hz⟩:=I.tuple hq;refine assign_Tuple_tuple (I.ok.hd hc) ht (by simp[hn,<-hl,rv.length]) cZ fun h' hx=>?_
 have I1:Inv X pins σ H {s with heap:=h'}:=I.kept (t':=s.toks) fun b o e=>hx b o (aS (aw e)) e;exact h pins _ σ H xs _ Q I1 (by simpa using rv) hw
def Qn(te:TE)(g:TG):TS:=fun D σ H=>te σ H fun x H1=>g x σ H1 D.nx
theorem BQ{i:Nat}{x:Str}{e:Expr}{te:TE}{pos':Pos}(hN:X.N.Nodup)(hi:X.N[i]?=some x)(hx:Loc X.env.scope x)(he:PE X e te)(hs:swapsWith e (some (.Name x pos')) pos.line X.env=pure false:=by rfl) (hf:X.fn x=true\/X.env.scope.names.lookup x=some .local:=by first|exact .inl rfl|exact .inr rfl|assumption):
  PS X (.Assign [.Name x pos'] e pos) (Qn te (BO i)):=by
 intro pins s σ H D I h;refine wpAny_Assign_Name (du (he pins s σ H _ I h) fun v s1 ⟨y,H1,I1,r1,q1⟩=>?_) hs;exact p_ I1 hN hi hx r1 (fun s2 I2=>⟨_,H1,I2,q1⟩) hf
def Qo(i:Nat)(te:TE)(ti:Qk):TS:=fun D σ H=>∃x,σ[i]?=some (some x)/\te σ H fun y H1=>ti x y H1 fun z H2=>D.nx (σ.set i (some z)) H2
theorem Hw{i:Nat}{x:Str}{e:Expr}{te:TE}{op:Operator}{ti:Qk}{pos':Pos}(hN:X.N.Nodup)(hi:X.N[i]?=some x)(hx:Loc X.env.scope x)(he:PE X e te)(ho:Uw X op ti)(hf:X.fn x=true\/X.env.scope.names.lookup x=some .local:=by first|exact .inl rfl|exact .inr rfl|assumption):
  PS X (.AugAssign (.Name x pos') op e pos) (Qo i te ti):=by
 intro pins s σ H D I h;obtain⟨v,e1,h⟩:=h;obtain⟨m,hn,hl⟩:=I.loc;have fY:Hn X.env.scope x:=by rcases hx with k|k;exact .inl k;exact .inr (.inl k)
 obtain⟨u,r,l⟩:=hl i x v hi e1 fY;refine wpAny_AugAssign_Name ?_
 have go:wpAny (model X.prog X.w) X.A (eval e X.env) (fun w mV=>wpAny (model X.prog X.w) X.A (inplaceOp op u w) (fun r xp=>wpAny (model X.prog X.w) X.A (storeName X.env x r) (fun _=>SP X pins D .next) X.xe xp) X.xe mV) X.xe s:=by
  refine du (he pins s σ H _ I h) fun w s1 ⟨y,H1,I1,r1,q1⟩=>?_
  refine du (ho pins s1 σ H1 v y u w _ I1 r r1 q1) fun z s2 ⟨zv,H2,I2,r2,q2⟩=>?_
  exact p_ I2 hN hi hx r2 (fun s3 I3=>⟨_,H2,I3,q2⟩) hf
 rcases l with⟨hk,hm⟩|⟨hk,c,hc,nM⟩
 ·exact lF I.ok.kind hk hn hm go
 ·rcases hk with hk|hk
  ·exact pN I.ok.kind hk hc nM go
  ·rcases hx with k|k
   ·have:X.env.scope.names.lookup x=some .free:=hk;rw[k]at this;cases this
   ·have:X.env.scope.names.lookup x=some .free:=hk;rw[k]at this;cases this
end
section
variable {X:Cx}{pos:Pos}
def Hx(c:TT)(tb:TS):TS:=fun D σ H=>∃W:Nat->St->Hp->Prop,(∃m,W m σ H)/\∀m σ H,W m σ H->
 c σ H fun b H1=>if b=true then∃N:St->Hp->Prop,(∀bP H',N bP H'->∃m',m'<m/\W m' bP H')/\tb {D with nx:=N,ct:=N,bk:=D.nx} σ H1 else D.nx σ H1
theorem BR{c:Expr}{body:List Stmt}{tc:TT}{tb:TS}(hp:PassesOwn (model X.prog X.w) X.A X.env X.xe)(hc:PT X c tc)(hb:jB X body tb):PS X (.While c body [] pos) (Hx tc tb):=by
 intro pins s σ H D I h;obtain⟨W,⟨m0,w0⟩,turn⟩:=h;refine wpAny_While (codeAny_whileLoop (fun n s'=>∃bP H',Inv X pins bP H' s'/\W n bP H') ?_ m0 ⟨σ,H,I,w0⟩)
 rintro n s1 ⟨Ga,H1,I1,w1⟩
 refine gv hp (du (hc pins s1 Ga H1 _ I1 (turn n Ga H1 w1)) fun b s2 ⟨H2,I2,q2⟩=>?_);cases b with
 |true=>
  obtain⟨N,hN,q2⟩:=q2;rw[ab rfl];refine gv hp (du (hb pins s2 Ga H2 _ I2 q2) fun f s3 q3=>?_);cases f with
  |next=>
   obtain⟨xq,H3,I3,n3⟩:=q3;obtain⟨m',hm,w3⟩:=hN xq H3 n3;exact⟨m',hm,xq,H3,I3,w3⟩
  |cont=>
   obtain⟨xq,H3,I3,n3⟩:=q3;obtain⟨m',hm,w3⟩:=hN xq H3 n3;exact⟨m',hm,xq,H3,I3,w3⟩
  |brk=>exact q3
  |ret v=>exact q3
 |false=>
  rw[ae cz];exact lR ⟨Ga,H2,I2,q2⟩
end
structure It where
 go:Nat->Hp->Prop
 yM:Nat->Hp->V->Hp->Prop
 stop:Nat->Hp->Prop
def ja(X:Cx)(pins:List (Addr×Obj))(H:Hp)(b:Addr):Prop:=
 H b=none/\b≠X.env.locals/\b∉X.fs/\(b∈X.ex\/X.eP.heap.objs.size<=b)/\(∀x c,X.env.cells.lookup x=some c->c≠b)/\∀p∈X.pn++pins,p.1≠b
theorem Inv.vx {X:Cx}{pins:List (Addr×Obj)}{σ:St}{H H':Hp}{s:Shared}{b:Addr}(I:Inv X pins σ H s)(hb:s.heap.objs.size<=b)(hn:H' b=none):ja X pins H' b:=by
 refine⟨hn,cp (bx I.lt hb),I.Qa hb,.inr (bt I.sz hb),fun x c e z=>?_,fun p hp z=>?_⟩
 ·obtain⟨v,q⟩:=I.cell x c e;exact absurd (bx q.lt (by rw[z];exact hb)) (cA _)
 ·exact absurd (bx (aw (I.pin p hp).1) (by rw[z];exact hb)) (cA _)
structure Turn(P:Program)(w:World)(K:PySem.W.Frag)(tg:Expr)(J:It)(fp:List Addr)(it:Addr)(tn:Nat->Heap->Prop):Prop where
 mem:it∈fp
 obj:∀i h,tn i h->∀b∈fp,∃o,h.get? b=some o/\∀v,o.data≠ .cell v
 keep:∀i h h',tn i h->(∀b∈fp,∀o,h.get? b=some o->h'.get? b=some o)->tn i h'
 item:∀(X:Cx),X.prog=P->X.w=w->X.K=K->X.calm=true->∀(i:Nat) (pins:List (Addr×Obj)) (s:Shared) (σ:St) (H:Hp) (E:Value->Shared->Prop),Inv X pins σ H s->(∀b∈fp,ja X pins H b)->tn i s.heap->J.go i H->
  wpAny (model P w) X.A (pyNext (.ref it)) (fun r s1=>∃u,r=some u/\
   wpAny (model P w) X.A (letOwnedTupleGo tg (.ref it) u) (fun _ s2=>∃x H',Inv X pins σ H' s2/\RelV x u/\J.yM i H x H'/\tn (i+1) s2.heap/\∀b∈fp,H' b=none) E s1) E s
 done:∀(X:Cx),X.prog=P->X.w=w->X.K=K->X.calm=true->∀(i:Nat) (pins:List (Addr×Obj)) (s:Shared) (σ:St) (H:Hp) (E:Value->Shared->Prop),Inv X pins σ H s->(∀b∈fp,ja X pins H b)->tn i s.heap->J.stop i H->
  wpAny (model P w) X.A (pyNext (.ref it)) (fun r s1=>r=none/\Inv X pins σ H s1) E s
 self:∀(A:Around) (i:Nat) (s:Shared) (Q:Value->Shared->Prop) (E:Value->Shared->Prop),tn i s.heap->Q (.ref it) s->wpAny (model P w) A (pyIter (.ref it)) Q E s
abbrev TI:=St->Hp->(It->Hp->Prop)->Prop
def OO(X:Cx)(pins:List (Addr×Obj))(σ:St)(tg:Expr)(R:It->Hp->Prop)(OP:Value)(s2:Shared):Prop:=
 ∃(it:Addr) (fp:List Addr) (tn:Nat->Heap->Prop) (J:It) (H':Hp),OP=.ref it/\Inv X pins σ H' s2/\Turn X.prog X.w X.K tg J fp it tn/\tn 0 s2.heap/\(∀b∈fp,ja X pins H' b)/\R J H'
def PI(X:Cx)(tg iter:Expr)(wi:TI):Prop:=
 ∀(pins:List (Addr×Obj)) (s:Shared) (σ:St) (H:Hp) (R:It->Hp->Prop),Inv X pins σ H s->wi σ H R->
  wpAny (model X.prog X.w) X.A (eval iter X.env) (fun v s1=>wpAny (model X.prog X.w) X.A (pyIter v) (OO X pins σ tg R) X.xe s1) X.xe s
theorem vy{M:Model}{A:Around}{E:Value->Shared->Prop}{s:Shared}{tg:Expr}{it:Addr}{u:Value}{o:Obj}{n:String}{vs:Array Value}{Q:Unit->Shared->Prop}(ho:s.heap.get? it=some o)(hc:o.cls=.type n)(hd:o.data=.fields vs)
  (hn:["enumerate","zip","dict_itemiterator","dict_reverseitemiterator","odict_iterator","itertools.zip_longest","itertools.pairwise"].contains n=false) (hQ:Q () s):wpAny M A (letOwnedTupleGo tg (.ref it) u) Q E s:=by
 unfold letOwnedTupleGo;cases tg<;>first
  |exact af hQ
  |(cases u<;>first
    |exact af hQ
    |(refine aa (jy ho ?_)
      rw[hc,hd];show wpAny M A (if(["enumerate","zip","dict_itemiterator","dict_reverseitemiterator","odict_iterator","itertools.zip_longest","itertools.pairwise"].contains n&&vs[0]?==some (rawInt _))=true then _ else _) Q E s;rw[ae (by intro h;rw[hn,Bool.false_and]at h;cases h)];exact af hQ))
def OQ(K:PySem.W.Frag)(a:Addr):It:=
 ⟨fun i H=>∃xs x,iw K H a xs/\xs[i]?=some x,fun i H x H'=>H'=H/\∀xs,iw K H a xs->xs[i]?=some x,fun i H=>∃xs,iw K H a xs/\xs.length<=i⟩
def S4(K:PySem.W.Frag)(a:Addr):It:=
 ⟨fun i H=>∃xs x,gW K H a xs/\xs[i]?=some x,fun i H x H'=>H'=H/\∀xs,gW K H a xs->xs[i]?=some x,fun i H=>∃xs,gW K H a xs/\xs.length<=i⟩
def OR(lo:Int)(n:Nat):It:=⟨fun i _=>i<n,fun i H x H'=>H'=H/\x=.int (lo+i),fun i _=>n<=i⟩
theorem sr{P:Program}{w:World}{K:PySem.W.Frag}{tg:Expr}(a it:Addr):Turn P w K tg (OQ K a) [it] it (fun i h=>h.IsListIter it a i) where
 mem:=by simp
 obj:=fun i h st b hb=>by
  have e:b=it:=by simpa using hb
  subst e;obtain⟨o,e,c,d⟩:=st;exact⟨o,e,fun v z=>by rw[d]at z;cases z⟩
 keep:=fun i h h' st k=>st.at fun o e=>k it (by simp) o e
 item:=by
  intro X hP hw hK hc i pins s σ H E I hf st hg;subst hP hw hK;obtain⟨xs,x,hq,hx⟩:=hg;obtain⟨aV,rv,p,hz⟩:=I.list hq;obtain⟨u,hu,ru⟩:=rv.get hx;obtain⟨f0,f1,f2,f3,f4,f5⟩:=hf it (by simp);refine wpAny_pyNext_list_item st p.isList (x:=u) (by simpa using hu) fun h' rV sb=>?_
  have I1:Inv X pins σ H {s with heap:=h'}:=I.turned (t':=s.toks) (fun b o hb e=>(sb.2 b hb).trans e) f0 f1 f3 f4 f5;obtain⟨o,e,c,d⟩:=id rV;exact⟨u,rfl,vy (s:={s with heap:=h'}) e c d (by decide) ⟨x,H,I1,ru,⟨rfl,fun ys hy=>by rw[I.BM hy hq];exact hx⟩,rV,fun b hb=>(hf b hb).1⟩⟩
 done:=by
  intro X hP hw hK hc i pins s σ H E I hf st hg;subst hP hw hK;obtain⟨xs,hq,hx⟩:=hg;obtain⟨aV,rv,p,hz⟩:=I.list hq;obtain⟨f0,f1,f2,f3,f4,f5⟩:=hf it (by simp);have hl:=rv.length;exact wpAny_pyNext_list_end (I.ok.hd hc) st p.isList (by simp;omega) fun h' eb=>⟨rfl,I.turned (t':=s.toks) (fun b o hb e=>eb b o hb e) f0 f1 f3 f4 f5⟩
 self:=fun _ _ _ _ _ st h=>wpAny_pyIter_listiter st h
theorem xr{P:Program}{w:World}{K:PySem.W.Frag}{tg:Expr}(a it:Addr):Turn P w K tg (S4 K a) [it] it (fun i h=>h.IsTupleIter it a i) where
 mem:=by simp
 obj:=fun i h st b hb=>by
  have e:b=it:=by simpa using hb
  subst e;obtain⟨o,e,c,d⟩:=st;exact⟨o,e,fun v z=>by rw[d]at z;cases z⟩
 keep:=fun i h h' st k=>st.at fun o e=>k it (by simp) o e
 item:=by
  intro X hP hw hK hc i pins s σ H E I hf st hg;subst hP hw hK;obtain⟨xs,x,hq,hx⟩:=hg;obtain⟨aV,rv,p,hz⟩:=I.tuple hq;obtain⟨u,hu,ru⟩:=rv.get hx;obtain⟨f0,f1,f2,f3,f4,f5⟩:=hf it (by simp);refine pk st (show s.heap.IsTuple a aV.toArray from p) (x:=u) (by simpa using hu) fun h' rV sb=>?_
  have I1:Inv X pins σ H {s with heap:=h'}:=I.turned (t':=s.toks) (fun b o hb e=>(sb.2 b hb).trans e) f0 f1 f3 f4 f5;obtain⟨o,e,c,d⟩:=id rV;exact⟨u,rfl,vy (s:={s with heap:=h'}) e c d (by decide) ⟨x,H,I1,ru,⟨rfl,fun ys hy=>by rw[I.j_ hy hq];exact hx⟩,rV,fun b hb=>(hf b hb).1⟩⟩
 done:=by
  intro X hP hw hK hc i pins s σ H E I hf st hg;subst hP hw hK;obtain⟨xs,hq,hx⟩:=hg;obtain⟨aV,rv,p,hz⟩:=I.tuple hq;obtain⟨f0,f1,f2,f3,f4,f5⟩:=hf it (by simp);have hl:=rv.length;exact wpAny_pyNext_tuple_end (I.ok.hd hc) st (show s.heap.IsTuple a aV.toArray from p) (by simp;omega) fun h' eb=>⟨rfl,I.turned (t':=s.toks) (fun b o hb e=>eb b o hb e) f0 f1 f3 f4 f5⟩
 self:=fun _ _ _ _ _ st h=>wpAny_pyIter_tupleiter st h
theorem xt{P:Program}{w:World}{K:PySem.W.Frag}{tg:Expr}(it:Addr)(lo:Int)(n:Nat):Turn P w K tg (OR lo n) [it] it (fun i h=>IsRangeIter h it (lo+(i:Nat)*1) ((n:Int) - (i:Nat)) 1) where
 mem:=by simp
 obj:=fun i h st b hb=>by
  have e:b=it:=by simpa using hb
  subst e;exact⟨_,st,fun v z=>by
   have z':Data.fields _=Data.cell v:=z;cases z'⟩
 keep:=fun i h h' st k=>k it (by simp) _ st
 item:=by
  intro X hP hw hK hc i pins s σ H E I hf st hg;subst hP hw hK;obtain⟨f0,f1,f2,f3,f4,f5⟩:=hf it (by simp);have W:=Walks.range (prog:=X.prog) (w:=X.w) (I.ok.hd hc) it lo 1 n;refine W.item i s _ _ hg st fun v h' tk hv rV kk=>?_
  obtain⟨t,rfl⟩:=hv;have I1:Inv X pins σ H {s with heap:=h',toks:=tk}:=I.turned (fun b o hb e=>kk b o (by simpa using hb) e) f0 f1 f3 f4 f5;refine⟨_,rfl,vy (s:={s with heap:=h',toks:=tk}) (n:="range_iterator") rV rfl rfl (by decide) ⟨.int (lo+i),H,I1,⟨t,?_⟩,⟨rfl,rfl⟩,rV,fun b hb=>(hf b hb).1⟩⟩;rw[Int.mul_one]
 done:=by
  intro X hP hw hK hc i pins s σ H E I hf st hg;subst hP hw hK;obtain⟨f0,f1,f2,f3,f4,f5⟩:=hf it (by simp);exact wpAny_pyNext_range_end (I.ok.hd hc) st (by have:n<=i:=hg;omega) fun h' eb=>⟨rfl,I.turned (t':=s.toks) (fun b o hb e=>eb b o hb e) f0 f1 f3 f4 f5⟩
 self:=fun _ _ _ _ _ st h=>wpAny_pyIter_rangeiter st h
end L2
namespace L2
open PySem PySem.Spec PyProof.Rows
section
variable {X:Cx}{tg:Expr}
theorem BS{pins:List (Addr×Obj)}{σ:St}{H:Hp}{s:Shared}{R:It->Hp->Prop}{E:Value->Shared->Prop}{lo hi:Int}{t u v:Tok}{tk:Nat}(I:Inv X pins σ H s)(h1:-(2 ^62)<=lo)(h2:lo<2 ^62)(h3:-(2 ^62)<=hi)(h4:hi<2 ^62)
  (q:R (OR lo (hi - lo).toNat) H):wpAny (model X.prog X.w) X.A (pyIter (.ref s.heap.objs.size)) (OO X pins σ tg R) E {s with heap:=s.heap.push {cls:=.type "range",data:=.fields #[.int lo t,.int hi u,.int 1 v]},toks:=tk}:=by
 refine wpAny_pyIter_range (IsRange.new ..) (small_one h1 h2 h3 h4) ?_
 have I1:Inv X pins σ H {s with heap:=s.heap.push {cls:=.type "range",data:=.fields #[.int lo t,.int hi u,.int 1 v]},toks:=tk}:=I.kept fun b o e=>aB _ e;refine⟨(s.heap.push {cls:=.type "range",data:=.fields #[.int lo t,.int hi u,.int 1 v]}).objs.size,[(s.heap.push {cls:=.type "range",data:=.fields #[.int lo t,.int hi u,.int 1 v]}).objs.size],_,_,H,rfl,
  I1.kept (t':=tk) fun b o e=>aB _ e,xt _ lo (hi - lo).toNat,?_,fun b hb=>?_,q⟩
 ·have e1:lo+((0:Nat):Int)*1=lo:=by simp
  have e2:(((hi - lo).toNat:Nat):Int) - ((0:Nat):Int)=Builtin.Range.rangeSize lo hi 1:=by rw[rangeSize_one];split<;>omega
  show IsRangeIter _ _ (lo+((0:Nat):Int)*1) ((((hi - lo).toNat:Nat):Int) - ((0:Nat):Int)) 1;rw[e1,e2];exact aT _ rfl
 ·have e:b=(s.heap.push {cls:=.type "range",data:=.fields #[.int lo t,.int hi u,.int 1 v]}).objs.size:=by simpa using hb
  subst e;exact I1.vx (ar _) (I1.bN.fresh (ar _))
def Lr(ta:TA):TI:=fun σ H R=>ta σ H fun vs H1=>∃j:Int,vs=[.int j]/\-(2 ^62)<=j/\j<2 ^62/\R (OR 0 j.toNat) H1
theorem Ai{a:Expr}{ta:TA}{p pos:Pos}(hg:Gl X "range")(hm:X.mg "range"=none)(ha:PA X [a] ta)(hs:starEach [a] X.env=[(false,eval a X.env)]:=by rfl):PI X tg (.Call (.Name "range" p) [a] [] pos) (Lr ta):=by
 intro pins s σ H R I h;refine Call_ (kF I hg hm boot_range (oW (du (ha pos pins s σ H _ I h) fun us s1 ⟨vs,H1,I1,r1,q1⟩=>?_) hs rfl));obtain⟨j,e,q1,q2,q⟩:=q1;subst e;cases r1 with
 |cons r rr=>
  cases rr;obtain⟨t,rfl⟩:=r;exact call_range_1 (BS I1 (by omega) (by omega) q1 q2 (by simpa using q))
def Qp(wi:TI)(g:TG)(tb:TS):TS:=fun D σ H=>wi σ H fun J H1=>∃W:Nat->Nat->St->Hp->Prop,(∃m,W 0 m σ H1)/\∀i m σ H,W i m σ H->
 (J.stop i H/\D.nx σ H)\/(J.go i H/\∃N:St->Hp->Prop,(∀bP H',N bP H'->∃m',m'<m/\W (i+1) m' bP H')/\∀x H',J.yM i H x H'->g x σ H' fun rX H2=>tb {D with nx:=N,ct:=N,bk:=D.nx} rX H2)
def qa(fp:List Addr)(h:Heap):List (Addr×Obj):=fp.filterMap fun b=>(h.get? b).map fun o=>(b,o)
theorem iR{fp:List Addr}{h:Heap}{b:Addr}{o:Obj}(hb:b∈fp)(e:h.get? b=some o):(b,o)∈qa fp h:=ji.mpr ⟨b,hb,by rw[e];rfl⟩
theorem Aj{fp:List Addr}{h:Heap}{p:Addr×Obj}(hp:p∈qa fp h):p.1∈fp/\h.get? p.1=some p.2:=by
 obtain⟨b,hb,e⟩:=ji.mp hp;cases q:h.get? b with
 |none=>rw[q]at e;cases e
 |some o=>
  rw[q]at e;have e':(b,o)=p:=Option.some.inj e;subst e';exact⟨hb,q⟩
theorem Inv.pinned {pins:List (Addr×Obj)}{σ:St}{H:Hp}{s:Shared}{fp:List Addr}(I:Inv X pins σ H s)(hf:∀b∈fp,ja X pins H b)(ho:∀b∈fp,∃o,s.heap.get? b=some o/\∀v,o.data≠ .cell v):Inv X (pins++qa fp s.heap) σ H s:=
 I.yI fun p hp=>(eM.mp hp).elim (fun z=>I.pin p (eB _ z)) fun z=>by
   obtain⟨hb,e⟩:=Aj z;obtain⟨f0,f1,f2,_⟩:=hf p.1 hb;obtain⟨o,e',d⟩:=ho p.1 hb;rw[e]at e';cases e';exact⟨e,f0,f1,f2,d⟩
theorem Inv.l5 {pins pl:List (Addr×Obj)}{σ:St}{H:Hp}{s:Shared}(I:Inv X (pins++pl) σ H s):Inv X pins σ H s:=I.yI fun p hp=>I.pin p (eB _ (jf _ hp))
theorem xu{iter:Expr}{body:List Stmt}{wi:TI}{g:TG}{tb:TS}{pos:Pos}(hp:PassesOwn (model X.prog X.w) X.A X.env X.xe)(hc:X.calm=true)(hi:PI X tg iter wi)(hg:PG X tg g)(hb:jB X body tb)
  (hs:∀x,foldedSetIterable iter X.env x=pure x:=by intro _;rfl):PS X (.For tg iter body [] pos) (Qp wi g tb):=by
 intro pins s σ H D I h;refine wpAny_For (du (hi pins s σ H _ I h) fun v s1 h1=>du h1 fun OP s2 h2=>?_) hs;obtain⟨it,fp,tn,J,H2,e,I2,T,Em,f2,W,⟨m0,w0⟩,turn⟩:=h2;subst e;have xv:∀{H':Hp},(∀b∈fp,H' b=none)->∀b∈fp,ja X pins H' b:=fun hn b hb=>⟨hn b hb,(f2 b hb).2⟩;refine codeAny_forLoop_any (fun n s'=>∃i bP H',Inv X pins bP H' s'/\tn i s'.heap/\(∀b∈fp,H' b=none)/\W i n bP H') ?_ m0 ⟨0,σ,H2,I2,Em,fun b hb=>(f2 b hb).1,w0⟩
 rintro n s3 ⟨i,xq,H3,I3,S5,S6,w3⟩
 rcases turn i n xq H3 w3 with⟨stop,qn⟩|⟨go,N,hN,step⟩
 ·refine gv hp (du (T.done X rfl rfl rfl hc i pins s3 xq H3 X.xe I3 (xv S6) S5 stop) fun r s4 ⟨hr,I4⟩=>?_);subst hr;exact lR ⟨xq,H3,I4,qn⟩
 ·refine gv hp (du (T.item X rfl rfl rfl hc i pins s3 xq H3 X.xe I3 (xv S6) S5 go) fun r s4 ⟨u,hr,h4⟩=>?_);subst hr;refine gv hp (du h4 fun _ s5 ⟨x,H5,I5,r5,y5,Ku,OS⟩=>?_);have Ux:=I5.pinned (xv OS) (T.obj _ _ Ku);refine gv hp (du (hg _ s5 xq H5 x u _ Ux r5 (step x H5 y5)) fun _ s6 ⟨Uy,H6,I6,q6⟩=>?_);refine gv hp (du (hb _ s6 Uy H6 _ I6 q6) fun f s7 q7=>?_);have again:∀{BU:St} {H7:Hp},Inv X (pins++qa fp s5.heap) BU H7 s7->N BU H7->∃m,m<n/\∃i bP H',Inv X pins bP H' s7/\tn i s7.heap/\(∀b∈fp,H' b=none)/\W i m bP H':=fun{BU H7} I7 n7=>by
   obtain⟨m',hm,w7⟩:=hN BU H7 n7;refine⟨m',hm,i+1,BU,H7,I7.l5,T.keep _ _ _ Ku fun b hb o e=>(I7.pin (b,o) (eB _ (eB _ (iR hb e)))).1,fun b hb=>?_,w7⟩;obtain⟨o,e,d⟩:=T.obj _ _ Ku b hb;exact(I7.pin (b,o) (eB _ (eB _ (iR hb e)))).2.1
  cases f with
  |next=>obtain⟨BU,H7,I7,n7⟩:=q7;exact again I7 n7
  |cont=>obtain⟨BU,H7,I7,n7⟩:=q7;exact again I7 n7
  |brk=>obtain⟨BU,H7,I7,q7⟩:=q7;exact⟨BU,H7,I7.l5,q7⟩
  |ret v=>obtain⟨x7,BU,H7,I7,r7,q7⟩:=q7;exact⟨x7,BU,H7,I7.l5,r7,q7⟩
end
end L2
namespace L2
open PySem PySem.Spec PyProof.Rows
abbrev R2:=V->V->Hp->VK->Prop
def rO(X:Cx)(f:Value->Value->Sem Value)(r:R2):Prop:=
 ∀(pins:List (Addr×Obj)) (s:Shared) (σ:St) (H:Hp) (x y:V) (v u:Value) (Q:VK),Inv X pins σ H s->RelV x v->RelV y u->r x y H Q->
  wpAny (model X.prog X.w) X.A (f v u) (EP X pins σ Q) X.xe s
def gE(X:Cx)(f:Value)(r:List V->Hp->VK->Prop):Prop:=
 ∀(pins:List (Addr×Obj)) (s:Shared) (σ:St) (H:Hp) (xs:List V) (us:List Value) (Q:VK),Inv X pins σ H s->Vals xs us->r xs H Q->
  wpAny (model X.prog X.w) X.A (call f us) (EP X pins σ Q) X.xe s
def Qq(X:Cx)(r:V->Hp->(Bool->Hp->Prop)->Prop):Prop:=
 ∀(pins:List (Addr×Obj)) (s:Shared) (σ:St) (H:Hp) (x:V) (v:Value) (Q:Bool->Hp->Prop),Inv X pins σ H s->RelV x v->r x H Q->
  wpAny (model X.prog X.w) X.A (truthy v) (TP X pins σ Q) X.xe s
def Ls(r:R2)(ta tb:TE):TE:=fun σ H Q=>ta σ H fun x H1=>tb σ H1 fun y H2=>r x y H2 Q
def rI(C:Int->Int->Prop)(g:Int->Int->V):R2:=fun x y H Q=>∃i j,x=.int i/\y=.int j/\C i j/\Q (g i j) H
def Lu(g:Int->Int->V):R2:=fun x y H Q=>∃i j,x=.int i/\y=.int j/\Q (g i j) H
section
variable {X:Cx}{a b c:Expr}{ta tb tc:TE}{pos:Pos}
theorem Hy(ha:PE X a ta)(hb:PE X b tb){pins:List (Addr×Obj)}{s:Shared}{σ:St}{H:Hp}{R:V->V->Hp->Prop}(I:Inv X pins σ H s)
  (h:ta σ H fun x H1=>tb σ H1 fun y H2=>R x y H2) {Q:Value->Shared->Prop} {f:Value->Value->Sem Value}
  (hf:∀v u s2 x y H2,Inv X pins σ H2 s2->RelV x v->RelV y u->R x y H2->wpAny (model X.prog X.w) X.A (f v u) Q X.xe s2):
  wpAny (model X.prog X.w) X.A (eval a X.env) (fun v bU=>wpAny (model X.prog X.w) X.A (eval b X.env) (fun u mV=>wpAny (model X.prog X.w) X.A (f v u) Q X.xe mV) X.xe bU) X.xe s:=by
 refine du (ha pins s σ H _ I h) fun v s1 ⟨x,H1,I1,r1,q1⟩=>?_
 refine du (hb pins s1 σ H1 _ I1 q1) fun u s2 ⟨y,H2,I2,r2,q2⟩=>?_
 exact hf v u s2 x y H2 I2 r1 r2 q2
theorem Lw{op:Operator}{r:R2}(ho:rO X (binaryOp op) r)(ha:PE X a ta)(hb:PE X b tb):PE X (.BinOp a op b pos) (Ls r ta tb):=by
 intro pins s σ H Q I h;exact wpAny_BinOp (Hy ha hb I h fun v u s2 x y H2 I2 rx ry q=>ho pins s2 σ H2 x y v u Q I2 rx ry q)
theorem S7{f:Value->Value->Sem Value}{C:Int->Int->Prop}{g:Int->Int->Int}
  (rule:∀(i j:Int) (t u:Tok) (s:Shared) (Q:Value->Shared->Prop) (E:Value->Shared->Prop),C i j->Q (.int (g i j) s.toks) {s with toks:=s.toks+1}->wpAny (model X.prog X.w) X.A (f (.int i t) (.int j u)) Q E s):
  rO X f (rI C fun i j=>.int (g i j)):=by
 intro pins s σ H x y v u Q I rx ry h;obtain⟨i,j,rfl,rfl,hc,q⟩:=h;obtain⟨t,rfl⟩:=rx;obtain⟨t',rfl⟩:=ry;exact rule i j t t' s _ _ hc ⟨.int (g i j),H,I.tok _,⟨_,rfl⟩,q⟩
theorem Qr{f:Value->Value->Sem Value}{g:Int->Int->Int}
  (rule:∀(i j:Int) (t u:Tok) (s:Shared) (Q:Value->Shared->Prop) (E:Value->Shared->Prop),Q (.int (g i j) s.toks) {s with toks:=s.toks+1}->wpAny (model X.prog X.w) X.A (f (.int i t) (.int j u)) Q E s):
  rO X f (Lu fun i j=>.int (g i j)):=by
 intro pins s σ H x y v u Q I rx ry h;obtain⟨i,j,rfl,rfl,q⟩:=h;obtain⟨t,rfl⟩:=rx;obtain⟨t',rfl⟩:=ry;exact rule i j t t' s _ _ ⟨.int (g i j),H,I.tok _,⟨_,rfl⟩,q⟩
theorem Lx{f:Value->Value->Sem Value}{g:Int->Int->Bool}
  (rule:∀(i j:Int) (t u:Tok) (s:Shared) (Q:Value->Shared->Prop) (E:Value->Shared->Prop),Q (.bool (g i j)) s->wpAny (model X.prog X.w) X.A (f (.int i t) (.int j u)) Q E s):
  rO X f (Lu fun i j=>.bl (g i j)):=by
 intro pins s σ H x y v u Q I rx ry h;obtain⟨i,j,rfl,rfl,q⟩:=h;obtain⟨t,rfl⟩:=rx;obtain⟨t',rfl⟩:=ry;exact rule i j t t' s _ _ ⟨.bl (g i j),H,I,rfl,q⟩
def BV(i j:Int):Prop:=(-(2 ^64)<i/\i<2 ^64)\/(-(2 ^64)<j/\j<2 ^64)
theorem BV.ok {i j:Int}(h:BV i j):IntMulOk i j:=by
 rcases h with⟨h1,h2⟩|⟨h1,h2⟩
 ·exact .of_left (intBits_le_64 h1 h2)
 ·exact .of_right (intBits_le_64 h1 h2)
theorem Hz:rO X (binaryOp .Add) (Lu fun i j=>.int (i+j)):=Qr fun _ _ _ _ _ _ _ q=>add_int q
theorem HC:rO X (binaryOp .Mult) (rI BV fun i j=>.int (i*j)):=S7 fun _ _ _ _ _ _ _ hc q=>mul_int q hc.ok
theorem HD:rO X (binaryOp .Mod) (rI (fun _ j=>0<j) fun i j=>.int (i % j)):=S7 fun i j _ _ _ _ _ hc q=>by
 have h1:(0:Int)<j:=hc;exact mod_int' (by omega) (by rw[Int.fmod_eq_emod_of_nonneg i (by omega)];exact q)
end
section
variable {X:Cx}{a b c:Expr}{ta tb tc:TE}{pos:Pos}
theorem xw{pins:List (Addr×Obj)}{σ:St}{H:Hp}{s:Shared}{Q:VK}{k k':Bool}(I:Inv X pins σ H s)(q:Q (.bl k) H)(e:k=k'):EP X pins σ Q (.bool k') s:=by
 subst e;exact⟨.bl k,H,I,rfl,q⟩
theorem Ly:rO X (compareOp .Lt) (Lu fun i j=>.bl (decide (i<j))):=Lx fun _ _ _ _ _ _ _ q=>lt_int q
theorem Lz:rO X (compareOp .Gt) (Lu fun i j=>.bl (decide (j<i))):=Lx fun _ _ _ _ _ _ _ q=>gt_int q
theorem Ak:rO X (compareOp .Lt) (fun x y H Q=>∃i j,x=.str i/\y=.str j/\Q (.bl (decide (i.cps.toList<j.cps.toList))) H):=by
 intro pins s σ H x y v u Q I rx ry h;obtain⟨i,j,rfl,rfl,q⟩:=h;obtain⟨t,rfl⟩:=rx;obtain⟨t',rfl⟩:=ry;exact lt_str (xw I q rfl)
theorem HE:rO X (compareOp .Is) (fun x y H Q=>y=.cg/\Q (.bl (decide (x=.cg))) H):=by
 intro pins s σ H x y v u Q I rx ry h;obtain⟨rfl,q⟩:=h;cases ry;refine is_none_gen (xw I q ?_);cases x<;>first
  |(cases rx;rfl)
  |(obtain⟨t,rfl⟩:=rx;rfl)
theorem uf(b:Expr){op:CmpOp}(h:op≠ .In:=by decide) (h2:op≠ .NotIn:=by decide):behindInMarks op b=false:=by
 have e1:(op==CmpOp.In)=false:=by cases op<;>first|rfl|exact absurd rfl h
 have e2:(op==CmpOp.NotIn)=false:=by cases op<;>first|rfl|exact absurd rfl h2
 cases b<;>simp[behindInMarks,e1,e2]
theorem En{op:CmpOp}{r:R2}(ho:rO X (compareOp op) r)(ha:PE X a ta)(hb:PE X b tb)(hm:behindInMarks op b=false):PE X (.Compare a [op] [b] pos) (Ls r ta tb):=by
 intro pins s σ H Q I h;exact wpAny_Compare1 (Hy ha hb I h fun v u s2 x y H2 I2 rx ry q=>ho pins s2 σ H2 x y v u Q I2 rx ry q) hm
def LA(t:TE):TT:=fun σ H Q=>t σ H fun x H'=>∃k,x=.bl k/\Q k H'
theorem Eo{op:CmpOp}{r:R2}(ho:rO X (compareOp op) r)(ha:PE X a ta)(hb:PE X b tb)(hm:behindInMarks op b=false):PT X (.Compare a [op] [b] pos) (LA (Ls r ta tb)):=by
 intro pins s σ H Q I h;refine wpAny_isTrue_Compare1 (du (ha pins s σ H _ I h) fun v s1 ⟨x,H1,I1,r1,q1⟩=>du (hb pins s1 σ H1 _ I1 q1) fun u s2 ⟨y,H2,I2,r2,q2⟩=>
  du (ho pins s2 σ H2 x y v u _ I2 r1 r2 q2) fun c s3 ⟨z,H3,I3,r3,k,e,q3⟩=>?_) hm
 subst e;cases r3;exact jo ⟨H3,I3,q3⟩
def Ep(K:PySem.W.Frag)(x:V)(H:Hp)(k:Bool):Prop:=
 match x with
 |.cg=>k=false
 |.bl b=>k=b
 |.int i=>k=(i !=0)
 |.str y=>y.length<=sizeLine/\k=((y.length:Int) !=0)
 |.Hk y=>y.size<=sizeLine/\k=((y.size:Int) !=0)
 |.ref p=>(∃xs,iw K H p xs/\k=!xs.isEmpty)\/(∃xs,gW K H p xs/\k=!xs.isEmpty)\/∃av,Rd H p (.dK av)/\k=!av.isEmpty
 |_=>False
theorem xx{κ:Type}{av:List (κ×V)}{vs:List (κ×Value)}(r:KV av vs):(!vs.isEmpty)=!av.isEmpty:=by
 cases r<;>rfl
theorem qd{xs:List V}{aV:List Value}(r:Vals xs aV):(!aV.toArray.isEmpty)=!xs.isEmpty:=by
 cases r<;>simp
theorem qe:(sizeLine:Nat)<2 ^63:=by rw[bS];decide
theorem BW:Qq X (fun x H Q=>∃k,Ep X.K x H k/\Q k H):=by
 intro pins s σ H x v Q I rx h;obtain⟨k,e,q⟩:=h;have hl:=qe;have hs:sizeLine=16777216:=bS;cases x with
 |cg=>
  cases rx;have e':k=false:=e;subst e';exact truthy_none ⟨H,I,q⟩
 |bl b=>
  cases rx;have e':k=b:=e;subst e';exact jo ⟨H,I,q⟩
 |int i=>
  obtain⟨t,rfl⟩:=rx;have e':k=(i !=0):=e;subst e';exact PySem.P.truthy_int ⟨H,I,q⟩
 |str y=>
  obtain⟨t,rfl⟩:=rx;obtain⟨hy,e'⟩:y.length<=sizeLine/\k=((y.length:Int) !=0):=e;subst e';exact PySem.P.truthy_str (by omega) ⟨H,I.tok _,q⟩
 |Hk y=>
  obtain⟨t,rfl⟩:=rx;obtain⟨hy,e'⟩:y.size<=sizeLine/\k=((y.size:Int) !=0):=e;subst e';exact PySem.W.truthy_bytes (by omega) ⟨H,I.tok _,q⟩
 |ref p=>
  cases rx;have e':(∃xs,iw X.K H p xs/\k=!xs.isEmpty)\/(∃xs,gW X.K H p xs/\k=!xs.isEmpty)\/∃av,Rd H p (.dK av)/\k=!av.isEmpty:=e;rcases e' with⟨xs,hx,e'⟩|⟨xs,hx,e'⟩|⟨av,hx,e'⟩
  ·subst e';obtain⟨aV,r,pl,hz⟩:=I.list hx;have hlen:=r.length;exact wpAny_truthy_list pl.isList (by simp only[bc];omega) ⟨H,I.tok _,by rw[qd r];exact q⟩
  ·subst e';obtain⟨aV,r,pl,hz⟩:=I.tuple hx;have hlen:=r.length;exact truthy_tuple pl (by simp only[bc];omega) ⟨H,I.tok _,by rw[qd r];exact q⟩
  ·subst e';obtain⟨hz,hS,vs,r,m⟩:av.length<=sizeLine/\(p==sysModules)=false/\∃vs,KV av vs/\s.heap.DictOf (ax X.prog X.w) p vs:=hx.ok I.bN;have hlen:av.length=vs.length:=Paired.length r;exact wpAny_truthy_dict hS m (by omega) ⟨H,I.tok _,by rw[xx r];exact q⟩
 |_=>exact(show False from e).elim
theorem vz(ha:PE X a ta)(he:∀whole,isTrue a X.env whole=(do let v<-whole;standAt a.pos;holding [v] (truthy v))):
  PT X a (fun σ H Q=>ta σ H fun x H'=>∃k,Ep X.K x H' k/\Q k H'):=by
 intro pins s σ H Q I h;exact isTrue_plain (du (ha pins s σ H _ I h) fun v s1 ⟨x,H1,I1,r1,q1⟩=>BW pins s1 σ H1 x v Q I1 r1 q1) (he _)
theorem xy:rO X (binaryOp .Add) (fun x y H Q=>∃i j,x=.str i/\y=.str j/\i.length+j.length<=sizeLine/\Q (.str (i++j)) H):=by
 intro pins s σ H x y v u Q I rx ry h;obtain⟨i,j,rfl,rfl,hz,q⟩:=h;obtain⟨t,rfl⟩:=rx;obtain⟨t',rfl⟩:=ry;exact add_str (fun t' tk=>⟨.str (i++j),H,I.tok _,⟨_,rfl⟩,q⟩) hz
theorem vals1{x:V}{us:List Value}(r:Vals [x] us):∃u,us=[u]/\RelV x u:=by
 cases r with
 |cons r1 r2=>cases r2;exact⟨_,rfl,r1⟩
theorem vals2{x y:V}{us:List Value}(r:Vals [x,y] us):∃u w',us=[u,w']/\RelV x u/\RelV y w':=by
 cases r with
 |cons r1 r2=>
  cases r2 with
  |cons r3 r4=>cases r4;exact⟨_,_,rfl,r1,r3⟩
def Qs(K:PySem.W.Frag)(x:V)(H:Hp)(n:Nat):Prop:=
 match x with
 |.str y=>y.length<=sizeLine/\n=y.length
 |.Hk y=>y.size<=sizeLine/\n=y.size
 |.ref p=>(∃xs,iw K H p xs/\n=xs.length)\/∃xs,gW K H p xs/\n=xs.length
 |_=>False
theorem l6:gE X (.builtin "len") (fun xs H Q=>∃x n,xs=[x]/\Qs X.K x H n/\Q (.int n) H):=by
 intro pins s σ H xs us Q I r h;obtain⟨x,n,rfl,e,q⟩:=h;obtain⟨u,rfl,rx⟩:=vals1 r;have hl:=qe;have hs:sizeLine=16777216:=bS;cases x with
 |str y=>
  obtain⟨t,rfl⟩:=rx;obtain⟨hy,e'⟩:y.length<=sizeLine/\n=y.length:=e;subst e';exact len_str (by omega) ⟨.int _,H,I.tok _,⟨_,rfl⟩,q⟩
 |Hk y=>
  obtain⟨t,rfl⟩:=rx;obtain⟨hy,e'⟩:y.size<=sizeLine/\n=y.size:=e;subst e';exact PySem.W.len_bytes (by omega) ⟨.int _,H,I.tok _,⟨_,rfl⟩,q⟩
 |ref p=>
  cases rx;have e':(∃xs,iw X.K H p xs/\n=xs.length)\/∃xs,gW X.K H p xs/\n=xs.length:=e;rcases e' with⟨xs,hx,e'⟩|⟨xs,hx,e'⟩
  ·subst e';obtain⟨aV,r',pl,hz⟩:=I.list hx;have hlen:=r'.length;exact Calls.call_len_list pl.isList (by simp only[bc];omega) ⟨.int xs.length,H,I.tok _,⟨_,by simp only[bc];rw[hlen]⟩,q⟩
  ·subst e';obtain⟨aV,r',pl,hz⟩:=I.tuple hx;have hlen:=r'.length;exact len_tuple pl (by simp only[bc];omega) ⟨.int xs.length,H,I.tok _,⟨_,by simp only[bc];rw[hlen]⟩,q⟩
 |_=>exact(show False from e).elim
end
end L2
namespace L2
open PySem PySem.Spec PyProof.Rows
structure HF(h:Heap)(x dx C:Addr)(mA:Str->Option Value):Prop where
 obj:h.get? x=some (PySem.W.instObj C dx)
 ns:h.Ns1 dx mA
 ne:dx≠x
theorem Al{h:Heap}{dx:Addr}{mA:Str->Option Value}(n:h.Ns1 dx mA):∃od,h.get? dx=some od/\∀name,PySem.W.lookIn name od=some (mA name):=by
 obtain⟨o,es,ep,ho,hd,hk,_,hm⟩:=n;refine⟨o,ho,fun name=>?_⟩;have e:=hm name;unfold nsFind findBy at e;rw[<-Array.find?_toList]at e;unfold PySem.W.lookIn;rw[hd];dsimp only;split
 ·rename_i y q;rw[q]at e;exact bB some e
 ·rename_i q;rw[q]at e;have a:es.toList.any (·.refKey)=false:=by
   rw[List.any_eq_false];intro y hy;obtain⟨z,t,Er⟩:=hk y (pq.mp hy);simp[DictEntry.refKey,Er]
  have a':¬es.toList.any (·.refKey)=true:=by rw[a];exact cz
  rw[ae a'];exact bB some e
theorem HF.look {h:Heap}{x dx C:Addr}{mA:Str->Option Value}(I:HF h x dx C mA):∃od,PySem.W.InstAt h x (PySem.W.instObj C dx) C (some od)/\∀name,PySem.W.lookIn name od=some (mA name):=
 let⟨od,ho,hl⟩:=Al I.ns
 ⟨od,⟨I.obj,rfl,rfl,ho⟩,hl⟩
theorem mT.some_of {v:V}{o:Option Value}(r:mT (some v) o):∃u,o=some u/\RelV v u:=by
 cases o with
 |none=>exact(show False from r).elim
 |some u=>exact⟨u,rfl,r⟩
section
variable {P:Program}{w:World}{H H':Hp}{h h':Heap}{a C dx:Addr}{fs Ae:List (Str×V)}
theorem Es(bN:kr P w H h)(e:H a=some (.ins C dx fs)):∃mA,HF h a dx C mA/\(∀f,mT (fs.lookup f) (mA f))/\PySem.Within mA (fs.map (·.1))/\fs.length<=1000/\H dx=some (.own a):=by
 obtain⟨d,z,ne,ob,mA,n,r,q⟩:=(show bu P w H h a (.ins C dx fs)from bN a _ e);exact⟨mA,⟨ob,n,ne⟩,r,q,z,d⟩
end
structure Kv(K:PySem.W.Frag)(C:Addr):Prop where
 pg:PySem.W.plainGet K C Str.empty=true
 hd:PySem.W.hasDictIn K C=true
 po:PySem.W.plainOver K C=true
 sa:PySem.W.findIn K (.ref C) "__setattr__"=some (some (.builtin "object.__setattr__"))
theorem Kv.get {K:PySem.W.Frag}{C:Addr}(c:Kv K C)(f:Str):PySem.W.plainGet K C f=true:=c.pg
def HG(K:PySem.W.Frag)(C:Addr)(f:Str):Prop:=PySem.W.findIn K (.ref C) f=some none
structure Meth(K:PySem.W.Frag)(C:Addr)(m:Str)(f:Addr):Prop where
 at_:PySem.W.findIn K (.ref C) m=some (some (.ref f))
 fn:PySem.W.isFn K (.ref f)=true
 kp:PySem.W.keepIn K (.ref f)=true
def HH(X:Cx)(op:Operator)(rd:V->V->Hp->VK->Prop):Prop:=
 ∀(pins:List (Addr×Obj)) (s:Shared) (σ:St) (H:Hp) (x y:V) (u v:Value) (Q:VK),Inv X pins σ H s->RelV x u->RelV y v->rd x y H Q->wpAny (model X.prog X.w) X.A (inplaceOp op u v) (EP X pins σ Q) X.xe s
section
variable {X:Cx}{o e value:Expr}{f:Str}{pos pos' ug:Pos}{ta tv:TE}
def Qt:V->V->Hp->VK->Prop:=fun x y H Q=>∃i j,x=.int i/\y=.int j/\Q (.int (i+j)) H
def Qu:V->V->Hp->VK->Prop:=fun x y H Q=>∃i j,x=.int i/\y=.int j/\Q (.int (i - j)) H
theorem HI:HH X .Add Qt:=by
 rintro pins s σ H x y u v Q I rx ry ⟨i,j,rfl,rfl,q⟩
 obtain⟨t,rfl⟩:=(show∃t,u=Value.int i t from rx);obtain⟨t',rfl⟩:=(show∃t',v=Value.int j t' from ry);exact PyProof.Rows.iadd_int ⟨.int (i+j),H,I.tok _,⟨_,rfl⟩,q⟩
theorem HJ:HH X .Sub Qu:=by
 rintro pins s σ H x y u v Q I rx ry ⟨i,j,rfl,rfl,q⟩
 obtain⟨t,rfl⟩:=(show∃t,u=Value.int i t from rx);obtain⟨t',rfl⟩:=(show∃t',v=Value.int j t' from ry);exact PyProof.Rows.isub_int ⟨.int (i - j),H,I.tok _,⟨_,rfl⟩,q⟩
end
section
variable {X:Cx}{pins:List (Addr×Obj)}{σ:St}{H:Hp}{s:Shared}{A:Around}{E:Value->Shared->Prop}{Q:Value->Shared->Prop}{c:Value}{b:Bool}
inductive l7(K:PySem.W.Frag)(H:Hp):V->Value->Prop where
 |cg:l7 K H .cg (.type "NoneType")
 |bl (x:Bool):l7 K H (.bl x) (.type "bool")
 |int (i:Int):l7 K H (.int i) (.type "int")
 |str (x:Str):l7 K H (.str x) (.type "str")
 |F7 (x:UInt64):l7 K H (.F7 x) (.type "float")
 |lst {a:Addr} {xs:List V} (e:H a=some (.lst xs)):l7 K H (.ref a) (.type "list")
 |fP {a:Addr} {o:Obj} {xs:List V} (e:H a=some (.fP o (.lst xs))):l7 K H (.ref a) (.type "list")
 |tup {a:Addr} {xs:List V} (e:H a=some (.tup xs)):l7 K H (.ref a) (.type "tuple")
 |dK {a:Addr} {av:List (Key×V)} (e:H a=some (.dK av)):l7 K H (.ref a) (.type "dict")
 |dT {a:Addr} {av:List (List Key×V)} (e:H a=some (.dT av)):l7 K H (.ref a) (.type "dict")
 |ins {a C dx:Addr} {fs:List (Str×V)} (e:H a=some (.ins C dx fs)) (cl:Kv K C) (ha:PySem.W.findIn K (.ref C) "__class__"=some (some (.builtin "object.__class__")))
   (hn:PySem.W.specialIn K (.builtin "object.__class__") "__get__"=some (some (.builtin "getset_descriptor.__get__"))) (S8:PySem.W.takesIn K (.builtin "object.__class__")=some true)
   (hm:PySem.W.mroIn K C (.type "object")=some true):l7 K H (.ref a) (.ref C)
theorem iy{x:V}{u t:Value}(I:Inv X pins σ H s)(rx:RelV x u)(ty:l7 X.K H x t)(e:PySem.W.kitOne X.K t c=some b)(h:∀tk,Q (.bool b) {s with toks:=tk}):
  wpAny (model X.prog X.w) A (call (.builtin "isinstance") [u,c]) Q E s:=by
 cases ty with
 |cg=>cases(show u=Value.none from rx);exact cM PySem.W.kitx_none I.n5 True.intro e (fun z=>nomatch z) h
 |bl y=>cases(show u=Value.bool y from rx);exact cM PySem.W.kitx_bool I.n5 True.intro e (fun z=>nomatch z) h
 |int i=>obtain⟨t,q⟩:=(show∃t,u=Value.int i t from rx);cases q;exact cM PySem.W.kitx_int I.n5 True.intro e (fun z=>nomatch z) h
 |str y=>obtain⟨t,q⟩:=(show∃t,u=Value.str y t from rx);cases q;exact cM PySem.W.kitx_str I.n5 True.intro e (fun z=>nomatch z) h
 |F7 y=>obtain⟨t,q⟩:=(show∃t,u=Value.float y t from rx);cases q;exact cM PySem.W.kitx_float I.n5 True.intro e (fun z=>nomatch z) h
 |@lst a xs ea=>
  cases(show u=Value.ref a from rx);obtain⟨_,_,n,_,h1⟩:=(show bu X.prog X.w H s.heap a (.lst xs)from I.bN a _ ea);exact cM pH I.n5 ⟨_,h1,rfl⟩ e (fun z=>nomatch z) h
 |@fP a ob xs ea=>
  cases(show u=Value.ref a from rx);obtain⟨_,_,_,n,_,h1⟩:=(show bu X.prog X.w H s.heap a (.fP ob (.lst xs))from I.bN a _ ea);exact cM pH I.n5 ⟨_,h1,rfl⟩ e (fun z=>nomatch z) h
 |@tup a xs ea=>
  cases(show u=Value.ref a from rx);obtain⟨_,_,_,p⟩:=(show bu X.prog X.w H s.heap a (.tup xs)from I.bN a _ ea);obtain⟨o,h1,h2,_⟩:=p;exact cM PySem.W.kitx_tuple I.n5 ⟨o,h1,h2⟩ e (fun z=>nomatch z) h
 |@dK a av ea=>
  cases(show u=Value.ref a from rx);obtain⟨_,_,vs,_,p⟩:=(show bu X.prog X.w H s.heap a (.dK av)from I.bN a _ ea);obtain⟨o,es,ep,h1,h2,_⟩:=p;exact cM lH I.n5 ⟨o,h1,h2.1⟩ e (fun z=>nomatch z) h
 |@dT a av ea=>
  cases(show u=Value.ref a from rx);obtain⟨_,_,xs,_,o,es,ep,h1,h2,_⟩:=(show bu X.prog X.w H s.heap a (.dT av)from I.bN a _ ea);exact cM lH I.n5 ⟨o,h1,h2.1⟩ e (fun z=>nomatch z) h
 |@ins a C dx fs ea cl ha hn S8 hm=>
  cases(show u=Value.ref a from rx);obtain⟨mA,O,_⟩:=Es I.bN ea;obtain⟨od,J,_⟩:=O.look;exact cM (PySem.W.kitx_own (cl.get _) cl.hd ha hn S8 hm) I.n5 J e (fun z=>nomatch z) h
end
end L2
namespace L2
open PySem PySem.Spec PyProof.Rows
structure de(k:Nat)(A:Around):Prop where
 hd:A.handled=none
 dp:A.depth+3*k+5<recursionLimit
 un:A.units+16*k+200<cLine
theorem de.mono {j k:Nat}{A:Around}(r:de k A)(h:j<=k):de j A:=⟨r.hd,by have:=r.dp;omega,by have:=r.un;omega⟩
theorem de.deeper {k:Nat}{A:Around}(r:de (k+1) A)(env:Env):de k (A.deeper env):=
 ⟨r.hd,by have:=r.dp;show A.depth+1+3*k+5<_;omega,by have:=r.un;show A.units+3+16*k+200<_;omega⟩
theorem de.depth {k:Nat}{A:Around}(r:de k A):A.depth<recursionLimit:=by have:=r.dp;omega
theorem de.units {k:Nat}{A:Around}(r:de k A):A.units+64<cLine:=by have:=r.un;omega
def Qv:TA:=fun _ H Q=>Q [] H
def LB(ta:TE)(tr:TA):TA:=fun σ H Q=>ta σ H fun x H1=>tr σ H1 fun xs H2=>Q (x::xs) H2
section
variable {X:Cx}{e:Expr}{es:List Expr}{te:TE}{t:TA}{pos:Pos}
theorem kG:PA X [] Qv:=fun _ _ _ _ H Q I h=>lL ⟨[],H,I,.nil,h⟩
theorem iS(ha:PE X e te)(hr:PA X es t)(hs:starEach (e::es) X.env=(false,eval e X.env)::starEach es X.env:=by rfl):PA X (e::es) (LB te t):=by
 intro pos pins s σ H Q I h;rw[hs];show wpAny _ _ (spliced ((false,eval e X.env)::backTo pos (starEach es X.env))) _ _ s;refine jj (du (ha pins s σ H _ I h) fun u s1 ⟨x,H1,I1,r1,q1⟩=>?_);exact du (hr pos pins s1 σ H1 _ I1 q1) fun us s2 ⟨xs,H2,I2,r2,q2⟩=>⟨x::xs,H2,I2,.cons r1 r2,q2⟩
def Qw(t:TA):TE:=fun σ H Q=>t σ H fun xs H1=>xs.length<=sizeLine/\∀p,H1 p=none->Q (.ref p) (upd H1 p (.tup xs))
def Qx(t:TA):TE:=fun σ H Q=>t σ H fun xs H1=>xs.length<=sizeLine/\∀p,H1 p=none->Q (.ref p) (upd H1 p (.lst xs))
theorem BX{x1}(h:PA X es t):PE X (.Tuple es x1 pos) (Qw t):=by
 intro pins s σ H Q I hq;refine wpAny_Tuple_spliced (du (h pos pins s σ H _ I hq) fun us s1 ⟨xs,H1,I1,r,z,q⟩=>⟨by rw[<-r.length];exact z,?_⟩);have hf:H1 s1.heap.objs.size=none:=I1.bN.fresh (ar _);refine⟨.ref s1.heap.objs.size,upd H1 s1.heap.objs.size (.tup xs),I1.laid (t':=s1.toks) (fun b u e=>aB _ e) (ar _) ?_,rfl,q _ hf⟩;exact⟨z,us,r,⟨_,aT _ rfl,rfl,_,rfl,rfl⟩⟩
theorem BY(h:PA X es t):PE X (.List es pos) (Qx t):=by
 intro pins s σ H Q I hq;refine wpAny_List_spliced (du (h pos pins s σ H _ I hq) fun us s1 ⟨xs,H1,I1,r,z,q⟩=>⟨by rw[<-r.length];exact z,?_⟩);have hf:H1 s1.heap.objs.size=none:=I1.bN.fresh (ar _);refine⟨.ref s1.heap.objs.size,upd H1 s1.heap.objs.size (.lst xs),I1.laid (t':=s1.toks) (fun b u e=>aB _ e) (ar _) ?_,rfl,q _ hf⟩;exact⟨z,us,0,r,aT _ rfl⟩
end
abbrev Sp:=List V->Hp->VK->XK->Prop
abbrev xA:=List Env->Hp->Shared->XK->Value->Shared->Prop
structure Et(P:Program)(w:World)(K:PySem.W.Frag)(mg:Str->Option Value)(base:Heap)(A:Around)(outer:List Env)(s:Shared)(H:Hp):Prop where
 frames:A.frames=some outer
 mod:Mod K mg base
 bs:∀b o,base.get? b=some o->s.heap.get? b=some o/\H b=none
 F8:base.objs.size<=s.heap.objs.size
 p9:s.heap.FunFrames base outer
 Kq:∀b∈l4 outer,H b=none
 bN:kr P w H s.heap
 bare:AllBare s.gens
def CE(outer:List Env)(P:Program)(w:World)(H:Hp)(s:Shared)(Q:VK)(u:Value)(s':Shared):Prop:=
 ∃v H',s'.os=s.os/\AllBare s'.gens/\Un (l4 outer) [] H H' s.heap s'.heap/\kr P w H' s'.heap/\RelV v u/\Q v H'
def CR(CX:xA)(outer:List Env)(P:Program)(w:World)(H:Hp)(s:Shared)(Q:VK)(E:XK)(r:Result)(s':Shared):Prop:=
 match r with
 |.ok (.ret u)=>CE outer P w H s Q u s'
 |.ok _=>False
 |.error e=>CX outer H s E e s'
structure fQ(P:Program)(w:World)(K:PySem.W.Frag)(mg:Str->Option Value)(base:Heap)(CX:xA)(k:Nat)(f:Addr)(fd:FuncData)(ps:List Str)(sp:Sp):Prop where
 len:∀vs H Q E,sp vs H Q E->vs.length=ps.length
 run:∀(A:Around) (outer:List Env) (s:Shared) (H:Hp) (args:Args) (us:List Value) (vs:List V) (Q:VK) (E:XK),de k A->Et P w K mg base A outer s H->BindsTo s fd args (ps.zip us)->Vals vs us->sp vs H Q E->
  codeAny (model P w) A (.call (.ref f) args) (CR CX outer P w H s Q E) s
theorem fQ.mono {P:Program}{w:World}{K:PySem.W.Frag}{mg:Str->Option Value}{base:Heap}{CX:xA}{j k:Nat}{f:Addr}{fd:FuncData}{ps:List Str}{sp:Sp}(F:fQ P w K mg base CX j f fd ps sp)(h:j<=k):
  fQ P w K mg base CX k f fd ps sp:=⟨F.len,fun A outer s H args us vs Q E hr=>F.run A outer s H args us vs Q E (hr.mono h)⟩
section
variable {X:Cx}{pins:List (Addr×Obj)}{σ:St}{H:Hp}{s s':Shared}
theorem Inv.Qy (I:Inv X pins σ H s):Et X.prog X.w X.K X.mg X.base X.A X.stack s H:=
 ⟨I.ok.frames,I.ok.mod,I.bs,bt I.ok.F8 I.sz,I.stack,I.uc,I.bN,I.bare⟩
theorem Inv.after {Q:VK}{u:Value}(I:Inv X pins σ H s)(h:CE X.stack X.prog X.w H s Q u s'):EP X pins σ Q u s':=by
 obtain⟨v,H',os,bare,un,bN,r,q⟩:=h;obtain⟨hh,g,d,t,Uz⟩:=s';obtain rfl:Uz=s.os:=os;exact⟨v,H',I.call (h':=hh) (g':=g) (d':=d) (t':=t) (ch:=[]) un bN bare (fun b z=>absurd z (by simp)),r,q⟩
end
def Gb(sp:Sp)(Gd:List V)(E:XK)(t:TA):TE:=fun σ H Q=>t σ H fun vs H1=>sp (vs++Gd) H1 Q E
def Binds(K:PySem.W.Frag)(fd:FuncData)(ps:List Str)(ds:List Value):Prop:=
 ∀(s:Shared) (us:List Value),K.In s.heap->(us++ds).length=ps.length->BindsTo s fd ⟨us,[]⟩ (ps.zip (us++ds))
theorem Binds.all {K:PySem.W.Frag}{fd:FuncData}{ps:List Str}(h:∀us:List Value,us.length=ps.length->bindArgs fd ⟨us,[]⟩=pure (ps.zip us)):Binds K fd ps []:=fun s us _ hl=>by
 rw[dw]at hl⊢;exact .of_eq (h us hl)
def Passes(CX:xA)(X:Cx)(E:XK):Prop:=∀(pins:List (Addr×Obj)) (σ:St) (H:Hp) (s:Shared) (e:Value) (s':Shared),Inv X pins σ H s->CX X.stack H s E e s'->X.xe e s'
section
variable {X:Cx}{CX:xA}{k:Nat}{f C:Addr}{fd:FuncData}{ps:List Str}{sp:Sp}{Gd:List V}{ds:List Value}{E:XK}{x m:Str}{p pos apos:Pos}{e o:Expr}{es:List Expr}{ta:TE}{t:TA}
theorem HK{pins:List (Addr×Obj)}{σ:St}{H:Hp}{s:Shared}{Q:VK}{us:List Value}{vs:List V}(F:fQ X.prog X.w X.K X.mg X.base CX k f fd ps sp)(hr:de k X.A)(hb:Binds X.K fd ps ds)(hd:Vals Gd ds)(hx:Passes CX X E)
  (I:Inv X pins σ H s) (r:Vals vs us) (h:sp (vs++Gd) H Q E):wpAny (model X.prog X.w) X.A (call (.ref f) us) (EP X pins σ Q) X.xe s:=by
 have r2:Vals (vs++Gd) (us++ds):=r.append hd;have hl:(us++ds).length=ps.length:=by rw[<-r2.length];exact F.len _ _ _ _ h
 refine wpAny_call (fM (F.run X.A X.stack s H ⟨us,[]⟩ (us++ds) (vs++Gd) Q E hr I.Qy (hb s us I.n5 hl) r2 h) fun r s' hq=>?_);cases r with
 |error e=>exact hx pins σ H s e s' I hq
 |ok fl=>
  cases fl with
  |ret u=>exact I.after hq
  |next=>exact False.elim hq
  |brk=>exact False.elim hq
  |cont=>exact False.elim hq
theorem yN(F:fQ X.prog X.w X.K X.mg X.base CX k f fd ps sp)(hr:de k X.A)(hg:Gl X x)(hm:X.mg x=some (.ref f))(hk:PySem.W.keepIn X.K (.ref f)=true)(hb:Binds X.K fd ps ds)(hd:Vals Gd ds)(hx:Passes CX X E)
  (ha:PA X (e::es) t) (iT:(x==("__debug__":Str))=false:=by decide) (he:starEach (e::es) X.env=(false,eval e X.env)::starEach es X.env:=by rfl) (n8:(backTo pos (starEach es X.env)).any (·.1)=false:=by rfl):
  PE X (.Call (.Name x p) (e::es) [] pos) (Gb sp Gd E t):=by
 intro pins s σ H Q I h;refine jk (Eh I hg hm ?_ iT);refine PySem.W.callWith_K (h₀:=X.base) I.ok.mod.Lh hk (du (ha pos pins s σ H _ I h) fun us s1 ⟨vs,H1,I1,r,q⟩=>⟨I1.n5,?_⟩) he n8;exact HK F hr hb hd hx I1 r q
structure Mk(K:PySem.W.Frag)(C f:Addr):Prop where
 makes:PySem.W.makesIn K C=true
 init:PySem.W.findIn K (.ref C) "__init__"=some (some (.ref f))
 fn:PySem.W.isFn K (.ref f)=true
 kp:PySem.W.keepIn K (.ref C)=true
end
structure dD(N P:List Str)(sc:Scope):Prop where
 kind:sc.kind=.function
 co:sc.isCoroutine=false
 gen:sc.isGenerator=false
 nd:N.Nodup
 pre:N.take P.length=P
 par:∀x∈P,sc.names.lookup x=some .local\/sc.names.lookup x=some .cell
 HL:∀y∈sc.names,y.2≠ .free
theorem sv{kindOf:Str->Option NameKind}{x:Str}:∀{binds:List (Str×Value)} {m:Str->Option Value},(∀v,(x,v)∉binds)->bindL kindOf binds m x=m x
 |[],_,_=>rfl
 |(n,v)::r,m,h=>by
  unfold bindL;rw[sv fun w hw=>h w (aW _ hw)];split
  ·have:x≠n:=by rintro rfl;exact h v aM
   simp[this]
  ·rfl
theorem sx{kindOf:Str->Option NameKind}{x:Str}:∀{binds:List (Str×Value)} {m:Str->Option Value},(∀v,(x,v)∉binds)->bindC kindOf binds m x=m x
 |[],_,_=>rfl
 |(n,v)::r,m,h=>by
  unfold bindC;rw[sx fun w hw=>h w (aW _ hw)];split
  ·rfl
  ·have:x≠n:=by rintro rfl;exact h v aM
   simp[this]
theorem sy{kindOf:Str->Option NameKind}{x:Str}{v:Value}:∀{P:List Str} {vs:List Value} {i:Nat} {m:Str->Option Value},P.Nodup->P[i]?=some x->vs[i]?=some v->kindOf x=some .local->
  bindL kindOf (P.zip vs) m x=some v
 |[],_,_,_,_,h,_,_=>by simp at h
 |_::_,[],_,_,_,_,h,_=>by simp at h
 |p::P,w::vs,0,m,nd,h1,h2,hk=>by
  simp at h1 h2;subst h1;subst h2;show bindL kindOf ((p,w)::P.zip vs) m p=_;unfold bindL;rw[sv fun v hv=>(dy.mp nd).1 (pT hv).1,ab hk];simp
 |p::P,w::vs,i+1,m,nd,h1,h2,hk=>by
  show bindL kindOf ((p,w)::P.zip vs) m x=_;unfold bindL;exact sy (i:=i) (dy.mp nd).2 (by simpa using h1) (by simpa using h2) hk
theorem sA{kindOf:Str->Option NameKind}{x:Str}{v:Value}:∀{P:List Str} {vs:List Value} {i:Nat} {m:Str->Option Value},P.Nodup->P[i]?=some x->vs[i]?=some v->kindOf x≠some .local->
  bindC kindOf (P.zip vs) m x=some v
 |[],_,_,_,_,h,_,_=>by simp at h
 |_::_,[],_,_,_,_,h,_=>by simp at h
 |p::P,w::vs,0,m,nd,h1,h2,hk=>by
  simp at h1 h2;subst h1;subst h2;show bindC kindOf ((p,w)::P.zip vs) m p=_;unfold bindC;rw[sx fun v hv=>(dy.mp nd).1 (pT hv).1,ae hk];simp
 |p::P,w::vs,i+1,m,nd,h1,h2,hk=>by
  show bindC kindOf ((p,w)::P.zip vs) m x=_;unfold bindC;exact sA (i:=i) (dy.mp nd).2 (by simpa using h1) (by simpa using h2) hk
def start(N:List Str)(vs:List V):St:=vs.map some++List.replicate (N.length - vs.length) none
def jb(CX:xA)(P:Program)(w:World)(K:PySem.W.Frag)(mg:Str->Option Value)(base:Heap)(N:List Str)(qual:Str)(scope:Scope)(f:Addr)(cd:Value)(A:Around)(outer:List Env)(s:Shared)(H:Hp)(E:XK):Cx where
 prog:=P
 w:=w
 K:=K
 mg:=mg
 base:=base
 A:=A.deeper (envOfC qual scope s.heap.objs.size f cd)
 N:=N
 eP:=s
 vt:=H
 env:=envOfC qual scope s.heap.objs.size f cd
 outer:=outer
 stack:=envOfC qual scope s.heap.objs.size f cd::outer
 ex:=[]
 calm:=true
 fn:=fun _=>true
 pn:=[]
 xe:=fun e s'=>wpAny (model P w) (A.deeper (envOfC qual scope s.heap.objs.size f cd)) (leaving (envOfC qual scope s.heap.objs.size f cd) e) (fun _ D_=>CX outer H s E e D_) (fun e' D_=>CX outer H s E e' D_) s'
theorem vA{sc:Scope}{n:Nat}{x:Str}(h:sc.names.lookup x=some .cell):∃c,(cellsFrom n sc.names []).lookup x=some c:=by
 have q:=PySem.W.cellsFrom_some sc.names n [] (.inl h);exact o5.mp q
theorem Am{CX:xA}{P:Program}{w:World}{K:PySem.W.Frag}{mg:Str->Option Value}{base:Heap}{N ps:List Str}{qual:Str}{scope:Scope}{f:Addr}{cd:Value}{A:Around}{outer:List Env}{s s1:Shared}{H:Hp}{E:XK}{us:List Value}{vs:List V}
  (S:dD N ps scope) (hd:A.handled=none) (e0:Et P w K mg base A outer s H) (hl:vs.length=ps.length) (r:Vals vs us)
  (x:InCallC s s.heap.objs.size (bindL (envOfC qual scope s.heap.objs.size f cd).kindOf (ps.zip us) fun _=>none) (cellsFrom (s.heap.objs.size+1) scope.names []) (bindC (envOfC qual scope s.heap.objs.size f cd).kindOf (ps.zip us) fun _=>none) s1):
  Inv (jb CX P w K mg base N qual scope f cd A outer s H E) [] (start N vs) H s1:=by
 have n8:ps.length<=N.length:=by have:=bB List.length S.pre;rw[pO]at this;omega
 obtain⟨h1,tk,rfl,hk⟩:=x.done;have Kw:∀b:Addr,b∉(jb CX P w K mg base N qual scope f cd A outer s H E).ex:=fun b z=>absurd (show b∈([]:List Addr)from z) (by simp);refine⟨⟨e0.mod,S.kind,rfl,rfl,ar _,fun y z c h1 h2=>?_,fun y hy=>?_,fun y c _ h=>?_,fun _=>hd,Around.frames_deeper e0.frames,.inr ⟨rfl,rfl⟩,fun b z=>absurd z (Kw b),e0.bs,e0.F8,fun b _ _=>Kw b,fun b z=>absurd z (Kw b),e0.p9,e0.Kq⟩,
  rfl,e0.bare,Un.kept hk,⟨_,x.toInCall.ns,fun i y v h1 h2 h3=>?_⟩,fun y c h=>⟨_,x.cell y c h⟩,e0.bN.fresh (ar _),fun y c h=>?_,fun p hp=>absurd (show p∈([]:List (Addr×Obj))from hp) (by simp),e0.bN.kept hk,?_⟩
 ·exact name_of_addr x.apart (f' h1) (f' h2)
 ·have hy:scope.names.lookup y=some .cell\/scope.names.lookup y=some .free:=hy;rcases hy with hy|hy
  ·exact vA hy
  ·exact absurd rfl (S.HL _ (f' hy))
 ·exact fL (x.above y c (f' h))
 ·have hi:i<vs.length:=by
   unfold start at h2;by_cases hi:i<vs.length
   ·exact hi
   ·rw[d_ (by simpa using hi)]at h2;rw[ly]at h2;split at h2<;>cases h2
  have ha:vs[i]?=some v:=by
   unfold start at h2;rw[ck (by simpa using hi),aU]at h2;cases e:vs[i]? with
   |none=>rw[e]at h2;cases h2
   |some a=>rw[e]at h2;cases h2;rfl
  obtain⟨u,hu,rv⟩:=r.get ha;have hp:ps[i]?=some y:=by
   rw[<-S.pre,List.getElem?_take_of_lt (by omega)];exact h1
  have S9:ps.Nodup:=by rw[<-S.pre];exact S.nd.sublist (List.take_sublist _ _)
  refine⟨u,rv,?_⟩;rcases S.par y (bJ hp)with k|k
  ·exact .inl ⟨k,sy S9 hp hu k⟩
  ·obtain⟨c,e⟩:=vA (n:=s.heap.objs.size+1) k;refine .inr ⟨.inl k,c,e,?_⟩;have q:=x.cell y c e;rw[sA S9 hp hu (by show scope.names.lookup y≠_;rw[k];decide)]at q;exact q
 ·exact e0.bN.fresh (fL (x.above y c (f' h)))
 ·unfold start;show _=N.length;rw[bj,ai,lB];omega
theorem BZ{CX:xA}{P:Program}{w:World}{K:PySem.W.Frag}{mg:Str->Option Value}{base:Heap}{k:Nat}{f:Addr}{name qual:Str}{params:Arguments}{body:List Stmt}{scope:Scope}{dV kV doc pm cO ct oc:Value}{an od:Option Addr}
  {yO:Array (Option Value)} {N ps:List Str} {sp:Sp} (lk:K.lookup f=some ⟨oc,od,.func (PySem.W.fnOf name qual params body scope dV kV doc pm an cO ct),yO⟩) (n6:PySem.W.codeIn K cO qual=true) (S:dD N ps scope)
  (len:∀vs H Q E,sp vs H Q E->vs.length=ps.length)
  (gG:∀(A:Around) (outer:List Env) (s:Shared) (H:Hp) (vs:List V) (Q:VK) (E:XK),de k (A.deeper (envOfC qual scope s.heap.objs.size f cO))->sp vs H Q E->
   ∃t,jB (jb CX P w K mg base N qual scope f cO A outer s H E) body t/\t {nx:=fun _ H'=>Q .cg H',rt:=Q} (start N vs) H):
  fQ P w K mg base CX (k+1) f (PySem.W.fnOf name qual params body scope dV kV doc pm an cO ct) ps sp:=by
 refine⟨len,fun A outer s H args us vs Q E hr e0 hb r Ge=>?_⟩;have hl:=len _ _ _ _ Ge;have KX:K.In s.heap:=e0.mod.Lh.keeps fun b o e=>(e0.bs b o e).1;have lim:s.heap.NoLimit:=e0.mod.nolimit.keeps fun b o e=>(e0.bs b o e).1;have LD:∀y∈ps.zip us,scope.names.lookup y.1=some .local\/(scope.names.lookup y.1=some .cell/\((cellsFrom (s.heap.objs.size+1) scope.names []).lookup y.1).isSome=true):=fun⟨n,v⟩ hy=>by
  rcases S.par n (pT hy).1 with q|q
  ·exact .inl q
  ·exact .inr ⟨q,PySem.W.cellsFrom_some _ _ _ (.inl q)⟩
 refine codeAny_call_function hr.depth (KX _ _ lk) rfl S.co S.gen rfl (PySem.W.codeRec_of KX n6) (hb _ _ _ _ ?_);refine wpAny_newFunctionEnv_cells S.kind LD fun env he s1 x=>?_
 subst he;refine⟨lim.keeps x.toInCall.keep,codeAny_func ?_⟩;obtain⟨t,ht,hq⟩:=gG A outer s H vs Q E (hr.deeper _) Ge;have I:Inv (jb CX P w K mg base N qual scope f cO A outer s H E) [] (start N vs) H s1:=Am S hr.hd e0 hl r x;refine dC (ht [] s1 (start N vs) H _ I hq) (fun fl s' hs=>?_) fun e s' hs=>hs;have fin:∀{bP:St} {H':Hp} {v:V} {u:Value},Inv (jb CX P w K mg base N qual scope f cO A outer s H E) [] bP H' s'->RelV v u->Q v H'->CE outer P w H s Q u s':=
  fun{bP H' v u} J rv q=>⟨v,H',J.os,J.bare,J.base,J.bN,rv,q⟩
 cases fl with
 |ret u=>
  obtain⟨v,bP,H',J,rv,q⟩:=hs;exact fin J rv q
 |next=>
  obtain⟨bP,H',J,q⟩:=hs;exact fin (v:=V.cg) (u:=Value.none) J rfl q
 |brk=>
  obtain⟨_,_,_,q⟩:=hs;exact False.elim q
 |cont=>
  obtain⟨_,_,_,q⟩:=hs;exact False.elim q
end L2
namespace L2
open PySem PySem.Spec PyProof.Rows
section
variable {X:Cx}{x:Str}{p pos:Pos}{e:Expr}{es:List Expr}{t:TA}{id T:String}{r:List V->Hp->VK->Prop}
def OT(r:List V->Hp->VK->Prop)(t:TA):TE:=fun σ H Q=>t σ H fun vs H1=>r vs H1 Q
theorem vB(hc:gE X (.builtin id) r)(hg:Gl X x)(hm:X.mg x=none)(hv:bootBuiltins x=some (.builtin id))(ha:PA X (e::es) t)(hn:x≠"__name__":=by decide) (iT:(x==("__debug__":Str))=false:=by decide)
  (he:starEach (e::es) X.env=(false,eval e X.env)::starEach es X.env:=by rfl) (n8:(backTo pos (starEach es X.env)).any (·.1)=false:=by rfl):PE X (.Call (.Name x p) (e::es) [] pos) (OT r t):=by
 intro pins s σ H Q I h;refine jk (kF I hg hm hv ?_ hn iT);exact PyProof.Rows.callWith_builtin1 (du (ha pos pins s σ H _ I h) fun us s1 ⟨vs,H1,I1,r1,q1⟩=>hc pins s1 σ H1 vs us Q I1 r1 q1) he n8
theorem iz(hc:gE X (.type T) r)(hg:Gl X x)(hm:X.mg x=none)(hv:bootBuiltins x=some (.type T))(ha:PA X (e::es) t)(hn:x≠"__name__":=by decide) (iT:(x==("__debug__":Str))=false:=by decide)
  (he:starEach (e::es) X.env=(false,eval e X.env)::starEach es X.env:=by rfl) (n8:(backTo pos (starEach es X.env)).any (·.1)=false:=by rfl):PE X (.Call (.Name x p) (e::es) [] pos) (OT r t):=by
 intro pins s σ H Q I h;refine jk (kF I hg hm hv ?_ hn iT);exact oW (du (ha pos pins s σ H _ I h) fun us s1 ⟨vs,H1,I1,r1,q1⟩=>hc pins s1 σ H1 vs us Q I1 r1 q1) he n8
end
end L2
namespace HT
open PySem PyProof.Rows
def lexLt:List Int->List Int->Bool
 |[],[]=>false
 |[],_::_=>true
 |_::_,[]=>false
 |x::xs,y::ys=>if x=y then lexLt xs ys else decide (x<y)
theorem xB(x y:Int)(xs ys:List Int):lexLt (x::xs) (y::ys)=if x=y then lexLt xs ys else decide (x<y):=rfl
theorem rY:lexLt [] []=false:=rfl
theorem qg(y:Int)(ys:List Int):lexLt [] (y::ys)=true:=rfl
theorem qj(x:Int)(xs:List Int):lexLt (x::xs) []=false:=rfl
theorem B5(A:Around)(s:Shared)(a:Int)(t:Tok)(c:Int)(u:Tok):∃e,SeqAt.EqAt A s (.int a t) (.int c u) e/\(e=true↔a=c):=
 ⟨(a==c),SeqAt.EqAt.int_int a t c u,by simp⟩
theorem B6(A:Around)(s:Shared)(a:Int)(t:Tok)(c:Int)(u:Tok)(prog:Program)(w:World)(E:Value->Shared->Prop)(Q:Value->Shared->Prop)(h:Q (.bool (decide (a<c))) s):
  wpAny (model prog w) A (richCompare .Lt (.int a t) (.int c u)) Q E s:=
 (PyProof.Rows.lt_int h:wpAny (model prog w) A (compareOp .Lt (.int a t) (.int c u)) Q E s)
section
open PySem.SeqAt
open PySem.AutoSeq1 (wpAny_loadPart')
open PySem.MeetsSeq PySem.MeetsSeq2 PySem.MeetsSeq3
theorem rZ(l b:Addr)(items g8:Array Value)(n n2:Nat)(dd D':Option Addr)(sl Gf:Array (Option Value))(ns ms:List Int)(hi:IntsAre items.toList ns)(hj:IntsAre g8.toList ms):
  Meets (Builtin.«tuple.__lt__» ⟨[.ref l,.ref b],[]⟩)
   (fun _ R s=>s.heap.get? l=some {cls:=.type "tuple",dict:=dd,data:=.seq items n,slots:=sl}/\s.heap.get? b=some {cls:=.type "tuple",dict:=D',data:=.seq g8 n2,slots:=Gf}/\
    R (.ok (.ret (.bool (lexLt ns ms)))) s):=
 .of_wp fun prog w A R s h=>by
  obtain⟨hp,g,d,tk,os⟩:=s;obtain⟨hl,hb,h⟩:=h;have f2:=AutoSeq1.sub_tuple_tuple;have z1:items.size=ns.length:=by rw[<-hi.length];simp
  have z2:g8.size=ms.length:=by rw[<-hj.length];simp
  wp_walk using wpAny_loadPart' hl,wpAny_loadPart' hb,ig _ (fun rest b s'=>b.1=none/\s'=⟨hp,g,d,tk,os⟩/\∃(vs ws:List Value) (Kx Ky:List Int),rest=vs.zip ws/\
   IntsAre vs Kx/\IntsAre ws Ky/\Kx.length+g8.size=Ky.length+items.size/\R (.ok (.ret (.bool (lexLt Kx Ky)))) ⟨hp,g,d,tk,os⟩) _
  case turn=>
   rintro ⟨y,x⟩ rest b s' ⟨jc,rfl,vs,ws,Kx,Ky,hz,Qz,OU,hlen,hR⟩
   cases Qz with
   |nil=>rw[List.zip_nil_left]at hz;cases hz
   |cons a t QC=>
    cases OU with
    |nil=>rw[List.zip_nil_right]at hz;cases hz
    |cons c u QH=>
     rw[List.zip_cons_cons]at hz;injection hz with UA B7
     injection UA with hy hx
     subst hy hx;rw[xB]at hR;simp only[bp]at hlen;obtain⟨e,he,LF⟩:=B5 A.in1 ⟨hp,g,d,tk,os⟩ a t c u;refine aa (he prog w _ _ ?_);cases e with
     |true=>
      rw[ab (LF.mp rfl)]at hR
      wp_walk
      exact⟨rfl,rfl,_,_,_,_,B7,QC,QH,by omega,hR⟩
     |false=>
      rw[ae (fun q=>absurd (LF.mpr q) cz)]at hR;have UB:=B6 A.in1 ⟨hp,g,d,tk,os⟩ a t c u prog w
      wp_walk using UB
      exact⟨_,rfl,by simpa using hR⟩
  case fin=>
   rintro ⟨b1,b2⟩ s' ⟨jc,rfl,vs,ws,Kx,Ky,hz,Qz,OU,hlen,hR⟩
   simp only at jc;subst jc;have hv:lexLt Kx Ky=decide (items.size<g8.size):=by
    cases Qz with
    |nil=>
     cases OU with
     |nil=>
      simp only[dO]at hlen;rw[rY];exact(aY (by omega)).symm
     |cons c u hw=>
      simp only[dO,bp]at hlen;rw[qg];exact(bA (by omega)).symm
    |cons a t hv=>
     cases OU with
     |nil=>
      simp only[dO,bp]at hlen;rw[qj];exact(aY (by omega)).symm
     |cons c u hw=>
      rw[List.zip_cons_cons]at hz;cases hz
   rw[hv]at hR
   wp_walk
   exact⟨_,rfl,by simpa[Builtin.Tuple.tupleCompareSizes]using hR⟩
  case h=>
   exact⟨rfl,rfl,items.toList,g8.toList,ns,ms,rfl,hi,hj,by omega,h⟩
end
section
variable {prog:Program}{w:World}{A:Around}{E:Value->Shared->Prop}{s:Shared}
theorem xC{l b:Addr}{items g8:Array Value}{ns ms:List Int}{Q:Value->Shared->Prop}(hl:IsTup s.heap l items)(hb:IsTup s.heap b g8)(hi:IntsAre items.toList ns)(hj:IntsAre g8.toList ms)
  (hu:A.units<cLine) (h:Q (.bool (lexLt ns ms)) s):wpAny (model prog w) A (compareOp .Lt (.ref l) (.ref b)) Q E s:=by
 obtain⟨⟨cls,dd,data,sl⟩,ho,hc,n,hd⟩:=id hl;obtain⟨⟨QK,D',data2,Gf⟩,HM,LG,n2,hd2⟩:=id hb;simp only at hc hd LG hd2;subst hc hd LG hd2;exact richCompare_meets_room (op:=.Lt) ⟨_,ho,rfl⟩ ⟨_,HM,rfl⟩ PySem.F.slot_tuple_lt PySem.F.entry_tuple_lt (PySem.F.args_tuple_lt_2 _ _) (rZ l b items g8 n n2 dd D' sl Gf ns ms hi hj)
  ⟨ho,HM,show Value.bool (lexLt ns ms)≠Value.notImplemented/\Q (.bool (lexLt ns ms)) s from⟨(fun x=>nomatch x),h⟩⟩ hu
theorem Eu{t b:Addr}{vs ws:List Value}{Q:Value->Shared->Prop}(ht:IsTup s.heap t vs.toArray)(hb:IsTup s.heap b ws.toArray)(hv:vs≠[])
  (h1:ws=[]->Q (.ref t) s) (h2:ws≠[]->Q (.ref s.heap.objs.size) {s with heap:=s.heap.push {cls:=.type "tuple",data:=.seq (vs++ws).toArray}})
  (hsz:vs.length+ws.length<=sizeLine):wpAny (model prog w) A (binaryOp .Add (.ref t) (.ref b)) Q E s:=by
 obtain⟨⟨cls,dd,data,sl⟩,ho,hc,n,hd⟩:=id ht;obtain⟨⟨QK,D',data2,Gf⟩,HM,LG,n2,hd2⟩:=id hb;simp only at hc hd LG hd2;subst hc hd LG hd2;have e:vs.toArray++ws.toArray=(vs++ws).toArray:=by simp
 by_cases hw:ws=[]
 ·exact concat_meets ⟨_,ho,rfl⟩ ⟨_,HM,rfl⟩ noFill_tuple_add seq_tuple_add o9 o7 (o6 _ _)
   (tuple_addW1 t b vs.toArray ws.toArray n n2 dd D' sl Gf (by simpa using hv) (by simp[hw])) ⟨ho,HM,h1 hw⟩
 ·refine concat_meets ⟨_,ho,rfl⟩ ⟨_,HM,rfl⟩ noFill_tuple_add seq_tuple_add o9 o7 (o6 _ _)
   (tuple_addW2 t b vs.toArray ws.toArray n n2 dd D' sl Gf (by simpa using hv) (by simpa using hw) (by rw[bc,bc];exact hsz)) ⟨ho,HM,?_⟩
  rw[e];exact h2 hw
end
end HT
namespace L2
open PySem PySem.Spec PyProof.Rows
section
variable {X:Cx}{e:Expr}{te:TE}{lo hi:Option Expr}{tl th:TO}{pos p2:Pos}
def LH(K:PySem.W.Frag):R2:=fun x y H Q=>∃a b xs ys,x=.ref a/\y=.ref b/\gW K H a xs/\gW K H b ys/\xs≠[]/\xs.length+ys.length<=sizeLine/\
 (ys=[]->Q (.ref a) H)/\(ys≠[]->∀p,H p=none->Q (.ref p) (upd H p (.tup (xs++ys))))
theorem Vals.uh {xs:List V}{us:List Value}(r:Vals xs us):us=[]↔xs=[]:=by
 cases r with
 |nil=>simp
 |cons _ _=>simp
theorem Ew:rO X (binaryOp .Add) (LH X.K):=by
 intro pins s σ H x y v u Q I rx ry h;obtain⟨a,b,xs,ys,rfl,rfl,ha,hb,hx,hz,q1,q2⟩:=h;cases rx;cases ry;obtain⟨aV,r1,p1,_⟩:=I.tuple ha;obtain⟨vC,r2,p2,_⟩:=I.tuple hb;refine HT.Eu p1 p2 (fun z=>hx (r1.uh.mp z)) (fun z=>⟨.ref a,H,I,rfl,q1 (r2.uh.mp z)⟩) (fun z=>?_) (by rw[<-r1.length,<-r2.length];exact hz);refine⟨.ref s.heap.objs.size,_,I.laid (t':=s.toks) (o:=.tup (xs++ys)) (fun b ob q=>aB _ q) (ar _) ?_,rfl,q2 (fun w=>z (r2.uh.mpr w)) _ (I.bN.fresh (ar _))⟩;exact⟨by rw[bj];exact hz,_,r1.append r2,kD.new _ _⟩
end
end L2
namespace L2
open PySem PySem.Spec PyProof.Rows
def Gg(n:Nat)(i:Int):Option Nat:=if 0<=i then(if i<n then some i.toNat else none)else if-(n:Int)<=i then some (i+n).toNat else none
def rP{α:Type}(xs:List α)(i:Int):Option α:=(Gg xs.length i).bind fun j=>xs[j]?
theorem Ex{n:Nat}{i:Int}{j:Nat}(h:Gg n i=some j):seqIndex? i n=some j/\j<n/\-(n:Int)<=i/\i<n:=by
 unfold Gg at h;by_cases h0:0<=i
 ·rw[ab h0]at h;by_cases h1:i<n
  ·rw[ab h1]at h;have e:i.toNat=j:=Option.some.inj h;exact⟨by rw[seqIndex_of h0 h1,e],by omega,by omega,h1⟩
  ·rw[ae h1]at h;cases h
 ·rw[ae h0]at h;by_cases h1:-(n:Int)<=i
  ·rw[ab h1]at h;have e:(i+n).toNat=j:=Option.some.inj h;exact⟨by rw[seqIndex_neg (by omega) h1,e],by omega,h1,by omega⟩
  ·rw[ae h1]at h;cases h
theorem ui{α:Type}{xs:List α}{i:Int}{v:α}(h:rP xs i=some v):∃j,seqIndex? i xs.length=some j/\xs[j]?=some v/\j<xs.length/\-(xs.length:Int)<=i/\i<xs.length:=by
 unfold rP at h;cases e:Gg xs.length i with
 |none=>rw[e]at h;cases h
 |some j=>
  rw[e]at h;obtain⟨h1,h2,h3,h4⟩:=Ex e;exact⟨j,h1,h,h2,h3,h4⟩
theorem Ey{α:Type}{xs:List α}{j:Nat}{v:α}(h:xs[j]?=some v):rP xs (j:Int)=some v:=by
 have hj:j<xs.length:=(cX.mp h).1;have e:Gg xs.length (j:Int)=some j:=by
  unfold Gg;rw[ab (by omega),ab (by omega)];simp
 unfold rP;rw[e];exact h
def oD(b:Expr):Prop:=∀o i,subscripted b false o i=operate [o,i] (getItem o i)
def Kz(X:Cx)(r:R2):Prop:=
 ∀(value slice:Expr) (pins:List (Addr×Obj)) (s:Shared) (σ:St) (H:Hp) (x y:V) (v u:Value) (Q:VK),Inv X pins σ H s->RelV x v->RelV y u->r x y H Q->
  subscripted slice false v u=operate [v,u] (getItem v u)->wpAny (model X.prog X.w) X.A (subscriptTail value slice v u) (EP X pins σ Q) X.xe s
def UC(X:Cx)(id:String)(r:V->List V->Hp->VK->Prop):Prop:=
 ∀(pins:List (Addr×Obj)) (s:Shared) (σ:St) (H:Hp) (x:V) (xs:List V) (v:Value) (us:List Value) (Q:VK),Inv X pins σ H s->RelV x v->Vals xs us->r x xs H Q->
  wpAny (model X.prog X.w) X.A (call (.builtin id) (v::us)) (EP X pins σ Q) X.xe s
section
variable {X:Cx}{a b:Expr}{ta tb:TE}{pos:Pos}
theorem Gh{r:R2}(hr:Kz X r)(ha:PE X a ta)(hb:PE X b tb)(hs:oD b):PE X (.Subscript a b pos) (Ls r ta tb):=by
 intro pins s σ H Q I h;exact Subscript_ (Hy ha hb I h fun v u s2 x y H2 I2 rx ry q=>hr a b pins s2 σ H2 x y v u Q I2 rx ry q (hs _ _))
def QL(K:PySem.W.Frag):R2:=fun x y H Q=>∃p xs i v,x=.ref p/\y=.int i/\iw K H p xs/\rP xs i=some v/\Q v H
def QM(K:PySem.W.Frag):R2:=fun x y H Q=>∃p xs i v,x=.ref p/\y=.int i/\gW K H p xs/\rP xs i=some v/\Q v H
def QN:R2:=fun x y H Q=>∃z i c,x=.str z/\y=.int i/\z.length<=sizeLine/\rP z.cps.toList i=some c/\Q (.str ⟨#[c]⟩) H
theorem yP:Kz X (QL X.K):=by
 intro value slice pins s σ H x y v u Q I rx ry h hs;obtain⟨p,xs,i,z,rfl,rfl,hq,he,q⟩:=h;cases rx;obtain⟨t,rfl⟩:=ry;obtain⟨aV,r,pl,hz⟩:=I.list hq;obtain⟨j,h1,h2,h3,h4,h5⟩:=ui he;obtain⟨w,ew,kh⟩:=r.get h2;have hl:=r.length;have hn:=qe;have fin:EP X pins σ Q w s:=⟨z,H,I,kh,q⟩;by_cases h0:0<=i
 ·have hj:i.toNat=j:=by
   rw[seqIndex_of h0 h5]at h1;exact Option.some.inj h1
  exact item_listR pl.isList h0 (by omega) (by rw[hj];simpa using ew) fin hs
 ·have hj:(i+(aV.toArray.size:Int)).toNat=j:=by
   rw[seqIndex_neg (by omega) h4]at h1;rw[bc,<-hl];exact Option.some.inj h1
  exact subscriptTail_builtinR (x:=w) pl.isList.typeIs slot_list_getitem.lookup
   (wpAny_getItem_list_neg (Q:=fun r s'=>r=w/\EP X pins σ Q r s') pl.isList (by omega) (by rw[bc]<;>omega) (by omega) (by rw[hj];simpa using ew) ⟨rfl,fin⟩) hs
theorem HN:Kz X (QM X.K):=by
 intro value slice pins s σ H x y v u Q I rx ry h hs;obtain⟨p,xs,i,z,rfl,rfl,hq,he,q⟩:=h;cases rx;obtain⟨t,rfl⟩:=ry;obtain⟨aV,r,pl,hz⟩:=I.tuple hq;obtain⟨j,h1,h2,h3,h4,h5⟩:=ui he;obtain⟨w,ew,kh⟩:=r.get h2;have hl:=r.length;have hn:=qe;have fin:EP X pins σ Q w s:=⟨z,H,I,kh,q⟩;exact subscriptTail_builtinR (x:=w) pl.typeIs slot_tuple_getitem.lookup
  (getItem_tuple (j:=j) (Q:=fun r s'=>r=w/\EP X pins σ Q r s') pl (by omega) (by omega) (by rw[bc,<-hl];exact h1) (by simpa using ew) ⟨rfl,fin⟩) hs
theorem HP:Kz X QN:=by
 intro value slice pins s σ H x y v u Q I rx ry h hs;obtain⟨z,i,c,rfl,rfl,hz,he,q⟩:=h;obtain⟨t,rfl⟩:=rx;obtain⟨t',rfl⟩:=ry;obtain⟨j,h1,h2,h3,h4,h5⟩:=ui he;have hl:z.cps.toList.length=z.length:=by simp[Str.length]
 rw[hl]at h1 h4 h5;have hn:=qe;exact tail_any (typeIs_str s z t) slot_str_getitem.lookup (getItem_str (c:=c) (by
  have e1:decide (i< -(2 ^63:Int))=false:=aY (by omega);have e2:decide (i>=2 ^63)=false:=aY (by omega);rw[e1,e2,lS]) (by rw[h1];simpa using h2) ⟨.str ⟨#[c]⟩,H,I.tok _,⟨_,rfl⟩,q⟩) hs
theorem Inv.lst {pins:List (Addr×Obj)}{σ:St}{H:Hp}{s:Shared}{p:Addr}{xs:List V}(I:Inv X pins σ H s)(h:H p=some (.lst xs)):
  ∃(aV:List Value) (n:Nat),Vals xs aV/\s.heap.get? p=some {cls:=.type "list",data:=.seq aV.toArray n}/\xs.length<=sizeLine:=by
 obtain⟨z,aV,n,r,e⟩:=I.bN p _ h;exact⟨aV,n,r,e,z⟩
def Gi:V->Bool
 |.cg=>true
 |.bl _=>true
 |.int _=>true
 |.str _=>true
 |_=>false
theorem l8:gE X (.type "list") (fun xs H Q=>∃p ys,xs=[.ref p]/\(iw X.K H p ys\/gW X.K H p ys)/\∀l,H l=none->Q (.ref l) (upd H l (.lst ys))):=by
 intro pins s σ H xs us Q I r h;obtain⟨p,ys,rfl,hq,q⟩:=h;obtain⟨u,rfl,rx⟩:=vals1 r;cases rx;have fin:∀(aV:List Value),Vals ys aV->ys.length<=sizeLine->∀(h':Heap) (c':Nat),(∀b o',s.heap.get? b=some o'->h'.get? b=some o')->
   h'.get? s.heap.objs.size=some {cls:=.type "list",dict:=none,data:=.seq aV.toArray c',slots:=#[]}->EP X pins σ Q (.ref s.heap.objs.size) {s with heap:=h'}:=fun aV r' hz h' c' kp e=>
  ⟨.ref s.heap.objs.size,_,I.laid (t':=s.toks) kp (ar _) (show bu X.prog X.w _ h' _ (.lst ys)from⟨hz,aV,c',r',e⟩),rfl,q _ (I.bN.fresh (ar _))⟩
 rcases hq with hq|hq
 ·obtain⟨aV,r',pl,hz⟩:=I.list hq;have hlen:=r'.length;obtain⟨o,ho,hc,n,hd⟩:=pl.isList;exact call_list_seq p (.inl rfl) ho hc hd (fun h' c' kp e=>fin aV r' hz h' c' kp e) (by simp only[bc]<;>omega)
 ·obtain⟨aV,r',pl,hz⟩:=I.tuple hq;have hlen:=r'.length;obtain⟨o,ho,hc,n,hd⟩:=pl;exact call_list_seq p (.inr rfl) ho hc hd (fun h' c' kp e=>fin aV r' hz h' c' kp e) (by simp only[bc]<;>omega)
theorem kx:gE X (.type "tuple") (fun xs H Q=>∃p ys,xs=[.ref p]/\((iw X.K H p ys/\∀l,H l=none->Q (.ref l) (upd H l (.tup ys)))\/(gW X.K H p ys/\Q (.ref p) H))):=by
 intro pins s σ H xs us Q I r h;obtain⟨p,ys,rfl,h⟩:=h;obtain⟨u,rfl,rx⟩:=vals1 r;cases rx;rcases h with⟨hq,q⟩|⟨hq,q⟩
 ·obtain⟨aV,r',pl,hz⟩:=I.list hq;have hlen:=r'.length;refine call_tuple_list pl.isList (fun h' kp=>?_) (by simp only[bc]<;>omega);have I1:Inv X pins σ H {s with heap:=h'}:=I.kept (t':=s.toks) kp;have I2:Inv X pins σ (upd H h'.objs.size (.tup ys)) {s with heap:=h'.push {cls:=.type "tuple",data:=.seq aV.toArray}}:=
   I1.laid (t':=s.toks) (fun b o e=>aB _ e) (ar _) (show bu X.prog X.w _ _ _ (.tup ys)from⟨hz,aV,r',kD.new _ _⟩)
  exact⟨.ref h'.objs.size,_,I2,rfl,q _ (I1.bN.fresh (ar _))⟩
 ·obtain⟨aV,r',pl,hz⟩:=I.tuple hq;exact call_tuple_same pl ⟨.ref p,H,I,rfl,q⟩
def S_(K:PySem.W.Frag)(T:String)(x:V)(H:Hp):Prop:=match x with
 |.str _=>T="str"
 |.int _=>T="int"
 |.ref p=>(T="list"/\∃xs,iw K H p xs)\/(T="tuple"/\∃o,K.lookup p=some o/\o.cls=.type "tuple"/\o.dict=none)\/
   (T="dict"/\((∃av,H p=some (.dK av))\/∃av,H p=some (.dT av)))\/(T="set"/\∃S n,H p=some (.set S n))
 |_=>False
theorem HQ{pins:List (Addr×Obj)}{σ:St}{H:Hp}{s:Shared}{T:String}{x:V}{v:Value}(I:Inv X pins σ H s)(r:RelV x v)(ty:S_ X.K T x H):
  s.TypeIs v T/\∀a,v=.ref a->∃ob,s.heap.get? a=some ob/\ob.dict=none:=by
 cases x with
 |str z=>
  obtain⟨t,rfl⟩:=r;cases(show T="str"from ty);exact⟨typeIs_str s z t,fun _ e=>nomatch e⟩
 |int i=>
  obtain⟨t,rfl⟩:=r;cases(show T="int"from ty);exact⟨typeIs_int s i t,fun _ e=>nomatch e⟩
 |ref p=>
  cases r;rcases ty with⟨rfl,xs,hq⟩|⟨rfl,o,hk,hc,hd⟩|⟨rfl,hk⟩|⟨rfl,S,n,hk⟩
  ·obtain⟨aV,_,pl,_⟩:=I.list hq;refine⟨pl.isList.typeIs,fun a e=>?_⟩;cases e;obtain⟨o,n,e,c,hd,_⟩:=pl;exact⟨o,e,hd⟩
  ·refine⟨⟨o,I.n5 p o hk,hc⟩,fun a e=>?_⟩;cases e;exact⟨o,I.n5 _ o hk,hd⟩
  ·have z:∃o,s.heap.get? p=some o/\o.ExactDict:=by
    rcases hk with⟨av,hk⟩|⟨av,hk⟩
    ·obtain⟨_,_,_,_,o,_,_,e,ex,_⟩:=I.bN p _ hk;exact⟨o,e,ex⟩
    ·obtain⟨_,_,_,_,o,_,_,e,ex,_⟩:=I.bN p _ hk;exact⟨o,e,ex⟩
   obtain⟨o,e,ex⟩:=z;refine⟨⟨o,e,ex.1⟩,fun a e2=>?_⟩;cases e2;exact⟨o,e,ex.2.1⟩
  ·obtain⟨o,_,_,_,e,ex,_⟩:=I.bN p _ hk;refine⟨⟨o,e,ex.1⟩,fun a e2=>?_⟩;cases e2;exact⟨o,e,ex.2.1⟩
 |_=>exact False.elim ty
def UD(K:PySem.W.Frag)(T:String)(r:V->List V->Hp->VK->Prop)(to:TE)(t:TA):TE:=fun σ H Q=>to σ H fun x H1=>S_ K T x H1/\t σ H1 fun xs H2=>r x xs H2 Q
variable {o e:Expr}{es:List Expr}{to:TE}{t:TA}{name:Str}{apos dg:Pos}{T id:String}{r:V->List V->Hp->VK->Prop}
theorem LI(pa:PlainAttrs T)(slot:Slot T name id)(LJ:typeOf (.builtin id)=pure (.type "method_descriptor"))(hm:UC X id r)(ho:PE X o to)(ha:PA X (e::es) t)
  (ql:attributeBase o name X.env (eval o X.env)=eval o X.env:=by rfl)
  (QO:((backTo dg (starEach (e::es) X.env)).all (fun x=>!x.1)&&(backToKw dg (keywordEach [] X.env)).all (fun x=>x.1.isSome)
   &&decide ((e::es).length+([]:List Keyword).length+(if([]:List Keyword).isEmpty then 0 else 1)<30))=true:=by rfl)
  (qm:(apos.endLine==dg.line)=true:=by rfl) (hs:starEach (e::es) X.env=(false,eval e X.env)::starEach es X.env:=by rfl) (HR:(backTo dg (starEach es X.env)).any (·.1)=false:=by rfl):
  PE X (.Call (.Attribute o name apos) (e::es) [] dg) (UD X.K T r to t):=by
 intro pins s σ H Q I h;refine wpAny_Call_method_late ql QO qm rfl (du (ho pins s σ H _ I h) fun v s1 ⟨x,H1,I1,r1,ty,q1⟩=>?_);obtain⟨h1,h2⟩:=HQ I1 r1 ty;refine⟨T,id,pa,slot,LJ,h1,h2,?_⟩;have hA:=ha dg pins s1 σ H1 _ I1 q1;rw[hs]at hA⊢;refine pz (by show(false||(backTo dg (starEach es X.env)).any (·.1))=false;rw[HR]<;>rfl) (pI ?_);exact du hA fun us s2 ⟨vs,H2,I2,r2,q2⟩=>hm pins s2 σ H2 x vs v us Q I2 r1 r2 q2
end
end L2
namespace L2
open PySem PySem.Spec PyProof.Rows
def OV(X:Cx)(id:String)(r:V->List V->Hp->VK->Prop):Prop:=
 ∀(pins:List (Addr×Obj)) (s:Shared) (σ:St) (H:Hp) (x:V) (xs:List V) (v:Value) (us:List Value) (Q:VK),Inv X pins σ H s->RelV x v->Vals xs us->r x xs H Q->
  wpAny (model X.prog X.w) X.A (call (.builtin id) (v::us)) (EP X pins σ Q) X.xe s
theorem Vals.one:∀{x:V} {us:List Value},Vals [x] us->∃u,us=[u]/\RelV x u
 |_,_,.cons r .nil=>⟨_,rfl,r⟩
theorem Vals.eraseIdx:∀{xs:List V} {us:List Value} (i:Nat),Vals xs us->Vals (xs.eraseIdx i) (us.eraseIdx i)
 |_,_,_,.nil=>.nil
 |_,_,0,.cons _ t=>t
 |_,_,i+1,.cons r t=>.cons r (Vals.eraseIdx i t)
theorem Vals.rep {xs:List V}{us:List Value}(h:Vals xs us):∀k:Nat,Vals (List.replicate k xs).flatten (List.replicate k us).flatten
 |0=>.nil
 |k+1=>by
  rw[iP,iP,hX,hX];exact Vals.append h (Vals.rep h k)
theorem sC{α:Type}:∀(l:List α) (i:Nat),(l.eraseIdx i).length<=l.length
 |[],_=>ar _
 |_::_,0=>gz _
 |_::r,i+1=>Nat.succ_le_succ (sC r i)
theorem foldl_rep(aV:List Value):∀(k:Nat) (acc:List Value),
  List.foldl (fun x1 x2=>x1++x2) acc.toArray (List.replicate k aV.toArray)=(acc++(List.replicate k aV).flatten).toArray
 |0,acc=>by simp
 |k+1,acc=>by
  have e:acc.toArray++aV.toArray=(acc++aV).toArray:=by simp
  have e2:(acc++aV)++(List.replicate k aV).flatten=acc++(List.replicate (k+1) aV).flatten:=by
   rw[iP,hX,gV]
  rw[<-e2,<-foldl_rep aV k (acc++aV),<-e,iP,List.foldl_cons]
section
variable {X:Cx}{pins:List (Addr×Obj)}{σ:St}{H:Hp}{s:Shared}{l b:Addr}{xs ys zs:List V}
theorem Inv.LK {aV ud:List Value}{n:Nat}{f:Array Value->Array Value}{t':Nat}(I:Inv X pins σ H s)(hH:H l=some (.lst xs))
  (e:s.heap.get? l=some {cls:=.type "list",data:=.seq aV.toArray n}) (hf:f aV.toArray=ud.toArray) (hv:Vals ys ud) (hz:ys.length<=sizeLine):
  Inv X pins σ (upd H l (.lst ys)) {s with heap:=s.heap.update l (Obj.mapSeq f),toks:=t'}:=by
 have q:=PySem.IsL.update e f;rw[hf]at q;refine I.write (x:=l) (e:=l) (by rw[hH];exact trivial) (.inl rfl) (fun b' u hb hu=>(gU s.heap (Obj.mapSeq f) (b_ hb)).trans hu) ⟨_,q⟩ ?_
 exact⟨hz,ud,_,hv,q⟩
theorem Inv.HS {aV:List Value}{t':Nat}(I:Inv X pins σ H s)(hv:Vals ys aV)(hz:ys.length<=sizeLine):
  Inv X pins σ (upd H s.heap.objs.size (.lst ys)) {s with heap:=s.heap.push {cls:=.type "list",data:=.seq aV.toArray},toks:=t'}:=
 I.laid (fun _ _ q=>aB _ q) (ar _) ⟨hz,aV,0,hv,aT _ rfl⟩
theorem Inv.fresh (I:Inv X pins σ H s):H s.heap.objs.size=none:=I.bN.fresh (ar _)
theorem Inv.B8 (I:Inv X pins σ H s)(hH:H l=some (.lst xs)):xs.length<=sizeLine/\∃(aV:List Value) (n:Nat),Vals xs aV/\xs.length=aV.length/\s.heap.get? l=some {cls:=.type "list",data:=.seq aV.toArray n}:=by
 obtain⟨z,aV,n,r,e⟩:=I.bN l _ hH;exact⟨z,aV,n,r,r.length,e⟩
theorem B9{n:Nat}(h:n<=sizeLine):Builtin.List.listTooLong n=false:=by
 unfold Builtin.List.listTooLong;exact aY (by omega)
end
section
variable {X:Cx}
def yQ:V->List V->Hp->VK->Prop:=fun x vs H Q=>∃l xs y,x=.ref l/\vs=[y]/\H l=some (.lst xs)/\xs.length<sizeLine/\Q .cg (upd H l (.lst (xs++[y])))
theorem fo:OV X "list.append" yQ:=by
 intro pins s σ H x vs v us Q I rx rv h;obtain⟨l,xs,y,rfl,rfl,hH,hz,q⟩:=h;cases rx;obtain⟨u,rfl,ru⟩:=rv.one;obtain⟨z,aV,n,r,hl,e⟩:=I.B8 hH;refine gD iN ⟨_,e,rfl⟩ F.entry_list_append (F.args_list_append_2 _ _) (PySem.list_append l aV.toArray n u (by rw[bc];omega)) ⟨e,?_⟩;refine⟨.cg,_,I.LK (ud:=aV++[u]) hH e (by simp) (r.append (.cons ru .nil)) ?_,rfl,q⟩;rw[bj,j6];omega
def B_:V->List V->Hp->VK->Prop:=fun x vs H Q=>∃l xs i k y,x=.ref l/\vs=[.int i]/\H l=some (.lst xs)/\-(2 ^63)<=i/\i<2 ^63/\seqIndex? i xs.length=some k/\xs[k]?=some y/\Q y (upd H l (.lst (xs.eraseIdx k)))
theorem Ca:OV X "list.pop" B_:=by
 intro pins s σ H x vs v us Q I rx rv h;obtain⟨l,xs,i,k,y,rfl,rfl,hH,h1,h2,hk,hy,q⟩:=h;cases rx;obtain⟨u,rfl,ru⟩:=rv.one;obtain⟨t,rfl⟩:=ru;obtain⟨z,aV,n,r,hl,e⟩:=I.B8 hH;obtain⟨w,hw,kh⟩:=r.get hy;refine gD F.slot_list_pop ⟨_,e,rfl⟩ F.entry_list_pop (F.args_list_pop_2 _ _)
  (MeetsSeq.list_pop_at l aV.toArray n i t k w (fitsIndex_both h1 h2) (by rw[bc,<-hl];exact hk) (by rw[<-cI];exact hw) (by rw[bc];omega)) ⟨e,?_⟩
 refine⟨y,_,I.LK (ud:=aV.eraseIdx k) hH e ?_ (r.eraseIdx k) ?_,kh,q⟩
 ·show aV.toArray.eraseIdxIfInBounds k=(aV.eraseIdx k).toArray;rw[List.eraseIdxIfInBounds_toArray]
 ·have:=sC xs k;omega
def QP:R2:=fun x y H Q=>∃l b xs zs,x=.ref l/\y=.ref b/\H l=some (.lst xs)/\H b=some (.lst zs)/\xs.length+zs.length<=sizeLine/\∀p,H p=none->Q (.ref p) (upd H p (.lst (xs++zs)))
theorem HU:rO X (binaryOp .Add) QP:=by
 intro pins s σ H x y v u Q I rx ry h;obtain⟨l,b,xs,zs,rfl,rfl,hH,hB,hz,q⟩:=h;cases rx;cases ry;obtain⟨z,aV,n,r,hl,e⟩:=I.B8 hH;obtain⟨z2,vC,n2,r2,Ez,e2⟩:=I.B8 hB;refine PySem.P.add_list e e2 ?_ (by rw[bc,bc];omega)
 have ea:aV.toArray++vC.toArray=(aV++vC).toArray:=by simp
 rw[ea];exact⟨.ref _,_,I.HS (t':=s.toks) (r.append r2) (by rw[bj];omega),rfl,q _ I.fresh⟩
def QQ:R2:=fun x y H Q=>∃l k xs,x=.ref l/\y=.int k/\H l=some (.lst xs)/\-(2 ^63)<=k/\k<2 ^63/\xs.length*k.toNat<=sizeLine/\
 ∀p,H p=none->Q (.ref p) (upd H p (.lst (List.replicate k.toNat xs).flatten))
theorem len_rep{α:Type}(xs:List α)(k:Nat):(List.replicate k xs).flatten.length=k*xs.length:=by
 induction k with
 |zero=>simp
 |succ k ih=>rw[iP,hX,bj,ih,Nat.succ_mul,Nat.add_comm]
theorem HV:rO X (binaryOp .Mult) QQ:=by
 intro pins s σ H x y v u Q I rx ry h;obtain⟨l,k,xs,rfl,rfl,hH,h1,h2,hz,q⟩:=h;cases rx;obtain⟨t,rfl⟩:=ry;obtain⟨z,aV,n,r,hl,e⟩:=I.B8 hH;have hlen:aV.toArray.size*k.toNat<=sizeLine:=by rw[bc,<-hl];exact hz
 have QR:¬aV.toArray.size*k.toNat>(2 ^63 - 1)/8:=by
  have:(sizeLine:Nat)<=(2 ^63 - 1)/8:=by decide
  omega
 have QU:¬(!Builtin.List.listFitsIndex k)=true:=by
  rw[fitsIndex_both h1 h2];exact cz
 have LL:¬Builtin.List.listTooLong (aV.toArray.size*k.toNat)=true:=by
  rw[B9 hlen];exact cz
 have EA:List.foldl (fun x1 x2=>x1++x2) #[] (List.replicate (if aV.toArray.isEmpty=true then 0 else k.toNat) aV.toArray)=(List.replicate k.toNat aV).flatten.toArray:=by
  have f0:∀m:Nat,List.foldl (fun x1 x2=>x1++x2) #[] (List.replicate m aV.toArray)=(List.replicate m aV).flatten.toArray:=fun m=>by
   have:=foldl_rep aV m [];rw[lM]at this;exact this
  rw[f0];cases aV with
  |nil=>simp
  |cons a r'=>rw[ae (by simp)]
 refine wpAny_binaryOp_repeat_ref (T:="list") (U:="int") (by decide) ⟨_,e,rfl⟩ (fun s'=>typeIs_int s' k t) noFill_list_mul F.fills_int_mul F.slot_int_rmul repeat_list F.slot_int_index.lookup
  (gD F.slot_int_rmul (typeIs_int s k t) F.entry_int_rmul (F.args_int_rmul_2 _ _) (int___rmul___int_list k t l aV.toArray n)
   ⟨e,rfl,⟨_,e,rfl⟩,gD F.slot_list_mul ⟨_,e,rfl⟩ F.entry_list_mul (F.args_list_mul_2 _ _) (AutoListH.list___mul___list_int_3 l aV.toArray n k t QU QR LL) ⟨e,?_⟩⟩)
 rw[EA];exact⟨.ref _,_,I.HS (t':=s.toks) (r.rep k.toNat) (by rw[len_rep,Nat.mul_comm];exact hz),rfl,q _ I.fresh⟩
end
end L2
namespace L2
open PySem PySem.Spec PyProof.Rows
section
variable {κ:Type}[DecidableEq κ]
def kn(av:List (κ×V))(k:κ):Option V:=(av.find? fun kv=>decide (kv.1=k)).map (·.2)
def putK(av:List (κ×V))(k:κ)(v:V):List (κ×V):=
 if(av.any fun kv=>decide (kv.1=k))=true then av.map (fun kv=>if kv.1=k then(kv.1,v)else kv)else av++[(k,v)]
theorem jD{p:κ×V}{r:List (κ×V)}{k:κ}(e:p.1=k):kn (p::r) k=some p.2:=by simp[kn,dz,e]
theorem jE{p:κ×V}{r:List (κ×V)}{k:κ}(e:¬p.1=k):kn (p::r) k=kn r k:=by simp[kn,dz,e]
theorem vD(k:κ):∀av:List (κ×V),(av.any fun kv=>decide (kv.1=k))=(kn av k).isSome
 |[]=>rfl
 |p::r=>by
  rw[gw];by_cases e:p.1=k
  ·simp only[jD e,bA e,jt,Option.isSome_some]
  ·rw[jE e,aY e,lT];exact vD k r
theorem jF(av:List (κ×V))(k:κ)(v:V):(putK av k v).length<=av.length+1:=by
 unfold putK;split
 ·rw[ai];omega
 ·rw[bj,bp,dO];omega
theorem mT.mW {o:Option V}{u:Option Value}(r:mT o u):o.isSome=u.isSome:=by
 cases o with
 |none=>cases u with
  |none=>rfl
  |some _=>exact(show False from r).elim
 |some _=>cases u with
  |none=>exact(show False from r).elim
  |some _=>rfl
theorem mT.getD {o:Option V}{u:Option Value}{d:V}{d':Value}(r:mT o u)(rd:RelV d d'):RelV (o.getD d) (u.getD d'):=by
 cases o with
 |none=>cases u with
  |none=>exact rd
  |some _=>exact(show False from r).elim
 |some _=>cases u with
  |none=>exact(show False from r).elim
  |some _=>exact r
theorem KV.val {av:List (κ×V)}{vs:List (κ×Value)}(r:KV av vs)(k:κ):mT (kn av k) (valueAt vs k):=by
 unfold KV at r
 induction r with
 |nil=>exact True.intro
 |@cons p q ps qs h t ih=>
  obtain⟨h1,h2⟩:=h;by_cases e:p.1=k
  ·have e':q.1=k:=h1.symm.trans e;have b:valueAt (q::qs) k=some q.2:=by simp[valueAt,dz,e']
   rw[jD e,b];exact h2
  ·have e':¬q.1=k:=fun z=>e (h1.trans z);have b:valueAt (q::qs) k=valueAt qs k:=by simp[valueAt,dz,e']
   rw[jE e,b];exact ih
theorem KV.any {av:List (κ×V)}{vs:List (κ×Value)}(r:KV av vs)(k:κ):(av.any fun kv=>decide (kv.1=k))=vs.any fun kv=>decide (kv.1=k):=by
 unfold KV at r
 induction r with
 |nil=>rfl
 |cons h t ih=>rw[gw,gw,ih,h.1]
theorem KV.HW {av:List (κ×V)}{vs:List (κ×Value)}(r:KV av vs)(k:κ){y:V}{u:Value}(ry:RelV y u):
  KV (av.map fun kv=>if kv.1=k then(kv.1,y)else kv) (vs.map fun kv=>if kv.1=k then(kv.1,u)else kv):=by
 unfold KV at r⊢
 induction r with
 |nil=>exact .nil
 |@cons p q ps qs h t ih=>
  rw[aA,aA];refine .cons ?_ ih
  obtain⟨h1,h2⟩:=h;by_cases e:p.1=k
  ·rw[ab e,ab (h1.symm.trans e)];exact⟨h1,ry⟩
  ·rw[ae e,ae (fun z=>e (h1.trans z))];exact⟨h1,h2⟩
theorem KV.put {av:List (κ×V)}{vs:List (κ×Value)}(r:KV av vs)(k:κ){y:V}{u:Value}(ry:RelV y u):KV (putK av k y) (stored vs k u):=by
 unfold putK stored;rw[r.any k];by_cases e:(vs.any fun kv=>decide (kv.1=k))=true
 ·rw[ab e,ab e];exact r.HW k ry
 ·rw[ae e,ae e];exact Paired.snoc r ⟨rfl,ry⟩
theorem KV.keys {av:List (κ×V)}{vs:List (κ×Value)}(r:KV av vs):av.map (·.1)=vs.map (·.1):=by
 unfold KV at r
 induction r with
 |nil=>rfl
 |cons h t ih=>rw[aA,aA,ih,h.1]
theorem KV.length {av:List (κ×V)}{vs:List (κ×Value)}(r:KV av vs):av.length=vs.length:=Paired.length r
end
theorem vE{P:Program}{w:World}{k:Key}{u:Value}(r:RelV (kV k) u):(ax P w).is k u=true:=by
 cases k with
 |inl i=>obtain⟨t,e⟩:=(show∃t,u=Value.int i t from r);subst e;exact vp P w i t
 |inr x=>obtain⟨t,e⟩:=(show∃t,u=Value.str x t from r);subst e;exact vq P w x t
theorem sD{P:Program}{w:World}:∀{ks:List Key} {us:List Value},Vals (ks.map kV) us->ItemsAre (ax P w) ks us
 |[],_,r=>by rw[List.map_nil]at r;cases r;exact .nil
 |k::ks,_,r=>by
  rw[aA]at r;cases r with
  |cons h t=>exact .cons (vE h) (sD t)
abbrev KT(H:Hp):List (List Key×V)->List (List Key×Addr×Value)->Prop:=Paired fun p q=>p.1=q.1/\H q.2.1=some (.tup (p.1.map kV))/\RelV p.2 q.2.2
theorem KT.val {H:Hp}{av:List (List Key×V)}{xs:List (List Key×Addr×Value)}(r:KT H av xs)(k:List Key):mT (kn av k) ((atKey xs k).map (·.2)):=by
 induction r with
 |nil=>exact True.intro
 |@cons p q ps qs h t ih=>
  obtain⟨h1,_,h2⟩:=h;by_cases e:p.1=k
  ·have e':q.1=k:=h1.symm.trans e;have b:atKey (q::qs) k=some q.2:=by simp[atKey,dz,e']
   rw[jD e,b];exact h2
  ·have e':¬q.1=k:=fun z=>e (h1.trans z);have b:atKey (q::qs) k=atKey qs k:=by simp[atKey,dz,e']
   rw[jE e,b];exact ih
theorem KT.HW {H:Hp}{av:List (List Key×V)}{xs:List (List Key×Addr×Value)}(r:KT H av xs)(k:List Key){y:V}{u:Value}(ry:RelV y u):
  KT H (av.map fun kv=>if kv.1=k then(kv.1,y)else kv) (xs.map (putAt k u)):=by
 induction r with
 |nil=>exact .nil
 |@cons p q ps qs h t ih=>
  rw[aA,aA];refine .cons ?_ ih
  obtain⟨h1,h2,h3⟩:=h;unfold putAt;by_cases e:p.1=k
  ·rw[ab e,ab (h1.symm.trans e)];exact⟨h1,h2,ry⟩
  ·rw[ae e,ae (fun z=>e (h1.trans z))];exact⟨h1,h2,h3⟩
theorem KT.put {H:Hp}{av:List (List Key×V)}{xs:List (List Key×Addr×Value)}(r:KT H av xs)(k:List Key){b:Addr}{y:V}{u:Value}(hb:H b=some (.tup (k.map kV)))(ry:RelV y u):
  KT H (putK av k y) (storedH xs k b u):=by
 have e:(av.any fun kv=>decide (kv.1=k))=(atKey xs k).isSome:=by
  rw[vD,(r.val k).mW,Option.isSome_map]
 unfold putK storedH;rw[e];by_cases q:(atKey xs k).isSome=true
 ·rw[ab q,ab q];exact r.HW k ry
 ·rw[ae q,ae q];exact Paired.snoc r ⟨rfl,hb,ry⟩
theorem KT.keeps {H H':Hp}{av:List (List Key×V)}{xs:List (List Key×Addr×Value)}(r:KT H av xs)(ht:∀b ys,H b=some (.tup ys)->H' b=some (.tup ys)):KT H' av xs:=
 Paired.Hl r fun _ _ z=>⟨z.1,ht _ _ z.2.1,z.2.2⟩
section
variable {P:Program}{w:World}{H:Hp}{h:Heap}{a:Addr}
theorem Cb{u:HO}(ok:kr P w H h)(e:Rd H a u):bu P w H h a u:=e.ok ok
theorem qv{av:List (Key×V)}(ok:kr P w H h)(e:Rd H a (.dK av)):av.length<=sizeLine/\(a==sysModules)=false/\∃vs,KV av vs/\h.DictOf (ax P w) a vs:=
 show bu P w H h a (.dK av)from Cb ok e
theorem LM{av:List (Key×V)}(ok:kr P w H h)(e:H a=some (.dK av)):av.length<=sizeLine/\(a==sysModules)=false/\∃vs,KV av vs/\h.DictOf (ax P w) a vs:=qv ok (.inl e)
theorem jG{ks:List Key}(ok:kr P w H h)(e:H a=some (.tup (ks.map kV))):(tupleKind (ax P w)).is h ks a:=by
 obtain⟨_,aV,r,o,h1,h2,n,h3,_⟩:=(show bu P w H h a (.tup (ks.map kV))from ok a _ e);exact⟨o,aV.toArray,n,h1,h2,h3,by simpa using sD r⟩
theorem qw{av:List (List Key×V)}(ok:kr P w H h)(e:Rd H a (.dT av)):av.length<=sizeLine/\(a==sysModules)=false/\
  ∃xs,KT H av xs/\h.DictOfH (tupleKind (ax P w)) a xs:=by
 obtain⟨z,y,xs,r,o,es,ep,h1,h2,h3,h4,h5⟩:=(show bu P w H h a (.dT av)from Cb ok e);refine⟨z,y,xs,r,o,es,ep,h1,h2,h3,h4,fun x hx=>?_,h5⟩;have all:∀{l:List (List Key×V)} {m:List (List Key×Addr×Value)},KT H l m->∀x∈m,(tupleKind (ax P w)).is h x.1 x.2.1:=by
  intro l m q
  induction q with
  |nil=>intro x hx;exact nomatch hx
  |@cons p q ps qs hq t ih=>
   intro x hx;rcases aP.mp hx with e|hx
   ·subst e;exact jG ok (by rw[<-hq.1];exact hq.2.1)
   ·exact ih x hx
 exact all r x hx
theorem LN{av:List (List Key×V)}(ok:kr P w H h)(e:H a=some (.dT av)):av.length<=sizeLine/\(a==sysModules)=false/\
  ∃xs,KT H av xs/\h.DictOfH (tupleKind (ax P w)) a xs:=qw ok (.inl e)
end
def mX(H:Hp)(a:Addr)(y:V)(r:Option V):Prop:=
 (∃av k,Rd H a (.dK av)/\y=kV k/\r=kn av k)\/∃av k b,Rd H a (.dT av)/\y=.ref b/\H b=some (.tup (k.map kV))/\r=kn av k
def uj(H:Hp)(a:Addr)(y v:V)(H':Hp):Prop:=
 (∃av k,H a=some (.dK av)/\y=kV k/\av.length<sizeLine/\H'=upd H a (.dK (putK av k v)))\/
 ∃av k b,H a=some (.dT av)/\y=.ref b/\H b=some (.tup (k.map kV))/\av.length<sizeLine/\H'=upd H a (.dT (putK av k v))
theorem mX.k {H:Hp}{a:Addr}{av:List (Key×V)}{k:Key}(e:H a=some (.dK av)):mX H a (kV k) (kn av k):=.inl ⟨av,k,.inl e,rfl,rfl⟩
theorem mX.t {H:Hp}{a b:Addr}{av:List (List Key×V)}{k:List Key}(e:H a=some (.dT av))(eb:H b=some (.tup (k.map kV))):mX H a (.ref b) (kn av k):=.inr ⟨av,k,b,.inl e,rfl,eb,rfl⟩
theorem uj.k {H:Hp}{a:Addr}{av:List (Key×V)}{k:Key}{v:V}(e:H a=some (.dK av))(hl:av.length<sizeLine):uj H a (kV k) v (upd H a (.dK (putK av k v))):=.inl ⟨av,k,e,rfl,hl,rfl⟩
theorem uj.t {H:Hp}{a b:Addr}{av:List (List Key×V)}{k:List Key}{v:V}(e:H a=some (.dT av))(eb:H b=some (.tup (k.map kV)))(hl:av.length<sizeLine):
  uj H a (.ref b) v (upd H a (.dT (putK av k v))):=.inr ⟨av,k,b,e,rfl,eb,hl,rfl⟩
section
variable {X:Cx}{pins:List (Addr×Obj)}{σ:St}{H:Hp}{s:Shared}{a:Addr}{y v:V}{u r:Value}{o:Option V}{A:Around}{E:Value->Shared->Prop}
theorem Inv.big (I:Inv X pins σ H s):sysModules<s.heap.objs.size:=by
 have h:mainGlobals<s.heap.objs.size:=(I.mod.glob.keeps I.bk).lt;exact Nat.lt_trans (by decide) h
theorem mY{Q:Value->Shared->Prop}(hu:A.units+1<cLine)(I:Inv X pins σ H s)(g:mX H a y (some v))(ry:RelV y u)(h:∀w' s',Inv X pins σ H s'->RelV v w'->Q w' s'):
  wpAny (model X.prog X.w) A (getItem (.ref a) u) Q E s:=by
 rcases g with⟨av,k,e,ey,l⟩|⟨av,k,b,e,ey,eb,l⟩
 ·subst ey;obtain⟨z,hd,vs,rel,dd⟩:=qv I.bN e;obtain⟨w',hw,kh⟩:=mT.some_of (v:=v) (o:=valueAt vs k) (by rw[l];exact rel.val k);exact wpAny_getItem_of (vE ry) dd.mapOf hw (h w' _ (I.tok _) kh)
 ·subst ey;cases(show u=Value.ref b from ry);obtain⟨z,hd,xs,rel,dd⟩:=qw I.bN e;obtain⟨w',hw,kh⟩:=mT.some_of (v:=v) (o:=(atKey xs k).map (·.2)) (by rw[l];exact rel.val k);obtain⟨p,hp,HX⟩:=Option.map_eq_some_iff.mp hw;refine wpAny_getItem_heap (iQ hu) (jG I.bN eb) dd hp ?_
  rw[HX];exact h w' _ (I.tok _) kh
theorem QV{Q:Value->Shared->Prop}(hu:A.units+1<cLine)(I:Inv X pins σ H s)(g:mX H a y o)(ry:RelV y u)(h:∀s',Inv X pins σ H s'->Q (.bool o.isSome) s'):
  wpAny (model X.prog X.w) A (compareOp .In u (.ref a)) Q E s:=by
 rcases g with⟨av,k,e,ey,l⟩|⟨av,k,b,e,ey,eb,l⟩
 ·subst ey;obtain⟨z,hd,vs,rel,dd⟩:=qv I.bN e;refine wpAny_in_of (vE ry) hd dd.mapOf ?_
  rw[<-(rel.val k).mW,<-l];exact h _ (I.tok _)
 ·subst ey;cases(show u=Value.ref b from ry);obtain⟨z,hd,xs,rel,dd⟩:=qw I.bN e;refine wpAny_in_heap (iQ hu) (jG I.bN eb) hd dd ?_
  have q:=(rel.val k).mW;rw[Option.isSome_map]at q;rw[<-q,<-l];exact h _ (I.tok _)
theorem yR{h':Heap}{t':Nat}{ob:HO}(I:Inv X pins σ H s)(mu:Lf (H a))(hs:Heap.SameBut a s.heap h')(he:∃q,h'.get? a=some q)(new:bu X.prog X.w (upd H a ob) h' a ob):
  Inv X pins σ (upd H a ob) {s with heap:=h',toks:=t'}:=
 I.write (x:=a) (e:=a) mu (.inl rfl) (fun b q hb z=>(hs.2 b hb).trans z) he new
theorem HY{P:Program}{w:World}{H':Hp}{h':Heap}{av:List (Key×V)}{vs:List (Key×Value)}(z:av.length<=sizeLine)(hd:(a==sysModules)=false)(rel:KV av vs)(dd:h'.DictOf (ax P w) a vs):
  bu P w H' h' a (.dK av):=⟨z,hd,vs,rel,dd⟩
theorem sE{H':Hp}{Q:Unit->Shared->Prop}(hu:A.units+1<cLine)(I:Inv X pins σ H s)(g:uj H a y v H')(ry:RelV y u)(rv:RelV v r)(h:∀s',Inv X pins σ H' s'->Q () s'):
  wpAny (model X.prog X.w) A (setItem (.ref a) u r) Q E s:=by
 rcases g with⟨av,k,e,ey,l,eH⟩|⟨av,k,b,e,ey,eb,l,eH⟩
 ·subst ey eH;obtain⟨z,hd,vs,rel,dd⟩:=LM I.bN e;have hz:vs.length<=sizeLine:=by rw[<-rel.length];exact z
  have hl:(putK av k v).length<=sizeLine:=by have:=jF av k v;omega
  refine wpAny_setItem_pairs (hsz:=hz) (vE ry) dd fun h' Gj hs=>h _ ?_
  have he:∃q,h'.get? a=some q:=let⟨q,_,_,hq,_⟩:=Gj;⟨q,hq⟩
  exact yR I (by rw[e];exact True.intro) hs he (HY hl hd (rel.put k rv) Gj)
 ·subst ey eH;cases(show u=Value.ref b from ry);obtain⟨z,hd,xs,rel,dd⟩:=LN I.bN e;have hz:xs.length<=sizeLine:=by rw[<-Paired.length rel];exact z
  have hl:(putK av k v).length<=sizeLine:=by have:=jF av k v;omega
  refine wpAny_setItem_heap (hsz:=hz) (iQ hu) (jG I.bN eb) dd fun h' Gj hs=>h _ ?_
  obtain⟨q,es,ep,hq,h2,h3,h4,_,h5⟩:=Gj;refine yR I (by rw[e];exact True.intro) hs ⟨q,hq⟩ ⟨hl,hd,_,(rel.put k eb rv).keeps fun c ys ec=>?_,q,es,ep,hq,h2,h3,h4,h5⟩;rw[ah (Lc ec e (fun z=>nomatch z))];exact ec
end
section
variable {X:Cx}{pins:List (Addr×Obj)}{σ:St}{H:Hp}{s:Shared}{a:Addr}{av:List (Key×V)}{k:Key}{u:Value}{A:Around}{E:Value->Shared->Prop}
theorem LO{Q:Value->Shared->Prop}(I:Inv X pins σ H s)(e:Rd H a (.dK av))(h:∀t s',Inv X pins σ H s'->Q (.int av.length t) s'):wpAny (model X.prog X.w) A (call (.builtin "len") [.ref a]) Q E s:=by
 obtain⟨z,hd,vs,rel,dd⟩:=qv I.bN e;refine call_len_dict hd dd (by rw[<-rel.length];rw[bS]at z;omega) ?_
 rw[<-rel.length];exact h _ _ (I.tok _)
end
theorem nN{X:Cx}{pins:List (Addr×Obj)}{σ:St}{H:Hp}{s:Shared}{a:Addr}{y:V}{o:Option V}(I:Inv X pins σ H s)(g:mX H a y o):s.TypeIs (.ref a) "dict":=by
 rcases g with⟨av,k,e,_,_⟩|⟨av,k,b,e,_,_,_⟩
 ·obtain⟨_,_,vs,_,dd⟩:=qv I.bN e;exact dd.typeIs
 ·obtain⟨_,_,xs,_,dd⟩:=qw I.bN e;exact dd.typeIs
def LP(td ty tv:TE):TS:=fun D σ H=>tv σ H fun v H1=>td σ H1 fun x H2=>ty σ H2 fun y H3=>∃a H4,x=.ref a/\uj H3 a y v H4/\D.nx σ H4
def LQ(td ty tv:TE)(rd:V->V->Hp->VK->Prop):TS:=fun D σ H=>td σ H fun x H1=>ty σ H1 fun y H2=>∃a v,x=.ref a/\mX H2 a y (some v)/\
 tv σ H2 fun y2 H3=>rd v y2 H3 fun z H4=>∃H5,uj H4 a y z H5/\D.nx σ H5
section
variable {X:Cx}{o i e value:Expr}{pos pos' ug:Pos}{td ty tv:TE}
theorem EB(hu:X.A.units+1<cLine)(ho:PE X o td)(hi:PE X i ty)(hv:PE X value tv)(hs:swapsWith value (some (.Subscript o i pos')) pos.line X.env=pure false):
  PS X (.Assign [.Subscript o i pos'] value pos) (LP td ty tv):=by
 intro pins s σ H D I h;refine wpAny_Assign_Subscript (du (hv pins s σ H _ I h) fun r s1 ⟨v,H1,I1,rv,q1⟩=>du (ho pins s1 σ H1 _ I1 q1) fun u s2 ⟨x,H2,I2,rx,q2⟩=>du (hi pins s2 σ H2 _ I2 q2) fun iv s3 ⟨y,H3,I3,ry,a,H4,ex,g,q3⟩=>?_) hs;subst ex;obtain rfl:u=Value.ref a:=rx;exact sE hu I3 g ry rv fun s4 I4=>⟨σ,H4,I4,q3⟩
theorem EC{op:Operator}{rd:V->V->Hp->VK->Prop}(hu:X.A.units+1<cLine)(ho:PE X o td)(hi:PE X i ty)(hv:PE X value tv)(UE:HH X op rd)
  (ha:∀ov iv new,augStore i ov iv new=(do holding [new,ov,iv] (setItem ov iv new);release [new,ov,iv] [];pure .next)):PS X (.AugAssign (.Subscript o i ug) op value pos) (LQ td ty tv rd):=by
 intro pins s σ H D I h;refine wpAny_AugAssign_SubscriptAny (du (ho pins s σ H _ I h) fun u s1 ⟨x,H1,I1,rx,q1⟩=>du (hi pins s1 σ H1 _ I1 q1) fun iv s2 ⟨y,H2,I2,ry,a,v,ex,g,q2⟩=>?_) ha;subst ex;obtain rfl:u=Value.ref a:=rx;refine mY hu I2 g ry fun w' s3 I3 kh=>du (hv pins s3 σ H2 _ I3 q2) fun w2 s4 ⟨y2,H3,I4,UG,q3⟩=>du (UE pins s4 σ H3 v y2 w' w2 _ I4 kh UG q3) fun w3 s5 ⟨z,H4,I5,rz,H5,g5,q4⟩=>?_
 exact sE hu I5 g5 ry rz fun s6 I6=>⟨σ,H5,I6,q4⟩
end
theorem Cc{P:Program}{w:World}{H:Hp}(h:Heap)(hb:sysModules<h.objs.size):bu P w H (h.push {cls:=.type "dict",data:=.dict #[]}) h.objs.size (.dT []):=
 ⟨bG _,beq_eq_false_iff_ne.mpr (b_ (aS hb)),[],.nil,_,#[],0,aT _ rfl,⟨rfl,rfl,rfl⟩,rfl,rfl,ij⟩
def HZ:TE:=fun _ H Q=>∀p,H p=none->Q (.ref p) (upd H p (.dT []))
section
variable {X:Cx}{pos:Pos}
theorem Cd:PE X (.Dict [] [] pos) HZ:=fun pins s σ H Q I h=>
 wpAny_Dict_empty ⟨.ref s.heap.objs.size,_,I.laid (a:=s.heap.objs.size) (o:=.dT []) (t':=s.toks) (fun _ _ q=>aB _ q) (ar _) (Cc s.heap I.big),rfl,h _ (I.bN.fresh (ar _))⟩
end
structure M1(X:Cx)(o:Expr)(m:Str)(apos:Pos)(e:Expr)(dg:Pos):Prop where
 base:attributeBase o m X.env (eval o X.env)=eval o X.env
 KA:((backTo dg (starEach [e] X.env)).all (fun x=>!x.1)&&(backToKw dg (keywordEach [] X.env)).all (fun x=>x.1.isSome)
  &&decide (([e]:List Expr).length+([]:List Keyword).length+(if([]:List Keyword).isEmpty then 0 else 1)<30))=true
 line:(apos.endLine==dg.line)=true
 trees:backTo dg (starEach [e] X.env)=[(false,eval e X.env)]
def Ta(H:Hp)(a:Addr):Prop:=(∃av,Rd H a (.dK av))\/∃av,Rd H a (.dT av)
theorem H_{X:Cx}{pins:List (Addr×Obj)}{σ:St}{H:Hp}{s:Shared}{a:Addr}(I:Inv X pins σ H s)(d:Ta H a):
  s.TypeIs (.ref a) "dict"/\(∀b,Value.ref a=.ref b->∃ob,s.heap.get? b=some ob/\ob.dict=none)/\(a==sysModules)=false:=by
 rcases d with⟨av,e⟩|⟨av,e⟩
 ·obtain⟨_,hd,vs,_,dd⟩:=qv I.bN e;refine⟨dd.typeIs,fun b q=>?_,hd⟩;cases q;obtain⟨ob,_,_,h1,h2,_⟩:=dd;exact⟨ob,h1,h2.2.1⟩
 ·obtain⟨_,hd,xs,_,dd⟩:=qw I.bN e;refine⟨dd.typeIs,fun b q=>?_,hd⟩;cases q;obtain⟨ob,_,_,h1,h2,_⟩:=dd;exact⟨ob,h1,h2.2.1⟩
section
variable {X:Cx}{pins:List (Addr×Obj)}{σ:St}{H:Hp}{s:Shared}{a:Addr}{y d:V}{u r:Value}{o:Option V}{A:Around}{E:Value->Shared->Prop}
theorem Ia{Q:Value->Shared->Prop}(hu:A.units+1<cLine)(I:Inv X pins σ H s)(g:mX H a y o)(ry:RelV y u)(h:∀w' s',Inv X pins σ H s'->RelV (o.getD .cg) w'->Q w' s'):
  wpAny (model X.prog X.w) A (call (.builtin "dict.get") [.ref a,u]) Q E s:=by
 rcases g with⟨av,k,e,ey,l⟩|⟨av,k,b,e,ey,eb,l⟩
 ·subst ey;obtain⟨z,hd,vs,rel,dd⟩:=qv I.bN e;refine call_meetsIn ph dd.typeIs PySem.F.entry_dict_get (PySem.F.args_dict_get_2 _ _) (meets_dict_get (ax X.prog X.w) a (vE ry) hd) ⟨_,dd.mapOf,h _ _ (I.tok _) ?_⟩;rw[l];exact(rel.val k).getD rfl
 ·subst ey;cases(show u=Value.ref b from ry);obtain⟨z,hd,xs,rel,dd⟩:=qw I.bN e;refine call_meetsIn ph dd.typeIs PySem.F.entry_dict_get (PySem.F.args_dict_get_2 _ _) (meetsH_dict_get (tupleKind (ax X.prog X.w)) a b hd) ⟨iQ hu,k,xs,jG I.bN eb,dd,h _ _ (I.tok _) ?_⟩;rw[l];exact(rel.val k).getD rfl
end
def Ib(td ty:TE):TE:=fun σ H Q=>td σ H fun x H1=>∃a,x=.ref a/\Ta H1 a/\ty σ H1 fun y H2=>∃o,mX H2 a y o/\Q (o.getD .cg) H2
section
variable {X:Cx}{o e f:Expr}{apos dg:Pos}{td ty tx:TE}
theorem Ce(hu:X.A.units+1<cLine)(ho:PE X o td)(he:PE X e ty)(m:M1 X o "get" apos e dg):PE X (.Call (.Attribute o "get" apos) [e] [] dg) (Ib td ty):=by
 intro pins s σ H Q I h;refine wpAny_Call_method m.base m.KA m.line PySem.F.plainAttrs_dict ph PySem.F.type_dict_get (du (ho pins s σ H _ I h) fun u s1 ⟨x,H1,I1,rx,a,ex,d,q1⟩=>?_);subst ex;obtain rfl:u=Value.ref a:=rx;obtain⟨t1,t2,_⟩:=H_ I1 d;refine⟨t1,t2,?_⟩;rw[m.trees];refine pz rfl (pI (jj (du (he pins s1 σ H1 _ I1 q1) fun iv s2 ⟨y,H2,I2,ry,ov,g,q2⟩=>lL ?_)));exact Ia hu I2 g ry fun w' s3 I3 kh=>⟨_,H2,I3,kh,q2⟩
end
end L2
namespace Tb
open PySem PySem.W PySem.Calls PyProof.Rows
theorem n_{P:Params}{h:Heap}:∀(ns:List Int) (vs:List Value),WellAll P h vs (ns.map WData.int)->IntsAre vs ns:=by
 intro ns
 induction ns with
 |nil=>
  intro vs w;rw[List.map_nil]at w;cases w;exact .nil
 |cons n ns ih=>
  intro vs w;rw[aA]at w;cases w with
  |cons a b=>
   cases a;exact .cons _ _ (ih _ b)
theorem An{l:OpenLaw}{n:Nat}(hn:l.most=some n){P:Params}{h:Heap}{args:List WData}{vals:List Value}
  (ED:l.row.toRowW.claim.pre args=true) (QX:WellAll P h vals args):
  ∃a vs ns,vals=[Value.ref a]/\args=[WData.list (ns.map WData.int)]/\h.get? a=some {cls:=.type "list",data:=.seq vs.toArray}/\IntsAre vs ns/\ns.length<=n:=by
 have UH:WShape.hasAll [] args [.list .int]=true:=(pre_splitW ED).1;have hc:l.pre.holds [] {args:=args}=true:=(pre_splitW ED).2;obtain⟨d,r,rfl,h1,h2⟩:=hasAllW_cons UH;obtain rfl:=hasAllW_nil h2;obtain⟨xs,rfl,h3⟩:=hasW_list h1;obtain⟨ns,rfl⟩:=items_int h3;have hlen:ns.length<=n:=by
  unfold OpenLaw.pre at hc;have h4:(WTm.not (.lt (.lit (.int (n:Int))) (.len (.arg 0)))).holds [] {args:=[.list (ns.map .int)]}=true:=by
   have h4:=(holds_andW hc).1;rw[hn]at h4;exact h4
  have h5:=condW_of h4 (w_not (w_lt w_lit (w_len_list (w_arg rfl))));rw[ai]at h5;refine pP fun q=>?_
  have q':(n:Int)<((ns.length:Nat):Int):=by omega
  first
   |(rw[bA q']at h5;exact absurd h5 (by decide))
   |(simp at h5;omega)
 cases QX with
 |cons w1 w2=>
  cases w2;cases w1 with
  |list ho r8=>exact⟨_,_,ns,rfl,rfl,ho,n_ ns _ r8,hlen⟩
theorem Ap(l:OpenLaw)(args:List WData):l.row.toRowW.claim.post args (.bool true) args=true:=
 postW_of (r:=l.row.toRowW) (X:=(true==true))
  (show WShape.has [] (.bool true) .bool=true by first|rfl|decide|simp[WShape.has,WShape.arms,WShape.armsAll])
  (show(WTm.eq .res (.lit (.bool true))).value [] {args:=args,res:=some (.bool true),after:=args}=some (.bool (true==true))from w_eq_bool (w_res rfl) w_lit) rfl
theorem vF{l:OpenLaw}{n:Nat}{q:Program}{loose:List Str}{XP:(Str->Option Value)->Heap->Prop}{YP:World->Heap->Prop}{d:DefRec}
  (hn:l.most=some n) (LR:d.params.defaults=[])
  (call:∀(w:World) (eP bU:Shared) (mg mb:Str->Option Value) (fa:Addr) (o:Obj) (pm cd doc:Value) (a:Addr) (vs:List Value) (ns:List Int),
   Ground q loose [] XP w eP mg mb bU.heap->YP w bU.heap->
   bU.heap.get? fa=some o->o.data=.func (docDef d.name d.params d.body d.scope pm cd doc)->bU.heap.CodeRec cd d.name->mg d.name=some (.ref fa)->
   bU.heap.get? a=some {cls:=.type "list",data:=.seq vs.toArray}->IntsAre vs ns->ns.length<=n->bU.gens=#[]->
   codeAny (model l.prog w) callerA (.call (.ref fa) ⟨[.ref a],[]⟩) (fun r s'=>r=.ok (.ret (.bool true))/\OldK bU.heap s'.heap/\s'.os=bU.os/\AllBare s'.gens) bU):
  WalkO q loose XP YP l.row.toRowW d [] (fun f vs=>PySem.call f vs):=by
 intro w eP bU mg mb G Y fa o pm cd doc dV kV ho hd n6 hD LS hg args vals as ED UI Xf QX Xg;obtain rfl:dV=.none:=Dflts.none hD LR;obtain rfl:kV=.none:=Dflts.noKw hD;obtain⟨a,vs,ns,rfl,rfl,Ic,hints,hlen⟩:=An hn ED QX;refine enter_call (fM (call w eP bU mg mb fa o pm cd doc a vs ns G Y ho (fd_plain hd) n6 LS Ic hints hlen hg) fun r s' hq=>?_);obtain⟨rfl,h2,h3,h4⟩:=hq;exact⟨.inl ⟨.bool true,.bool true,[],rfl,fun _=>rfl,.bool true,Ap l _,fun _=>⟨List.Pairwise.nil,fun _ hm=>(nomatch hm)⟩⟩,h2,h3,h4⟩
end Tb
namespace L2
open PySem PySem.Spec PyProof.Rows
theorem sF:∀{vs:List Value} {ns:List Int},IntsAre vs ns->Vals (ns.map V.int) vs
 |_,_,.nil=>.nil
 |_,_,.cons n t h=>.cons ⟨t,rfl⟩ (sF h)
theorem Cf{P:Program}{w:World}{K:PySem.W.Frag}{mg mb:Str->Option Value}{CX:xA}{k:Nat}{fa a:Addr}{fd:FuncData}{x:Str}{sp:Sp}{bU:Shared}{vs:List Value}{ns:List Int}{tc tP:Addr}{tq:Str}
  (KX:K.In bU.heap) (Aq:bU.heap.Ns mainGlobals mg) (hb:bU.heap.Ns builtinsNs mb) (QY:∀x:Str,x≠"__name__"->mb x=bootBuiltins x) (Ie:bU.heap.NoLimit) (hg:bU.gens=#[])
  (LU:∃bm ob,mg "__builtins__"=some (.ref bm)/\bm≠builtinsNs/\bm≠mainGlobals/\bU.heap.get? bm=some ob/\ob.cls=.type "module"/\ob.dict=some builtinsNs/\ob.data=.plain) (hC:PySem.W.CodeHd bU.heap tc tP) (hP:bU.heap.get? tP=some (PySem.W.tabObj #[])) (Ig:K.lookup tP=none)
  (ha:bU.heap.get? a=some {cls:=.type "list",data:=.seq vs.toArray}) (hi:IntsAre vs ns) (hl:ns.length<=sizeLine) (hr:de k callerA)
  (F:∀base:Heap,K.In base->base.Ns mainGlobals mg->fQ P w K mg base CX k fa fd [x] sp) (vG:∀(s:Shared) (u:Value),BindsTo s fd ⟨[u],[]⟩ [(x,u)])
  (Ge:∀H:Hp,H tP=some (.vb #[.str tq 0])->iw K H a (ns.map V.int)->sp [.ref a] H (fun v _=>v=.bl true) fun _ _ _=>False)
  (QZ:∀H e s',CX [] H bU (fun _ _ _=>False) e s'->False):
  codeAny (model P w) callerA (.call (.ref fa) ⟨[.ref a],[]⟩) (fun r s'=>r=.ok (.ret (.bool true))/\OldK bU.heap s'.heap/\s'.os=bU.os/\AllBare s'.gens) bU:=by
 have rv:=sF hi;have Q0:=hi.length;have Q1:a≠tP:=fun z=>by rw[z,hP]at ha;cases ha
 have LV:∀H:Hp,bu P w H bU.heap tP (.vb #[.str tq 0]):=fun H=>⟨#[],hP,trivial,fun pos v e=>by cases e⟩;have core:∀H:Hp,H tP=some (.vb #[.str tq 0])->iw K H a (ns.map V.int)->kr P w H bU.heap->(∀b,H b≠none->b=a\/b=tP)->(H a≠none->K.lookup a=none)->(∀u,H a=some u->∃o xs,u=.fP o (.lst xs))->
   codeAny (model P w) callerA (.call (.ref fa) ⟨[.ref a],[]⟩) (fun r s'=>r=.ok (.ret (.bool true))/\OldK bU.heap s'.heap/\s'.os=bU.os/\AllBare s'.gens) bU:=by
  intro H hT hS bN hA hK hF;have uk:∀{b:Addr} {o:Obj},bU.heap.get? b=some o->H b=none->(ua bU.heap H).get? b=some o:=fun e n=>BF e n;have Kw:∀{b:Addr} {o:Obj},bU.heap.get? b=some o->(∀xs n,o.data≠ .seq xs n)->(∀xs,o.data≠ .fields xs)->H b=none:=fun{b o} e d1 d2=>by
   cases q:H b with
   |none=>rfl
   |some u=>
    rcases hA b (by rw[q];simp)with e'|e'
    ·subst e';rw[ha]at e;cases e;exact absurd rfl (d1 _ _)
    ·subst e';rw[hP]at e;cases e;exact absurd rfl (d2 _)
  have OW:∀{b:Addr} {m:Str->Option Value},bU.heap.Ns b m->(ua bU.heap H).Ns b m:=fun{b m} ⟨o,es,ep,e,d,r⟩=>⟨o,es,ep,uk e (Kw e (fun _ _ z=>by rw[d]at z;cases z) fun _ z=>by rw[d]at z;cases z),d,r⟩;have Tc:K.In (ua bU.heap H):=fun b o e=>uk (KX b o e) (by
   cases q:H b with
   |none=>rfl
   |some u=>
    rcases hA b (by rw[q];simp)with e'|e'
    ·subst e';rw[hK (by rw[q];simp)]at e;cases e
    ·subst e';rw[Ig]at e;cases e)
  have hM:Mod K mg (ua bU.heap H):=⟨Tc,OW Aq,⟨mb,OW hb,QY⟩,(let⟨mc,h1,h2⟩:=Ie;⟨mc,OW h1,h2⟩),(let⟨bm,ob,b1,b2,b3,b4,b5,b6,b7⟩:=LU;⟨bm,ob,b1,b2,b3,uk b4 (Kw b4 (fun _ _ z=>by rw[b7]at z;cases z) fun _ z=>by rw[b7]at z;cases z),b5,b6,b7⟩)⟩;have e0:Et P w K mg (ua bU.heap H) callerA [] bU H:=⟨rfl,hM,fun b o e=>Ef e,Nat.le_of_eq (Af _ _),trivial,fun b hb=>absurd (show b∈([]:List Addr)from hb) (by simp),bN,.of_eq hg⟩;refine fM ((F _ Tc (OW Aq)).run callerA [] bU H ⟨[.ref a],[]⟩ [.ref a] [.ref a] _ _ hr e0 (vG bU (.ref a)) (.cons rfl .nil) (Ge H hT hS)) fun r s' h=>?_
  cases r with
  |error e=>exact(QZ H e s' h).elim
  |ok fl=>
   cases fl with
   |next=>exact False.elim h
   |brk=>exact False.elim h
   |cont=>exact False.elim h
   |ret u=>
    obtain⟨v,H',os,bare,un,LW,r',q⟩:=h;have q':v=.bl true:=q;subst q';obtain rfl:u=Value.bool true:=r';have keep:∀b o,b≠tP->bU.heap.get? b=some o->s'.heap.get? b=some o:=fun b o nb e=>by
     cases q:H b with
     |none=>exact un.keep b o e q (by intro z;exact absurd (show b∈([]:List Addr)from z) (by simp)) (by simp)
     |some u=>
      rcases hA b (by rw[q];simp)with e'|e'
      ·subst e';obtain⟨ob,xs,z⟩:=hF u q;subst z;have z2:=un.i_ b ob _ q;obtain⟨e1,_⟩:=bN b _ q;obtain⟨e2,_⟩:=LW b _ z2;rw[e]at e1;cases e1;exact e2
      ·exact absurd e' nb
    obtain⟨more,UJ⟩:=un.jA tP _ hT;obtain⟨qs,hq,_⟩:=LW tP _ UJ;refine⟨rfl,⟨fun b o e=>?_,fun b o e=>?_⟩,os,bare⟩
    ·by_cases nb:b=tP
     ·subst nb;rw[hP]at e;cases e;exact .inr (.inl ⟨(hC.tab hP).isCodeTable,rfl,#[],qs,rfl,by rw[Array.empty_append];exact hq⟩)
     ·exact .inl (keep b o nb e)
    ·by_cases nb:b=tP
     ·subst nb;exact⟨_,hq⟩
     ·exact⟨o,keep b o nb e⟩
 cases hk:K.lookup a with
 |some o=>
  have e:=KX a o hk;rw[ha]at e;cases e;refine core (fun b=>if b=tP then some (.vb #[.str tq 0])else none) (ab rfl) (.inr ⟨_,vs.toArray,_,hk,rfl,rfl,rfl,by rw[bc,Q0];exact hl,by simpa using rv⟩) (fun b u z=>?_) (fun b z=>?_) (fun z=>absurd (ae Q1) z) fun u z=>by rw[ae Q1]at z;cases z
  ·by_cases hb:b=tP
   ·have z':=(ab hb).symm.trans z;cases z';rw[hb];exact LV _
   ·have z':=(ae hb).symm.trans z;cases z'
  ·by_cases hb:b=tP
   ·exact .inr hb
   ·exact absurd (ae hb) z
 |none=>
  refine core (fun b=>if b=a then some (.fP {cls:=.type "list",data:=.seq vs.toArray} (.lst (ns.map V.int)))else if b=tP then some (.vb #[.str tq 0])else none) ((ae (b_ Q1)).trans (ab rfl)) (.inl (.inr ⟨{cls:=.type "list",data:=.seq vs.toArray},ab rfl⟩)) (fun b u z=>?_) (fun b z=>?_) (fun _=>hk) fun u z=>?_
  ·by_cases hb:b=a
   ·have z':=(ab hb).symm.trans z;cases z';subst hb;exact⟨ha,by rw[ai];exact hl,vs,_,rv,ha⟩
   ·have z':=(ae hb).symm.trans z;by_cases EE:b=tP
    ·have z2:=(ab EE).symm.trans z';cases z2;rw[EE];exact LV _
    ·have z2:=(ae EE).symm.trans z';cases z2
  ·by_cases hb:b=a
   ·exact .inl hb
   ·by_cases EE:b=tP
    ·exact .inr EE
    ·exact absurd ((ae hb).trans (ae EE)) z
  ·have z':=(ab rfl).symm.trans z;cases z';exact⟨_,_,rfl⟩
end L2
namespace L2
open PySem PySem.Spec PyProof.Rows
theorem EF{l:PySem.W.OpenLaw}{n k:Nat}{q:Program}{loose:List Str}{XP:(Str->Option Value)->Heap->Prop}{YP:World->Heap->Prop}{d:DefRec}{K:Params->PySem.W.Frag}{CX:World->xA}{sp:World->Sp}{x:Str}{tc tP:Addr}{tq:Str}
  (hn:l.most=some n) (OX:n<=sizeLine) (LR:d.params.defaults=[]) (hr:de k callerA)
  (hY:∀(w:World) (h:Heap),YP w h->(K w.params).In h) (hC:∀(w:World) (h:Heap),YP w h->PySem.W.CodeHd h tc tP) (hP:∀(w:World) (h:Heap),YP w h->h.get? tP=some (PySem.W.tabObj #[])) (Ig:∀w:World,(K w.params).lookup tP=none)
  (F:∀(w:World) (mg:Str->Option Value) (fa:Addr) (h:Heap),(K w.params).In h->h.Ns mainGlobals mg->mg d.name=some (.ref fa)->
   ∃fd:FuncData,(∀(s:Shared) (u:Value),BindsTo s fd ⟨[u],[]⟩ [(x,u)])/\
    ∀base:Heap,(K w.params).In base->base.Ns mainGlobals mg->fQ l.prog w (K w.params) mg base (CX w) k fa fd [x] (sp w))
  (Ge:∀(w:World) (H:Hp) (a:Addr) (ns:List Int),ns.length<=n->H tP=some (.vb #[.str tq 0])->iw (K w.params) H a (ns.map V.int)->sp w [.ref a] H (fun v _=>v=.bl true) fun _ _ _=>False)
  (QZ:∀(w:World) (H:Hp) (s:Shared) (e:Value) (s':Shared),CX w [] H s (fun _ _ _=>False) e s'->False):
  PySem.W.WalkO q loose XP YP l.row.toRowW d [] (fun f vs=>PySem.call f vs):=by
 refine Tb.vF hn LR fun w eP bU mg mb fa o pm cd doc a vs ns G Y ho hd n6 LS Ic hints hlen hg=>?_
 have KX:=hY w _ Y;obtain⟨fd,hb,hF⟩:=F w mg fa _ KX G.T.g LS;have LU:∃bm ob,mg "__builtins__"=some (.ref bm)/\bm≠builtinsNs/\bm≠mainGlobals/\bU.heap.get? bm=some ob/\ob.cls=.type "module"/\ob.dict=some builtinsNs/\ob.data=.plain:=by
  obtain⟨bm,ob,b1,b2,b3,b4,b5,b6⟩:=G.T.bmain;refine⟨bm,ob,b1,b2,fun z=>?_,b3,b4,b5,b6⟩;obtain⟨o,es,ep,e,hd,_⟩:=G.T.g;rw[z,e]at b3;cases b3;rw[hd]at b6;cases b6
 exact Cf KX G.T.g G.T.b G.T.builtins G.T.nolimit hg LU (hC w _ Y) (hP w _ Y) (Ig w) Ic hints (bt hlen OX) hr hF hb (fun H hO hS=>Ge w H a ns hlen hO hS) fun H e s'=>QZ w H bU e s'
end L2
namespace L2
open PySem PySem.Spec PyProof.Rows
def oE(s:Stmt):Arguments:=match s with
 |.FunctionDef _ a _ _ _ _ _ _ _ _=>a
 |_=>{posonlyargs:=[],args:=[],vararg:=none,kwonlyargs:=[],kw_defaults:=[],kwarg:=none,defaults:=[]}
def cP(s:Stmt):List Stmt:=match s with
 |.FunctionDef _ _ b _ _ _ _ _ _ _=>b
 |_=>[]
def aD(s:Stmt):Scope:=match s with
 |.FunctionDef _ _ _ _ _ _ sc _ _ _=>sc
 |_=>{kind:=.function,names:=[],isGenerator:=false,isCoroutine:=false}
abbrev kX:xA:=fun _ _ _ _ _ _=>False
abbrev E0:XK:=fun _ _ _=>False
theorem LX{X:Cx}:Passes kX X E0:=fun _ _ _ _ _ _ _ h=>h.elim
structure r9(K:PySem.W.Frag)(x qual:Str)(st:Stmt)(f:Addr)(fd:FuncData):Prop where
 ex:∃(oc:Value) (od:Option Addr) (kV doc pm:Value) (an:Option Addr) (cO ct:Value) (yO:Array (Option Value)),
  fd=PySem.W.fnOf x qual (oE st) (cP st) (aD st) .none kV doc pm an cO ct/\K.lookup f=some ⟨oc,od,.func fd,yO⟩/\PySem.W.codeIn K cO qual=true
 kp:PySem.W.keepIn K (.ref f)=true
section
variable {P:Program}{w:World}{K:PySem.W.Frag}{mg:Str->Option Value}{base:Heap}
theorem r9.ok {x qual:Str}{st:Stmt}{f:Addr}{fd:FuncData}{N ps:List Str}{k:Nat}{sp:Sp}(F:r9 K x qual st f fd)(S:dD N ps (aD st))(len:∀vs H Q E,sp vs H Q E->vs.length=ps.length)
  (gG:∀(cO:Value) (A:Around) (outer:List Env) (s:Shared) (H:Hp) (vs:List V) (Q:VK) (E:XK),de k (A.deeper (envOfC qual (aD st) s.heap.objs.size f cO))->sp vs H Q E->
   ∃t,jB (jb kX P w K mg base N qual (aD st) f cO A outer s H E).Bz (cP st) t/\t {nx:=fun _ H'=>Q .cg H',rt:=Q} (start N vs) H):fQ P w K mg base kX (k+1) f fd ps sp:=by
 obtain⟨oc,od,kV,doc,pm,an,cO,ct,yO,rfl,lk,n6⟩:=F.ex;refine BZ lk n6 S len fun A outer s H vs Q E hr Ge=>?_
 obtain⟨t,h,q⟩:=gG cO A outer s H vs Q E hr Ge;exact⟨t,h.Bz,q⟩
theorem r9.binds {x qual:Str}{st:Stmt}{f:Addr}{fd:FuncData}{ps:List Str}(F:r9 K x qual st f fd)
  (h:∀(kV doc pm:Value) (an:Option Addr) (cO ct:Value) (us:List Value),us.length=ps.length->bindArgs (PySem.W.fnOf x qual (oE st) (cP st) (aD st) .none kV doc pm an cO ct) ⟨us,[]⟩=pure (ps.zip us)):Binds K fd ps []:=by
 obtain⟨oc,od,kV,doc,pm,an,cO,ct,yO,rfl,lk,n6⟩:=F.ex;exact .all (h kV doc pm an cO ct)
end
theorem f9{A:Around}{k:Nat}(hr:de k A):A.units+1<cLine:=Nat.lt_of_le_of_lt (Nat.add_le_add_left (by decide:1<=64) _) hr.units
theorem Ih{A B:Prop}(h:B):if false=true then A else B:=by
 rw[ae cz];exact h
theorem Ii{A B:Prop}(h:A):if true=true then A else B:=by
 rw[ab rfl];exact h
def au(H H':Hp):Prop:=∀b o,H b=some o->H' b=some o
theorem au.refl (H:Hp):au H H:=fun _ _ h=>h
theorem au.trans {H H1 H2:Hp}(a:au H H1)(b:au H1 H2):au H H2:=fun c o h=>b c o (a c o h)
theorem au.free {H H':Hp}(e:au H H'){l:Addr}(h:H' l=Option.none):H l=Option.none:=by
 cases q:H l with
 |none=>rfl
 |some o=>
  rw[e l o q]at h;cases h
theorem au.seq {K:PySem.W.Frag}{H H':Hp}{a:Addr}{xs:List V}(e:au H H')(h:iw K H a xs):iw K H' a xs:=by
 rcases h with(h|⟨o,h⟩)|h
 ·exact .inl (.inl (e _ _ h))
 ·exact .inl (.inr ⟨o,e _ _ h⟩)
 ·exact .inr h
end L2
namespace L2
open PySem PySem.Spec PyProof.Rows
theorem qz{α β:Type}{f:α->β->Sem (ForInStep β)}{g:β->α->β}:∀(l:List α) (c:β),(∀x∈l,∀c,f x c=pure (.yield (g c x)))->forIn l c f=(pure (l.foldl g c):Sem β)
 |[],c,_=>rfl
 |x::l,c,h=>by
  rw[pU,h x aM,pure_bind];exact qz l _ fun y hy=>h y (aW _ hy)
def g9(env:Env)(cs:List (Str×Addr))(x:Str×NameKind):List (Str×Addr):=if x.2== .free then(x.1,(env.cells.lookup x.1).getD 0)::cs else cs
def um(scope:Scope)(env:Env):List (Str×Addr):=scope.names.foldl (g9 env) []
theorem iU{scope:Scope}{env:Env}(h:∀x∈scope.names,x.2=.free->∃c,env.cells.lookup x.1=some c):closureFor scope env=pure (um scope env):=by
 simp only[closureFor];rw[qz (g:=g9 env) scope.names [] (fun x hx c=>by
  obtain⟨n,k⟩:=x;by_cases hk:k=.free
  ·subst hk;obtain⟨a,ha⟩:=h _ hx rfl;have d0:env.cells.lookup n=some a:=ha;simp[cellOf,d0,g9]
  ·have e:(k==NameKind.free)=false:=by simpa using hk
   simp[e,g9])]
 rfl
theorem kH{env:Env}:∀(names:List (Str×NameKind)) (acc:List (Str×Addr)),(∀x∈names,x.2=.free->∃c,env.cells.lookup x.1=some c)->(∀x c,acc.lookup x=some c->env.cells.lookup x=some c)->
  ∀x c,(names.foldl (g9 env) acc).lookup x=some c->env.cells.lookup x=some c
 |[],_,_,ha,x,c,e=>ha x c e
 |(n,k)::r,acc,hf,ha,x,c,e=>by
  refine kH r (g9 env acc (n,k)) (fun y hy=>hf y (aW _ hy)) (fun y d ed=>?_) x c e;unfold g9 at ed;by_cases hk:k=.free
  ·subst hk;obtain⟨a,hn⟩:=hf (n,.free) aM rfl;have Kr:env.cells.lookup n=some a:=hn;simp only[bz,fO,Kr,Option.getD_some,cL]at ed;split at ed
   ·rename_i hy;have:y=n:=by simpa using hy
    subst this;rw[Kr];exact ed
   ·exact ha y d ed
  ·have e:(k==NameKind.free)=false:=by simpa using hk
   simp only[e,bV,bC]at ed;exact ha y d ed
theorem kI{env:Env}:∀(names:List (Str×NameKind)) (acc:List (Str×Addr)) (x:Str),((acc.lookup x).isSome=true\/(x,NameKind.free)∈names)->((names.foldl (g9 env) acc).lookup x).isSome=true
 |[],_,_,h=>h.elim (fun z=>z) fun z=>absurd z (by simp)
 |(n,k)::r,acc,x,h=>by
  refine kI r (g9 env acc (n,k)) x ?_
  unfold g9;rcases h with h|h
  ·left;split
   ·rw[cL];split<;>simp_all
   ·exact h
  ·rcases aP.mp h with h|h
   ·left;cases h;simp[cL]
   ·exact .inr h
theorem kJ{env:Env}:∀{names:List (Str×NameKind)} {x:Str} {k:NameKind},(names.map fun(n,k)=>if(k==NameKind.free&&env.scope.kind== .function&&env.kindOf n==some .cell)then(n,NameKind.cell)else(n,k)).lookup x=some k->
  names.lookup x=some k\/names.lookup x=some .free
 |[],_,_,h=>by simp at h
 |(n,j)::r,x,k,h=>by
  simp only[aA]at h;by_cases hx:x=n
  ·subst hx;by_cases hc:(j==NameKind.free&&env.scope.kind== .function&&env.kindOf x==some .cell)=true
   ·rw[ab hc]at h;simp only[aK,iu]at hc;right;rw[cL,bz,hc.1.1]
   ·rw[ae hc]at h;left;rw[cL,bz]at h⊢;exact h
  ·have e:(x==n)=false:=by simpa using hx
   have h':(r.map fun(n,k)=>if(k==NameKind.free&&env.scope.kind== .function&&env.kindOf n==some .cell)then(n,NameKind.cell)else(n,k)).lookup x=some k:=by
    split at h<;>(rw[cL,e]at h;exact h)
   rcases kJ h' with z|z
   ·left;rw[cL,e];exact z
   ·right;rw[cL,e];exact z
theorem l9{env:Env}:∀{names:List (Str×NameKind)} {x:Str},names.lookup x=some .free->
  (names.map fun(n,k)=>if(k==NameKind.free&&env.scope.kind== .function&&env.kindOf n==some .cell)then(n,NameKind.cell)else(n,k)).lookup x=some .cell\/
  (names.map fun(n,k)=>if(k==NameKind.free&&env.scope.kind== .function&&env.kindOf n==some .cell)then(n,NameKind.cell)else(n,k)).lookup x=some .free
 |[],_,h=>by simp at h
 |(n,j)::r,x,h=>by
  simp only[aA];by_cases hx:x=n
  ·subst hx;rw[cL,bz]at h;have hj:j=.free:=Option.some.inj h;by_cases hc:(j==NameKind.free&&env.scope.kind== .function&&env.kindOf x==some .cell)=true
   ·left;rw[ab hc,cL,bz]
   ·right;rw[ae hc,cL,bz,hj]
  ·have e:(x==n)=false:=by simpa using hx
   rw[cL,e]at h;rcases l9 (env:=env) h with z|z
   ·left;split<;>(rw[cL,e];exact z)
   ·right;split<;>(rw[cL,e];exact z)
def kY(X:Cx)(scope:Scope)(N:List Str)(s:Shared)(H:Hp)(ex:List Addr):Cx where
 prog:=X.prog
 w:=X.w
 K:=X.K
 mg:=X.mg
 base:=X.base
 A:=X.A
 N:=N
 eP:=s
 vt:=H
 env:=compEnvC scope (um scope X.env) s.heap.objs.size X.env
 outer:=X.stack
 stack:=X.stack
 ex:=ex
 fn:=fun _=>false
 calm:=X.calm
 pn:=[]
 xe:=fun _ _=>False
def LY(N N':List Str)(ix:List (Option Nat))(sc scope:Scope):Bool:=
 decide (N'.length=ix.length)&&(N'.zip ix).all (fun p=>match p.2 with
  |none=>true
  |some j=>decide (N[j]?=some p.1)&&decide (scope.names.lookup p.1=some .free))&&
 scope.names.all (fun y=>y.2 != .cell&&(y.2 != .free||decide (sc.names.lookup y.1=some .cell))&&(y.2 != .local||decide (scope.names.lookup y.1=some .local)))&&(scope.kind== .function)
structure fR(X:Cx)(N':List Str)(ix:List (Option Nat))(scope:Scope):Prop where
 len:N'.length=ix.length
 free:∀(i:Nat) (x:Str) (j:Nat),N'[i]?=some x->ix[i]?=some (some j)->X.N[j]?=some x/\scope.names.lookup x=some .free
 uo:∀y∈scope.names,y.2≠ .cell
 cell:∀y∈scope.names,y.2=.free->X.env.scope.names.lookup y.1=some .cell
 loc:∀y∈scope.names,y.2=.local->scope.names.lookup y.1=some .local
 kind:scope.kind=.function
theorem fR.of {X:Cx}{N N':List Str}{ix:List (Option Nat)}{sc scope:Scope}(hN:X.N=N)(hs:X.env.scope=sc)(h:LY N N' ix sc scope=true):fR X N' ix scope:=by
 unfold LY at h;simp only[aK,cK,bF]at h;obtain⟨⟨⟨h1,h2⟩,h3⟩,h4⟩:=h;refine⟨h1,fun i x j e1 e2=>?_,fun y hy z=>?_,fun y hy z=>?_,fun y hy z=>?_,by simpa using h4⟩
 ·have m:(x,some j)∈N'.zip ix:=bJ (i:=i) (by rw[List.getElem?_zip_eq_some];exact⟨e1,e2⟩);have q:=h2 _ m;simp only[aK,cK]at q;rw[hN];exact q
 ·have q:=(h3 y hy).1.1;rw[z]at q;simp at q
 ·have q:=(h3 y hy).1.2;rw[z]at q;simp only[hZ,lT,cK]at q;rw[hs];exact q
 ·have q:=(h3 y hy).2;rw[z]at q;simp only[hZ,lT,cK]at q;exact q
def eQ(ix:List (Option Nat))(σ:St):St:=ix.map fun o=>o.bind fun j=>(σ[j]?).join
theorem xD{X:Cx}{N':List Str}{ix:List (Option Nat)}{scope:Scope}{pins:List (Addr×Obj)}{σ:St}{H:Hp}{s:Shared}{di:Heap}{fp:List Addr}{tk:Nat}(L:fR X N' ix scope)(I:Inv X pins σ H s)
  (Aq:di.Ns s.heap.objs.size (fun _=>none)) (Cg:∀b o,s.heap.get? b=some o->di.get? b=some o)
  (hf:∀b∈fp,ja X pins H b) (L0:∀b∈fp,b<s.heap.objs.size):Inv (kY X scope N' s H fp) [] (eQ ix σ) H {s with heap:=di,toks:=tk}:=by
 have jH:∀y∈scope.names,y.2=.free->∃c,X.env.cells.lookup y.1=some c:=fun y hy z=>I.ok.has y.1 (.inl (L.cell y hy z));have sub:∀x c,(um scope X.env).lookup x=some c->X.env.cells.lookup x=some c:=kH scope.names [] jH (fun x c e=>by simp at e);have has:∀x,scope.names.lookup x=some .free->∃c,(um scope X.env).lookup x=some c:=fun x e=>
  o5.mp (kI scope.names [] x (.inr (f' e)))
 have Kp:∀b∈fp,b∉l4 X.stack:=fun b hb z=>by
  obtain⟨_,f1,f2,_⟩:=hf b hb;rcases aP.mp (I.xo b z)with q|q
  ·exact f1 q
  ·exact f2 q
 refine⟨⟨I.ok.mod,L.kind,I.ok.glob,I.ok.blt,ar _,fun x y c e1 e2=>I.ok.inj x y c (sub x c e1) (sub y c e2),fun x hx=>?_,fun x c z=>absurd (show false=true from z) cz,I.ok.hd,I.ok.frames,.inl rfl,
   fun b hb=>⟨aS (L0 b hb),fun x c e=>(hf b hb).2.2.2.2.1 x c (sub x c e)⟩,I.bs,bt I.ok.F8 I.sz,fun b o e hb=>?_,Kp,I.stack,I.uc⟩,
  rfl,I.bare,Un.kept Cg,⟨_,Aq,fun i x v e1 e2 e3=>?_⟩,fun x c e=>?_,I.fresh,fun x c e=>I.f7 x c (sub x c e),fun p hp=>absurd (show p∈([]:List (Addr×Obj))from hp) (by simp),I.bN.kept Cg,?_⟩
 ·have hx:(relabel scope X.env).names.lookup x=some .cell\/(relabel scope X.env).names.lookup x=some .free:=hx;have yJ:scope.names.lookup x=some .free:=by
   rcases hx with z|z
   ·rcases kJ z with q|q
    ·exact absurd rfl (L.uo _ (f' q))
    ·exact q
   ·rcases kJ z with q|q
    ·exact q
    ·exact q
  exact has x yJ
 ·obtain⟨_,_,_,q,_⟩:=hf b hb;rcases q with q|q
  ·exact I.ok.Ag b o e q
  ·exact absurd (bx (aw (I.ok.bs b o e).1) q) (cA _)
 ·
  unfold eQ at e2;rw[aU]at e2;cases eo:ix[i]? with
  |none=>rw[eo]at e2;cases e2
  |some o=>
   rw[eo]at e2;cases o with
   |none=>exact absurd (show(some none:Option (Option V))=some (some v)from e2) (by simp)
   |some j=>
    obtain⟨n1,n2⟩:=L.free i x j e1 eo;have OY:(σ[j]?).join=some v:=Option.some.inj (show some ((σ[j]?).join)=some (some v)from e2);have e4:σ[j]?=some (some v):=by
     cases q:σ[j]? with
     |none=>rw[q]at OY;cases OY
     |some z=>
      rw[q]at OY;have:z=some v:=OY;rw[this]
    have xE:X.env.scope.names.lookup x=some .cell:=L.cell _ (f' n2) rfl;obtain⟨m,hn,hl⟩:=I.loc;obtain⟨u,r,l⟩:=hl j x v n1 e4 (.inr (.inl xE));refine⟨u,r,?_⟩;rcases l with⟨k,_⟩|⟨k,c,ec,z⟩
    ·have k':X.env.scope.names.lookup x=some .local:=k;rw[xE]at k';cases k'
    ·obtain⟨c',Ll⟩:=has x n2;have UK:c'=c:=by
      have q:=sub x c' Ll;rw[ec]at q;exact(Option.some.inj q).symm
     subst UK;refine .inr ⟨?_,c',Ll,?_⟩
     ·exact l9 n2
     ·obtain⟨o',Ah,BI⟩:=z;exact⟨o',Cg _ _ Ah,BI⟩
 ·obtain⟨v,o,ho,hd⟩:=I.cell x c (sub x c e);exact⟨v,o,Cg _ _ ho,hd⟩
 ·show(eQ ix σ).length=N'.length;unfold eQ;rw[ai];exact L.len.symm
end L2
namespace L2
open PySem PySem.Spec PyProof.Rows
abbrev yS(ifs:List Expr)(env:Env):Sem Bool:=forIn ifs true fun c r=>if r=true then do let ok<-isTrue c env (eval c env);pure (ForInStep.yield ok)else pure (ForInStep.yield r)
section
variable {prog:Program}{w:World}{A:Around}{R:Result->Shared->Prop}{s:Shared}
theorem EG{elt target iter:Expr}{ifs:List Expr}{scope:Scope}{pos:Pos}{it acc:Value}{env:Env}(I:Nat->Shared->Prop)
  (turn:∀n s,I n s->wpAny (model prog w) A (pyNext it) (fun r bU=>match r with
   |none=>R (.ok .next) bU
   |some v=>wpAny (model prog w) A (letOwnedTupleGo target it v) (fun _ Gk=>wpAny (model prog w) A (assign target env v) (fun _ mV=>
     wpAny (model prog w) A (yS ifs env) (fun ok xp=>
      if ok=true then wpAny (model prog w) A (eval elt env) (fun x EH=>
       wpAny (model prog w) A (call (.builtin "list.append") [acc,x]) (fun _ L1=>∃m,m<n/\I m L1) (fun _ _=>False) EH) (fun _ _=>False) xp
      else∃m,m<n/\I m xp) (fun _ _=>False) mV) (fun _ _=>False) Gk) (fun _ _=>False) bU) (fun _ _=>False) s)
  (n:Nat) (h:I n s):codeAny (model prog w) A (.compLoop (.ListComp elt [⟨target,iter,ifs,0⟩] scope pos) 0 it acc env) R s:=by
 refine codeAny_loop rfl I (fun n s hI=>?_) n h;show wpAny _ A ((compTurn (.ListComp elt [⟨target,iter,ifs,0⟩] scope pos) 0 it acc env).onRaise (fun x=>do noteFrame x env;theTreesLotGoes x)) _ _ s;refine wpAny_noted ?_
 rw[compTurn_list];refine aa (wpAny_standAt (aa (dC (turn n s hI) (fun r bU di=>?_) fun _ _ f=>f.elim)));cases r with
 |none=>exact af di
 |some v=>
  refine aa (dC di (fun _ Gk L3=>?_) fun _ _ f=>f.elim);refine aa (dC L3 (fun _ mV mZ=>aa (dC mZ (fun ok xp vH=>?_) fun _ _ f=>f.elim)) fun _ _ f=>f.elim);cases ok with
  |false=>exact af ⟨rfl,vH⟩
  |true=>exact aa (aa (dC vH (fun x EH Ij=>aa (dC Ij (fun _ L1 ko=>af (af ⟨rfl,ko⟩)) fun _ _ f=>f.elim)) fun _ _ f=>f.elim))
end
def PF(X:Cx)(ifs:List Expr)(t:TT):Prop:=
 ∀(pins:List (Addr×Obj)) (s:Shared) (σ:St) (H:Hp) (Q:Bool->Hp->Prop),Inv X pins σ H s->t σ H Q->wpAny (model X.prog X.w) X.A (yS ifs X.env) (TP X pins σ Q) X.xe s
theorem Ci{X:Cx}:PF X [] (fun _ H Q=>Q true H):=fun _ _ _ H _ I h=>wpAny_tests_nil ⟨H,I,h⟩
theorem Ik{X:Cx}{c:Expr}{t:TT}(h:PT X c t):PF X [c] t:=fun pins s σ H Q I q=>wpAny_tests_one (h pins s σ H Q I q)
def Q2(J:It)(D:Addr)(OZ:St)(H0:Hp)(g:TG)(tc:TT)(te:TE)(Q:Hp->Prop):Prop:=
 ∃W:Nat->Nat->St->Hp->Prop,(∃m,W 0 m OZ H0)/\∀i m σ H,W i m σ H->(J.stop i H/\Q H)\/
  (J.go i H/\∃N:St->Hp->Prop,(∀bP H',N bP H'->∃m',m'<m/\W (i+1) m' bP H')/\∀x H',J.yM i H x H'->g x σ H' fun rX H2=>tc rX H2 fun b H3=>
    if b=true then te rX H3 fun y H4=>∃ys,H4 D=some (.lst ys)/\ys.length<sizeLine/\N rX (upd H4 D (.lst (ys++[y])))else N rX H3)
def KC(wi:TI)(ix:List (Option Nat))(g:TG)(tc:TT)(te:TE):TE:=fun σ H Q=>wi σ H fun J H1=>∀D,H1 D=none->Q2 J D (eQ ix σ) (upd H1 D (.lst [])) g tc te fun H'=>Q (.ref D) H'
section
variable {X:Cx}{scope:Scope}{N':List Str}{ix:List (Option Nat)}{tg iter elt:Expr}{ifs:List Expr}{pos:Pos}{g:TG}{tc:TT}{te:TE}
theorem yT{use:Option (Value->Sem Unit)}{Qf:Value->Shared->Prop}{QD:Addr->Hp->Prop}{pins:List (Addr×Obj)}{s2:Shared}{σ:St}{H2:Hp}{it:Addr}{fp:List Addr}{tn:Nat->Heap->Prop}{J:It}
  (L:fR X N' ix scope) (hc:X.calm=true) (l_:∀s H ex,PG (kY X scope N' s H ex) tg g/\PF (kY X scope N' s H ex) ifs tc/\PE (kY X scope N' s H ex) elt te)
  (I2:Inv X pins σ H2 s2) (T:Turn X.prog X.w X.K tg J fp it tn) (Em:tn 0 s2.heap) (f2:∀b∈fp,ja X pins H2 b)
  (hw:∀D,H2 D=none->Q2 J D (eQ ix σ) (upd H2 D (.lst [])) g tc te (QD D))
  (Q3:∀D C H' s' m,Inv X pins σ H' s'->ja X pins H' C->s'.heap.Ns C m->QD D H'->compPost (model X.prog X.w) X.A X.xe use Qf (.ref D) C (.ok .next) s'):
  wpAny (model X.prog X.w) X.A (newList []) (fun acc xp=>wpAny (model X.prog X.w) X.A (newFunctionEnv scope X.env.globals (um scope X.env) [] X.env.qual none .none (some X.env)) (fun L4 EH=>
   codeAny (model X.prog X.w) X.A (.compStart (.ListComp elt [⟨tg,iter,ifs,0⟩] scope pos) 0 (.ref it) acc {L4 with scope:=relabel scope X.env}) (compPost (model X.prog X.w) X.A X.xe use Qf acc L4.locals) EH) X.xe xp) X.xe s2:=by
 refine eG (wpAny_newFunctionEnv L.uo (by intro y hy;simp at hy) (fun di xF xG=>?_) L.kind);dsimp only at xF xG⊢;have hD:H2 s2.heap.objs.size=none:=I2.fresh;have I3:Inv X pins σ (upd H2 s2.heap.objs.size (.lst [])) {s2 with heap:=s2.heap.push {cls:=.type "list",data:=.seq ([]:List Value).toArray},toks:=s2.toks}:=I2.HS (aV:=[]) .nil (bG _);generalize UL:({s2 with heap:=s2.heap.push {cls:=.type "list",data:=.seq ([]:List Value).toArray},toks:=s2.toks}:Shared)=s3 at I3;have e3:({s2 with heap:=s2.heap.push {cls:=.type "list",dict:=none,data:=.seq ([]:List Value).toArray}}:Shared)=s3:=UL;have eh:s2.heap.push {cls:=.type "list",dict:=none,data:=.seq ([]:List Value).toArray}=s3.heap:=bB Shared.heap e3;have UM:s3.os=s2.os:=by rw[<-e3]
 have ek:∀b o,s2.heap.get? b=some o->s3.heap.get? b=some o:=fun b o e=>by rw[<-eh];exact aB _ e
 have Il:s2.heap.objs.size<=s3.heap.objs.size:=by rw[<-eh,fK];exact gz _
 rw[eh]at xF xG⊢;have f3:∀b∈fp,ja X pins (upd H2 s2.heap.objs.size (.lst [])) b:=fun b hb=>by
  obtain⟨o,eo,_⟩:=T.obj _ _ Em b hb;refine⟨?_,(f2 b hb).2⟩;rw[ah (aS (aw eo))];exact(f2 b hb).1
 have F7:∀b∈fp,b<s3.heap.objs.size:=fun b hb=>by
  obtain⟨o,eo,_⟩:=T.obj _ _ Em b hb;exact bx (aw eo) Il
 have k4:∀b o,s3.heap.get? b=some o->di.get? b=some o:=fun b o e=>xG.extBut b o (aS (aw e)) (aB _ e);have Td:tn 0 di:=T.keep _ _ _ Em fun b _ o e=>k4 b o (ek b o e);obtain⟨W,⟨m0,w0⟩,turn⟩:=hw s2.heap.objs.size hD;have I4:∀tk,Inv (kY X scope N' s3 (upd H2 s2.heap.objs.size (.lst [])) fp) [] (eQ ix σ) (upd H2 s2.heap.objs.size (.lst [])) {s3 with heap:=di,toks:=tk}:=fun tk=>
  xD L I3 xF k4 f3 F7
 obtain⟨hg,hf,he⟩:=l_ s3 (upd H2 s2.heap.objs.size (.lst [])) fp;have xv:∀{H':Hp},(∀b∈fp,H' b=none)->∀b∈fp,ja (kY X scope N' s3 (upd H2 s2.heap.objs.size (.lst [])) fp) [] H' b:=fun{H'} hn b hb=>by
  have ok:=(I4 0).ok;obtain⟨x1,x2⟩:=ok.P9 b hb;exact⟨hn b hb,x1,ok.BG b hb,.inl hb,x2,fun p hp=>absurd (show p∈([]:List (Addr×Obj))from hp) (by simp)⟩
 have loop:∀tk,codeAny (model X.prog X.w) X.A (.compLoop (.ListComp elt [⟨tg,iter,ifs,0⟩] scope pos) 0 (.ref it) (.ref s2.heap.objs.size) (compEnvC scope (um scope X.env) s3.heap.objs.size X.env))
   (compPost (model X.prog X.w) X.A X.xe use Qf (.ref s2.heap.objs.size) s3.heap.objs.size) {s3 with heap:=di,toks:=tk}:=fun tk=>by
  refine EG (fun n s'=>∃i bP H',Inv (kY X scope N' s3 (upd H2 s2.heap.objs.size (.lst [])) fp) [] bP H' s'/\tn i s'.heap/\(∀b∈fp,H' b=none)/\W i n bP H') ?_ m0
   ⟨0,_,_,I4 tk,Td,fun b hb=>(f3 b hb).1,w0⟩
  rintro n s5 ⟨i,O0,H5,I5,Ku,OS,w5⟩
  rcases turn i n O0 H5 w5 with⟨stop,qn⟩|⟨go,N,hN,step⟩
  ·refine du (T.done (kY X scope N' s3 (upd H2 s2.heap.objs.size (.lst [])) fp) rfl rfl rfl hc i [] s5 O0 H5 _ I5 (xv OS) Ku stop) fun r s6 ⟨hr,I6⟩=>?_
   subst hr;have u:Un (l4 X.stack) fp H2 H5 s2.heap s6.heap:=(Un.laid (o:=.lst []) ek (ar _) hD).trans I6.base;have J6:Inv X pins σ H5 s6:=I2.Lm (ch:=fp) (I6.os.trans UM) u I6.bN I6.bare fun b hb=>by
    obtain⟨_,x1,_,x3,x4,x5⟩:=f2 b hb;exact⟨x3,x1,x4,x5⟩
   obtain⟨m,hm,_⟩:=I6.loc;exact Q3 _ _ H5 s6 m J6 (I2.vx Il I6.free) hm qn
  ·refine du (T.item (kY X scope N' s3 (upd H2 s2.heap.objs.size (.lst [])) fp) rfl rfl rfl hc i [] s5 O0 H5 _ I5 (xv OS) Ku go) fun r s6 ⟨v,hr,h6⟩=>?_
   subst hr;refine du h6 fun _ s7 ⟨x,H7,I7,r7,y7,Q4,UN⟩=>?_
   have UO:=I7.pinned (xv UN) (T.obj _ _ Q4);refine du (hg _ s7 O0 H7 x v _ UO r7 (step x H7 y7)) fun _ s8 ⟨O1,H8,I8,q8⟩=>?_
   have again:∀{L5:St} {H9:Hp} {s9:Shared},Inv (kY X scope N' s3 (upd H2 s2.heap.objs.size (.lst [])) fp) ([]++qa fp s7.heap) L5 H9 s9->N L5 H9->
     ∃m,m<n/\∃i bP H',Inv (kY X scope N' s3 (upd H2 s2.heap.objs.size (.lst [])) fp) [] bP H' s9/\tn i s9.heap/\(∀b∈fp,H' b=none)/\W i m bP H':=fun{L5 H9 s9} I9 n9=>by
    obtain⟨m',hm,w9⟩:=hN L5 H9 n9;refine⟨m',hm,i+1,L5,H9,I9.l5,T.keep _ _ _ Q4 fun b hb o e=>(I9.pin (b,o) (eB _ (eB _ (iR hb e)))).1,fun b hb=>?_,w9⟩;obtain⟨o,e,d⟩:=T.obj _ _ Q4 b hb;exact(I9.pin (b,o) (eB _ (eB _ (iR hb e)))).2.1
   refine du (hf _ s8 O1 H8 _ I8 q8) fun ok s9 ⟨H9,I9,q9⟩=>?_
   cases ok with
   |false=>exact again I9 q9
   |true=>
    refine du (he _ s9 O1 H9 _ I9 q9) fun y Q5 ⟨v10,UP,UQ,UR,ys,hy,hz,US⟩=>?_
    refine du (fo _ Q5 O1 UP (.ref s2.heap.objs.size) [v10] (.ref s2.heap.objs.size) [y] (fun _ H'=>N O1 H') UQ rfl (.cons UR .nil) ⟨_,ys,v10,rfl,rfl,hy,hz,US⟩) fun _ Xh ⟨_,Xi,UT,_,UU⟩=>?_
    exact again UT UU
 have es:∀tk,({s2 with heap:=di,toks:=tk}:Shared)={s3 with heap:=di,toks:=tk}:=fun tk=>by rw[<-e3]
 have Gm:∀tk,codeAny (model X.prog X.w) X.A (.compLoop (.ListComp elt [⟨tg,iter,ifs,0⟩] scope pos) 0 (.ref it) (.ref s2.heap.objs.size) (compEnvC scope (um scope X.env) s3.heap.objs.size X.env))
   (compPost (model X.prog X.w) X.A X.xe use Qf (.ref s2.heap.objs.size) s3.heap.objs.size) {s2 with heap:=di,toks:=tk}:=fun tk=>by
  rw[es tk];exact loop tk
 exact codeAny_compStart_list (Gm _) (T.self _ 0 _ _ _ Td (Gm _))
theorem Cj{wi:TI}(L:fR X N' ix scope)(hc:X.calm=true)(hi:PI X tg iter wi)(l_:∀s H ex,PG (kY X scope N' s H ex) tg g/\PF (kY X scope N' s H ex) ifs tc/\PE (kY X scope N' s H ex) elt te)
  (hs:∀x,foldedSetIterable iter X.env x=pure x:=by intro _;rfl):PE X (.ListComp elt [⟨tg,iter,ifs,0⟩] scope pos) (KC wi ix g tc te):=by
 intro pins s σ H Q I h;have jH:∀y∈scope.names,y.2=.free->∃c,X.env.cells.lookup y.1=some c:=fun y hy z=>I.ok.has y.1 (.inl (L.cell y hy z));rw[eval_ListComp];refine wpAny_comprehension_free (use:=none) rfl hs (iU jH) L.kind L.loc (du (hi pins s σ H _ I h) fun v s1 h1=>du h1 fun OP s2 h2=>?_);obtain⟨it,fp,tn,J,H2,e,I2,T,Em,f2,hw⟩:=h2;subst e;refine yT (QD:=fun D H'=>Q (.ref D) H') L hc l_ I2 T Em f2 hw fun D C H' s' m I' fC hm q=>⟨m,hm,fun h' Cg=>?_⟩;obtain⟨x0,x1,x2,x3,x4,x5⟩:=fC;exact⟨.ref D,H',I'.turned (t':=s'.toks) (fun b o hb e=>(Cg.2 b hb).trans e) x0 x1 x3 x4 x5,rfl,q⟩
theorem vI{wi:TI}{i:Nat}{x:Str}{px ma:Pos}(L:fR X N' ix scope)(hc:X.calm=true)(hN:X.N.Nodup)(hi:X.N[i]?=some x)(hx:Loc X.env.scope x)(hit:PI X tg iter wi)
  (l_:∀s H ex,PG (kY X scope N' s H ex) tg g/\PF (kY X scope N' s H ex) ifs tc/\PE (kY X scope N' s H ex) elt te)
  (EI:swapsWith (.ListComp elt [⟨tg,iter,ifs,0⟩] scope pos) (some (.Name x px)) ma.line X.env=pure true:=by rfl)
  (hs:∀x,foldedSetIterable iter X.env x=pure x:=by intro _;rfl) (hf:X.fn x=true\/X.env.scope.names.lookup x=some .local:=by first|exact .inl rfl|exact .inr rfl|assumption):
  PS X (.Assign [.Name x px] (.ListComp elt [⟨tg,iter,ifs,0⟩] scope pos) ma) (fun D σ H=>KC wi ix g tc te σ H fun v H'=>D.nx (σ.set i (some v)) H'):=by
 intro pins s σ H D I h;have jH:∀y∈scope.names,y.2=.free->∃c,X.env.cells.lookup y.1=some c:=fun y hy z=>I.ok.has y.1 (.inl (L.cell y hy z));rw[exec_Assign_Name_used _ _ _ _ EI];refine aa (wpAny_standAt (aa ?_));show wpAny _ X.A (do let _<-comprehension (.ListComp elt [⟨tg,iter,ifs,0⟩] scope pos) scope X.env _ (newList []) false (eval iter X.env) (some (assign (.Name x px) X.env))) _ _ s;refine aa (dC (wpAny_comprehension_free (use:=some (assign (.Name x px) X.env)) (Q:=fun _ s'=>SP X pins D .next s') rfl hs (iU jH) L.kind L.loc
  (du (hit pins s σ H _ I h) fun v s1 h1=>du h1 fun OP s2 h2=>?_)) (fun _ s' hq=>af (af hq)) fun _ _ e=>e)
 obtain⟨it,fp,tn,J,H2,e,I2,T,Em,f2,hw⟩:=h2;subst e;refine yT (QD:=fun Dd H'=>D.nx (σ.set i (some (.ref Dd))) H') L hc l_ I2 T Em f2 hw fun Dd C H' s' m I' fC hm q=>?_
 obtain⟨x0,x1,x2,x3,x4,x5⟩:=fC;show wpAny _ X.A (assign (.Name x px) X.env (.ref Dd)) _ _ _;refine wpAny_assign_Name (sq I' hN hi hx (v:=.ref Dd) rfl (fun D_ UW sk=>?_) hf);obtain⟨a,Cg,ha⟩:=sk;have UX:C≠a:=by
  rcases ha with ha|ha
  ·rw[ha];exact x1
  ·exact fun z=>x4 _ _ ha z.symm
 refine⟨m,hm.sameBut Cg UX,fun h' Q6=>?_⟩;exact⟨_,H',UW.turned (t':=D_.toks) (fun b o hb e=>(Q6.2 b hb).trans e) x0 x1 x3 x4 x5,q⟩
end
end L2
namespace L2
open PySem PySem.Spec PyProof.Rows
def O2(z:Str):It:=⟨fun i _=>i<z.cps.size,fun i H x H'=>H'=H/\∃c,z.cps[i]?=some c/\x=.str ⟨#[c]⟩,fun i _=>i=z.cps.size⟩
theorem vJ{P:Program}{w:World}{K:PySem.W.Frag}{tg:Expr}{z:Str}{t:Tok}{it:Addr}{n:String}(hn:["enumerate","zip","dict_itemiterator","dict_reverseitemiterator","odict_iterator","itertools.zip_longest","itertools.pairwise"].contains n=false)
  (W:∀A':Around,A'.handled=none->Walks P w A' it [it] [it] z.cps.size (SignAt z) (fun i h=>h.IsStrIter it n z t i))
  (self:∀(A:Around) (i:Nat) (s:Shared) (Q:Value->Shared->Prop) (E:Value->Shared->Prop),s.heap.IsStrIter it n z t i->Q (.ref it) s->wpAny (model P w) A (pyIter (.ref it)) Q E s):
  Turn P w K tg (O2 z) [it] it (fun i h=>h.IsStrIter it n z t i) where
 mem:=by simp
 obj:=fun i h st b hb=>by
  have e:b=it:=by simpa using hb
  subst e;obtain⟨o,e,c,d⟩:=st;exact⟨o,e,fun v q=>by rw[d]at q;cases q⟩
 keep:=fun i h h' st k=>by
  obtain⟨o,e,c,d⟩:=st;exact⟨o,k it (by simp) o e,c,d⟩
 item:=by
  intro X hP hw hK hc i pins s σ H E I hf st hg;subst hP hw hK;obtain⟨f0,f1,f2,f3,f4,f5⟩:=hf it (by simp);refine(W X.A (I.ok.hd hc)).item i s _ _ hg st fun v h' tk hv rV kk=>?_
  obtain⟨c,u,UY,rfl⟩:=hv;have I1:Inv X pins σ H {s with heap:=h',toks:=tk}:=I.turned (fun b o hb e=>kk b o (by simpa using hb) e) f0 f1 f3 f4 f5;obtain⟨o,e,cl,d⟩:=id rV;exact⟨_,rfl,vy (s:={s with heap:=h',toks:=tk}) e cl d hn ⟨.str ⟨#[c]⟩,H,I1,⟨u,rfl⟩,⟨rfl,c,UY,rfl⟩,rV,fun b hb=>(hf b hb).1⟩⟩
 done:=by
  intro X hP hw hK hc i pins s σ H E I hf st hg;subst hP hw hK;obtain⟨f0,f1,f2,f3,f4,f5⟩:=hf it (by simp);have e:i=z.cps.size:=hg;subst e;exact(W X.A (I.ok.hd hc)).done s _ _ st fun h' tk kk=>⟨rfl,I.turned (fun b o hb e=>kk b o (by simpa using hb) e) f0 f1 f3 f4 f5⟩
 self:=self
theorem iw.upd {K:PySem.W.Frag}{H:Hp}{D a:Addr}{xs:List V}{o:HO}(hD:H D=none)(h:iw K H a xs):iw K (upd H D o) a xs:=by
 rcases h with(h|⟨ob,h⟩)|h
 ·exact .inl (.inl (by rw[ah (aL h hD)];exact h))
 ·exact .inl (.inr ⟨ob,by rw[ah (aL h hD)];exact h⟩)
 ·exact .inr h
theorem gW.upd {K:PySem.W.Frag}{H:Hp}{D a:Addr}{xs:List V}{o:HO}(hD:H D=none)(h:gW K H a xs):gW K (upd H D o) a xs:=by
 rcases h with(h|⟨ob,h⟩)|h
 ·exact .inl (.inl (by rw[ah (aL h hD)];exact h))
 ·exact .inl (.inr ⟨ob,by rw[ah (aL h hD)];exact h⟩)
 ·exact .inr h
section
variable {X:Cx}
theorem Im:rO X (compareOp .Is) (fun x y H Q=>∃c d,x=.bl c/\y=.bl d/\Q (.bl (c==d)) H):=by
 intro pins s σ H x y v u Q I rx ry h;obtain⟨c,d,rfl,rfl,q⟩:=h;cases rx;cases ry;exact is_bool (xw I q rfl)
theorem EJ:rO X (binaryOp .Mult) (fun x y H Q=>∃z n,x=.str z/\y=.int n/\MulOk z n/\Q (.str (Txt.mul z n)) H):=by
 intro pins s σ H x y v u Q I rx ry h;obtain⟨z,n,rfl,rfl,bN,q⟩:=h;obtain⟨t,rfl⟩:=rx;obtain⟨t',rfl⟩:=ry;exact SB.mul bN fun t' k=>⟨.str _,H,I.tok _,⟨_,rfl⟩,q⟩
theorem Ck(hc:X.calm=true):gE X (.builtin "all") (fun xs H Q=>∃(p:Addr) (bs:List Bool),xs=[.ref p]/\iw X.K H p (bs.map V.bl)/\Q (.bl (bs.all id)) H):=by
 intro pins s σ H xs us Q I r h;obtain⟨p,bs,rfl,hl,q⟩:=h;obtain⟨u,rfl,ru⟩:=vals1 r;cases(show u=Value.ref p from ru);obtain⟨aV,rv,pl,hz⟩:=I.list hl;have hb:aV=bs.map Value.bool:=by
  clear hz pl hl q I
  induction bs generalizing aV with
  |nil=>cases rv;rfl
  |cons b r ih=>
   cases rv with
   |cons r1 r2=>
    rw[aA,<-ih _ (by exact r2)];cases(show _=Value.bool b from r1)
    rfl
 subst hb;have dX:p<s.heap.objs.size:=by obtain⟨o,n,e,_⟩:=pl;exact aw e
 refine call_all_walk (ic pl.isList ?_);refine⟨s.heap.objs.size,[s.heap.objs.size,p],[s.heap.objs.size],(bs.map Value.bool).toArray.size,_,_,fun i=>(bs[i]?).getD true,rfl,Walks.list (A:=X.A.in1) (I.ok.hd hc) _ p (aS dX) _,
  ⟨⟨_,aT _ rfl,rfl,rfl⟩,pl.isList.push _⟩,fun i v s' Q' E' hP hQ=>?_,fun h' tk hk=>?_⟩
 ·have L6:(bs.map Value.bool)[i]?=some v:=by simpa using hP
  rw[aU]at L6;cases eb:bs[i]? with
  |none=>rw[eb]at L6;cases L6
  |some b=>
   rw[eb]at L6;cases L6;simp only[eb,Option.getD_some]at hQ;exact jo hQ
 ·have e:((List.range (bs.map Value.bool).toArray.size).all fun i=>(bs[i]?).getD true)=bs.all id:=by
   rw[bc,ai];exact LSm.range_all bs
  rw[e];exact⟨.bl _,H,I.kept (LSm.kept_iter hk),rfl,q⟩
end
end L2
namespace L2
open PySem PySem.Spec PyProof.Rows
theorem au.tup {K:PySem.W.Frag}{H H':Hp}{a:Addr}{xs:List V}(e:au H H')(h:gW K H a xs):gW K H' a xs:=by
 rcases h with(h|⟨o,h⟩)|h
 ·exact .inl (.inl (e _ _ h))
 ·exact .inl (.inr ⟨o,e _ _ h⟩)
 ·exact .inr h
theorem au.upd {H:Hp}{D:Addr}{o:HO}(hD:H D=none):au H (upd H D o):=fun b u e=>by rw[ah (aL e hD)];exact e
theorem au.Io {H H':Hp}{D:Addr}{o:HO}(s:au H H')(hD:H D=none):au H (L2.upd H' D o):=fun b u e=>by rw[ah (aL e hD)];exact s b u e
structure sG(K:PySem.W.Frag)(mg:Str->Option Value)(x:Str)(st:Stmt)(ps:List Str)(f:Addr)(fd:FuncData):Prop where
 fn:r9 K x x st f fd
 bd:Binds K fd ps []
 mg:mg x=some (.ref f)
theorem Ip{X:Cx}{x:Str}{st:Stmt}{ps:List Str}{f:Addr}{fd:FuncData}{k:Nat}{sp:Sp}{e:Expr}{es:List Expr}{t:TA}{p pos:Pos}(D:sG X.K X.mg x st ps f fd)(G:fQ X.prog X.w X.K X.mg X.base kX k f fd ps sp)(hr:de k X.A)
  (ha:PA X (e::es) t) (hg:Gl X x:=by rfl) (iT:(x==("__debug__":Str))=false:=by decide) (he:starEach (e::es) X.env=(false,eval e X.env)::starEach es X.env:=by rfl)
  (n8:(backTo pos (starEach es X.env)).any (·.1)=false:=by rfl):PE X (.Call (.Name x p) (e::es) [] pos) (Gb sp [] E0 t):=by
 have q:=yN (p:=p) (pos:=pos) G hr hg D.mg D.fn.kp D.bd .nil LX ha (iT:=iT) (he:=he) (n8:=n8);exact q
end L2
namespace L2
open PySem PySem.Spec PyProof.Rows
section
variable {X:Cx}
theorem vK:∀{cs:List String} {us:List Value},Vals (cs.map V.ty) us->us=cs.map Value.type
 |[],_,.nil=>rfl
 |c::cs,_,.cons r t=>by
  rw[vK t];cases(show _=Value.type c from r)
  rfl
theorem m4{h:Heap}{p:Addr}{aV:Array Value}(ht:h.IsTuple p aV):∃dd n sl,h.get? p=some ⟨.type "tuple",dd,.seq aV n,sl⟩:=by
 obtain⟨⟨cls,dd,data,sl⟩,h1,h2,n,h3⟩:=ht;dsimp only at h2 h3;subst h2 h3;exact⟨dd,n,sl,h1⟩
theorem Ar:gE X (.builtin "isinstance") (fun xs H Q=>∃(x:V) (p:Addr) (cs:List String) (t:Value) (b:Bool),xs=[x,.ref p]/\Gi x=true/\gW X.K H p (cs.map V.ty)/\l7 X.K H x t/\PySem.W.kitAny X.K t (cs.map Value.type)=some b/\Q (.bl b) H):=by
 intro pins s σ H xs us Q I r h;obtain⟨x,p,cs,t,b,rfl,fx,hp,ty,e,q⟩:=h;obtain⟨u,v,rfl,ru,rv⟩:=vals2 r;cases(show v=Value.ref p from rv);obtain⟨aV,r1,p1,_⟩:=I.tuple hp;obtain⟨dd,n,sl,hg⟩:=m4 p1;cases vK r1;have fin:∀tk,EP X pins σ Q (.bool b) {s with toks:=tk}:=fun tk=>⟨.bl b,H,I.tok _,rfl,q⟩;cases ty with
 |cg=>
  cases(show u=Value.none from ru);exact lN PySem.W.kitx_none I.n5 .intro hg e (by simp) fin
 |bl y=>
  cases(show u=Value.bool y from ru);exact lN PySem.W.kitx_bool I.n5 .intro hg e (by simp) fin
 |int i=>
  obtain⟨t,rfl⟩:=(show∃t,u=Value.int i t from ru);exact lN PySem.W.kitx_int I.n5 .intro hg e (by simp) fin
 |str y=>
  obtain⟨t,rfl⟩:=(show∃t,u=Value.str y t from ru);exact lN PySem.W.kitx_str I.n5 .intro hg e (by simp) fin
 |_=>exact absurd (show false=true from fx) cz
end
end L2
namespace L2
open PySem PySem.Spec PyProof.Rows
inductive Tr where
 |cg|bl (b:Bool)|int (i:Int)|str (z:Str)|ty (n:String)
 |jd (ns:List Int)|tup (ts:List Tr)|lst (ts:List Tr)|jI (aC:List (Key×Tr))|at(i:Nat)
 |bf (aC:List (List Key×Tr))|ob (x:Str) (fs:List (Str×Tr))|yU (x:Str)
def iA:Nat:=1000000
def clsAt(K:PySem.W.Frag)(x:Str):Addr:=match PySem.W.nsIn K mainGlobals x with
 |some (some (.ref C))=>C
 |_=>0
structure Vw where
 H:Hp
 ix:Addr->Option Nat
instance:Coe Vw Hp:=⟨Vw.H⟩
instance:CoeFun Vw (fun _=>Addr->Option HO):=⟨Vw.H⟩
structure cv(W W':Vw):Prop where
 h:au W.H W'.H
 x:∀a i,W.ix a=some i->W'.ix a=some i
theorem cv.refl (W:Vw):cv W W:=⟨au.refl _,fun _ _ e=>e⟩
theorem cv.trans {W W1 W2:Vw}(a:cv W W1)(b:cv W1 W2):cv W W2:=⟨a.h.trans b.h,fun c i e=>b.x c i (a.x c i e)⟩
mutual
inductive Rep(K:PySem.W.Frag)(H:Vw):V->Tr->Prop where
 |cg:Rep K H .cg .cg
 |bl (b:Bool):Rep K H (.bl b) (.bl b)
 |int (i:Int):Rep K H (.int i) (.int i)
 |str (z:Str) (h:z.length<=iA):Rep K H (.str z) (.str z)
 |ty (n:String):Rep K H (.ty n) (.ty n)
 |jd {a:Addr} {ns:List Int} (h:iw K H.H a (ns.map V.int)):Rep K H (.ref a) (.jd ns)
 |tup {a:Addr} {vs:List V} {ts:List Tr} (h:H.H a=some (.tup vs)) (r:aJ K H vs ts):Rep K H (.ref a) (.tup ts)
 |lst {a:Addr} {vs:List V} {ts:List Tr} (h:H.H a=some (.lst vs)) (r:aJ K H vs ts):Rep K H (.ref a) (.lst ts)
 |jI {a:Addr} {av:List (Key×V)} {aC:List (Key×Tr)} (h:Rd H.H a (.dK av)) (e:av.map (·.1)=aC.map (·.1)) (r:aJ K H (av.map (·.2)) (aC.map (·.2))):Rep K H (.ref a) (.jI aC)
 |at{a:Addr} {i:Nat} (h:H.ix a=some i):Rep K H (.ref a) (.at i)
 |bf {a:Addr} {av:List (List Key×V)} {aC:List (List Key×Tr)} (h:Rd H.H a (.dT av)) (e:av.map (·.1)=aC.map (·.1)) (r:aJ K H (av.map (·.2)) (aC.map (·.2))):Rep K H (.ref a) (.bf aC)
 |ob {a dx:Addr} {x:Str} {vc:List (Str×V)} {fs:List (Str×Tr)} (h:H.H a=some (.ins (clsAt K x) dx vc)) (e:vc.map (·.1)=fs.map (·.1)) (r:aJ K H (vc.map (·.2)) (fs.map (·.2))):Rep K H (.ref a) (.ob x fs)
 |yU {a:Addr} {oe:Obj} {x:Str} (h:H.H a=some (.ext fun h=>h.get? a=some oe)) (c:oe.cls=.ref (clsAt K x)):Rep K H (.ref a) (.yU x)
inductive aJ(K:PySem.W.Frag)(H:Vw):List V->List Tr->Prop where
 |nil:aJ K H [] []
 |cons {v:V} {t:Tr} {vs:List V} {ts:List Tr} (h:Rep K H v t) (r:aJ K H vs ts):aJ K H (v::vs) (t::ts)
end
section
theorem Rd.same {H H':Hp}{a:Addr}{u:HO}(s:au H H')(h:Rd H a u):Rd H' a u:=by
 rcases h with h|⟨o,h⟩
 ·exact .inl (s _ _ h)
 ·exact .inr ⟨o,s _ _ h⟩
variable {K:PySem.W.Frag}{H H':Vw}
theorem Rep.same (s:cv H H'){v:V}{t:Tr}(h:Rep K H v t):Rep K H' v t:=by
 refine Rep.rec (motive_1:=fun v t _=>Rep K H' v t) (motive_2:=fun vs ts _=>aJ K H' vs ts) ?_ ?_ ?_ ?_ ?_ ?_ ?_ ?_ ?_ ?_ ?_ ?_ ?_ ?_ ?_ h
 ·exact .cg
 ·exact fun b=>.bl b
 ·exact fun i=>.int i
 ·exact fun z h=>.str z h
 ·exact fun n=>.ty n
 ·exact fun h=>.jd (s.h.seq h)
 ·exact fun h _ r=>.tup (s.h _ _ h) r
 ·exact fun h _ r=>.lst (s.h _ _ h) r
 ·exact fun h e _ r=>.jI (Rd.same s.h h) e r
 ·exact fun h=>.at (s.x _ _ h)
 ·exact fun h e _ r=>.bf (Rd.same s.h h) e r
 ·exact fun h e _ r=>.ob (s.h _ _ h) e r
 ·exact fun h c=>.yU (s.h _ _ h) c
 ·exact .nil
 ·exact fun _ _ h r=>.cons h r
theorem aJ.same (s:cv H H'):∀{vs:List V} {ts:List Tr},aJ K H vs ts->aJ K H' vs ts
 |[],_,h=>by cases h;exact .nil
 |_::_,_,h=>by cases h with|cons h r=>exact .cons (h.same s) (aJ.same s r)
theorem aJ.length:∀{vs:List V} {ts:List Tr},aJ K H vs ts->vs.length=ts.length
 |[],_,h=>by cases h;rfl
 |_::_,_,h=>by cases h with|cons h r=>rw[bp,bp,aJ.length r]
theorem aJ.get:∀{vs:List V} {ts:List Tr} {i:Nat} {t:Tr},aJ K H vs ts->ts[i]?=some t->∃v,vs[i]?=some v/\Rep K H v t
 |[],_,i,t,h,e=>by cases h;simp at e
 |_::_,_,0,t,h,e=>by cases h with|cons h r=>simp at e;subst e;exact⟨_,rfl,h⟩
 |_::_,_,i+1,t,h,e=>by
  cases h with
  |cons h r=>
   obtain⟨v,e1,r1⟩:=aJ.get (i:=i) (t:=t) r (by simpa using e);exact⟨v,by simpa using e1,r1⟩
theorem aJ.xH:∀{vs:List V} {ts:List Tr} {i:Nat} {v:V},aJ K H vs ts->vs[i]?=some v->∃t,ts[i]?=some t/\Rep K H v t
 |[],_,i,t,h,e=>by simp at e
 |_::_,_,0,t,h,e=>by cases h with|cons h r=>simp at e;subst e;exact⟨_,rfl,h⟩
 |_::_,_,i+1,t,h,e=>by
  cases h with
  |cons h r=>
   obtain⟨v,e1,r1⟩:=aJ.xH (i:=i) r (by simpa using e);exact⟨v,by simpa using e1,r1⟩
theorem aJ.append:∀{vs ws:List V} {ts us:List Tr},aJ K H vs ts->aJ K H ws us->aJ K H (vs++ws) (ts++us)
 |[],_,_,_,h,q=>by cases h;exact q
 |_::_,_,_,_,h,q=>by cases h with|cons h r=>exact .cons h (aJ.append r q)
theorem aJ.rep {vs:List V}{ts:List Tr}(h:aJ K H vs ts):∀n:Nat,aJ K H (List.replicate n vs).flatten (List.replicate n ts).flatten
 |0=>.nil
 |n+1=>by
  rw[iP,iP,hX,hX];exact h.append (aJ.rep h n)
end
structure bQ where
 hd:Addr->Bool
 ix:Addr->Option Nat
instance:CoeFun bQ (fun _=>Addr->Bool):=⟨bQ.hd⟩
def aN(B:bQ)(H:Hp):Vw:=⟨fun b=>if B.hd b=true then none else H b,B.ix⟩
def HB(B:bQ)(H:Hp):Prop:=∀b,B.hd b=true->∃o,H b=some o/\∀vs,o≠ .tup vs
section
variable {B B':bQ}{H H':Hp}
theorem cC{b:Addr}(h:B.hd b=false):(aN B H).H b=H b:=by show(if B.hd b=true then none else H b)=_;rw[h,ae cz]
theorem aE:au (aN B H).H H:=fun b o (e:(if B.hd b=true then none else H b)=some o)=>by
 split at e
 ·cases e
 ·exact e
theorem aZ(s:au H H'):cv (aN B H) (aN B H'):=⟨fun b o (e:(if B.hd b=true then none else H b)=some o)=>by
 show(if B.hd b=true then none else H' b)=some o;split at e
 ·cases e
 ·rw[ae (by assumption)];exact s b o e,fun _ _ e=>e⟩
def raw(B:bQ)(H:Hp):Vw:=⟨H,B.ix⟩
theorem oF:cv (aN B H) (raw B H):=⟨aE,fun _ _ e=>e⟩
theorem HB.same (h:HB B H)(s:au H H'):HB B H':=fun b e=>by obtain⟨o,q,n⟩:=h b e;exact⟨o,s b o q,n⟩
theorem HB.free {p:Addr}(h:HB B H)(hp:H p=none):B.hd p=false:=by
 cases e:B.hd p with
 |false=>rfl
 |true=>obtain⟨o,q,_⟩:=h p e;rw[hp]at q;cases q
theorem HB.tup {p:Addr}{vs:List V}(h:HB B H)(hp:H p=some (.tup vs)):(aN B H).H p=some (.tup vs):=by
 cases e:B.hd p with
 |false=>rw[cC e];exact hp
 |true=>obtain⟨o,q,n⟩:=h p e;rw[hp]at q;cases q;exact absurd rfl (n _)
theorem HB.new {p:Addr}{o:HO}(h:HB B H)(hp:H p=none):(aN B (upd H p o)).H p=some o:=by rw[cC (h.free hp)];exact aH
structure nO(B B':bQ):Prop where
 hd:∀b,B.hd b=true->B'.hd b=true
 ix:∀b i,B'.ix b=some i->B.ix b=some i
theorem qA(h:nO B B'):cv (aN B' H) (aN B H):=⟨fun b o (e:(if B'.hd b=true then none else H b)=some o)=>by
 show(if B.hd b=true then none else H b)=some o;split at e
 ·cases e
 ·rename_i n;rw[ae fun z=>n (h.hd b z)];exact e,h.ix⟩
end
inductive Rs(α:Type) where
 |bad|ok (a:α)|exc (c:Tr)
def Rs.bind {α β:Type}(r:Rs α)(f:α->Rs β):Rs β:=match r with
 |.ok a=>f a
 |.exc c=>.exc c
 |.bad=>.bad
def XA(X:Cx)(c:Tr)(H:Hp):Prop:=False
def kZ(xc:Tr->Prop){α:Type}(r:Rs α)(k:α->Prop):Prop:=match r with
 |.ok a=>k a
 |.exc c=>xc c
 |.bad=>False
def xP(X:Cx)(H:Hp):Tr->Prop:=fun c=>∀H',au H H'->XA X c H'
def Fi(X:Cx)(H:Hp){α:Type}(r:Rs α)(k:α->Prop):Prop:=kZ (xP X H) r k
section
variable {X:Cx}{H H':Hp}{α β:Type}{r:Rs α}{k k':α->Prop}{xc L7:Tr->Prop}
theorem kZ.mono (h:kZ xc r k)(w:∀a,k a->k' a):kZ xc r k':=by
 cases r with
 |ok a=>exact w a h
 |_=>exact h
theorem kZ.imp (h:kZ xc r k)(w:∀c,xc c->L7 c):kZ L7 r k:=by
 cases r with
 |ok a=>exact h
 |exc c=>exact w c h
 |bad=>exact h
theorem kZ.bind {f:α->Rs β}{k:β->Prop}(h:kZ xc (r.bind f) k):kZ xc r fun a=>kZ xc (f a) k:=by
 cases r with
 |_=>exact h
theorem Fi.mono (h:Fi X H r k)(w:∀a,k a->k' a):Fi X H r k':=kZ.mono h w
theorem Fi.same (h:Fi X H r k)(s:au H H'):Fi X H' r k:=kZ.imp h fun _ q H2 s2=>q H2 (s.trans s2)
theorem Fi.bind {f:α->Rs β}{k:β->Prop}(h:Fi X H (r.bind f) k):Fi X H r fun a=>Fi X H (f a) k:=kZ.bind h
end
inductive Cell where
 |no|sh (t:Tr)|ow (ts:List Tr)
abbrev az:=List Cell
structure bg(K:PySem.W.Frag)(B:bQ)(H:Hp)(σ:St)(ρ:az):Prop where
 len:ρ.length=σ.length
 sh:∀(i:Nat) (t:Tr),ρ[i]?=some (.sh t)->∃v,σ[i]?=some (some v)/\Rep K (aN B H) v t
 ow:∀(i:Nat) (ts:List Tr),ρ[i]?=some (.ow ts)->∃D ys,σ[i]?=some (some (.ref D))/\B D=true/\H D=some (.lst ys)/\aJ K (aN B H) ys ts
 ap:∀(i j:Nat) (ts us:List Tr) (D:Addr),i≠j->ρ[i]?=some (.ow ts)->ρ[j]?=some (.ow us)->σ[i]?=some (some (.ref D))->σ[j]? ≠some (some (.ref D))
section
variable {K:PySem.W.Frag}{B B':bQ}{H H':Hp}{σ:St}{ρ:az}
theorem bg.same (h:bg K B H σ ρ)(s:au H H'):bg K B H' σ ρ:=
 ⟨h.len,fun i t e=>by obtain⟨v,e1,r⟩:=h.sh i t e;exact⟨v,e1,r.same (aZ s)⟩,
   fun i ts e=>by obtain⟨D,ys,e1,e2,e3,r⟩:=h.ow i ts e;exact⟨D,ys,e1,e2,s _ _ e3,r.same (aZ s)⟩,h.ap⟩
theorem gj{α:Type}{l:List α}{i j:Nat}{x y:α}(e:(l.set i x)[j]?=some y):(i=j/\i<l.length/\y=x)\/(i≠j/\l[j]?=some y):=by
 rw[h8]at e;by_cases rQ:i=j
 ·rw[ab rQ]at e;by_cases hl:i<l.length
  ·rw[ab hl]at e;exact .inl ⟨rQ,hl,(Option.some.inj e).symm⟩
  ·rw[ae hl]at e;cases e
 ·rw[ae rQ]at e;exact .inr ⟨rQ,e⟩
theorem bg.set {v:V}{t:Tr}(h:bg K B H σ ρ)(i:Nat)(r:Rep K (aN B H) v t):bg K B H (σ.set i (some v)) (ρ.set i (.sh t)):=by
 refine⟨by rw[gs,gs];exact h.len,fun j u e=>?_,fun j us e=>?_,fun j k us ws D UZ e1 e2 e3=>?_⟩
 ·rcases gj e with⟨rfl,hl,q⟩|⟨rQ,q⟩
  ·cases q;exact⟨v,by rw[h8,ab rfl,ab (by rw[<-h.len];exact hl)],r⟩
  ·obtain⟨w,e1,r1⟩:=h.sh j u q;exact⟨w,by rw[h8,ae rQ];exact e1,r1⟩
 ·rcases gj e with⟨rfl,hl,q⟩|⟨rQ,q⟩
  ·cases q
  ·obtain⟨D,ys,e1,r1⟩:=h.ow j us q;exact⟨D,ys,by rw[h8,ae rQ];exact e1,r1⟩
 ·rcases gj e1 with⟨rfl,hl,q⟩|⟨rQ,q⟩
  ·cases q
  ·rcases gj e2 with⟨rfl,hl,q2⟩|⟨O3,q2⟩
   ·cases q2
   ·rw[h8,ae rQ]at e3;rw[h8,ae O3];exact h.ap j k us ws D UZ q q2 e3
end
def startT(n:Nat)(ts:List Tr):az:=ts.map Cell.sh++List.replicate (n - ts.length) .no
theorem ka{n i:Nat}{ts:List Tr}{c:Cell}(e:(startT n ts)[i]?=some c):c=.no\/∃t,ts[i]?=some t/\c=.sh t:=by
 unfold startT at e;by_cases hi:i<ts.length
 ·rw[ck (by rw[ai];exact hi),aU]at e;cases q:ts[i]? with
  |none=>rw[q]at e;cases e
  |some u=>rw[q]at e;exact .inr ⟨u,rfl,(Option.some.inj e).symm⟩
 ·rw[d_ (by rw[ai];omega),ly]at e;split at e
  ·exact .inl (Option.some.inj e).symm
  ·cases e
theorem bg.start {K:PySem.W.Frag}{B:bQ}{H:Hp}{N:List Str}{vs:List V}{ts:List Tr}(h:aJ K (aN B H) vs ts):bg K B H (start N vs) (startT N.length ts):=by
 have hl:=h.length;refine⟨by unfold L2.start startT;simp only[bj,ai,lB];omega,fun i t e=>?_,fun i us e=>?_,fun i j us ws D _ e _ _=>?_⟩
 ·rcases ka e with q|⟨u,q,q2⟩
  ·cases q
  ·cases q2;obtain⟨v,e1,r⟩:=h.get q;have hi:i<vs.length:=(cX.mp e1).1;refine⟨v,?_,r⟩;unfold L2.start;rw[ck (by rw[ai];exact hi),aU,e1]
   rfl
 ·rcases ka e with q|⟨u,q,q2⟩
  ·cases q
  ·cases q2
 ·rcases ka e with q|⟨u,q,q2⟩
  ·cases q
  ·cases q2
def isStar:Expr->Bool
 |.Starred .. =>true
 |_=>false
theorem aX{e:Expr}(es:List Expr)(env:Env)(h:isStar e=false):starEach (e::es) env=(false,eval e env)::starEach es env:=by
 cases e<;>first|rfl|cases h
def ba(es:List Expr):Bool:=es.all fun e=>!isStar e
theorem cb{pos:Pos}{env:Env}:∀{es:List Expr},ba es=true->(backTo pos (starEach es env)).any (·.1)=false
 |[],_=>by rw[starEach];rfl
 |e::es,h=>by
  unfold ba at h;rw[fE,aK]at h;have h1:isStar e=false:=by simpa using h.1
  rw[aX es env h1];exact cb (es:=es) h.2
theorem md{pos:Pos}{env:Env}:∀{es:List Expr},ba es=true->(backTo pos (starEach es env)).all (fun x=>!x.1)=true
 |[],_=>by rw[starEach];rfl
 |e::es,h=>by
  unfold ba at h;rw[fE,aK]at h;have h1:isStar e=false:=by simpa using h.1
  rw[aX es env h1];exact md (es:=es) h.2
theorem aG{e:Expr}{es:List Expr}(h:ba (e::es)=true):isStar e=false/\ba es=true:=by
 unfold ba at h;rw[fE,aK]at h;exact⟨by simpa using h.1,h.2⟩
def kK:Expr->Bool
 |.ListComp .. =>true
 |.SetComp .. =>true
 |.DictComp .. =>true
 |_=>false
theorem qB{e:Expr}{t:Option Expr}{n:Nat}{env:Env}(h:kK e=false):swapsWith e t n env=pure false:=by
 cases e<;>first|rfl|cases h
def iB:Expr->Bool
 |.UnaryOp .. =>false
 |.BoolOp .. =>false
 |.IfExp .. =>false
 |.Compare .. =>false
 |_=>true
theorem qC{e:Expr}{env:Env}(h:iB e=true):∀whole,isTrue e env whole=(do let v<-whole;standAt e.pos;holding [v] (truthy v)):=by
 intro whole;cases e<;>first|rfl|cases h
def isSet:Expr->Bool
 |.Set .. =>true
 |_=>false
theorem dY{e:Expr}{env:Env}(h:isSet e=false):∀x,foldedSetIterable e env x=pure x:=by
 intro x;cases e<;>first|rfl|cases h
def isCall:Expr->Bool
 |.Call .. =>true
 |_=>false
theorem uq{o:Expr}{x:Str}{env:Env}{w:Sem Value}(h:isCall o=false):attributeBase o x env w=w:=by
 cases o<;>first|rfl|cases h
inductive tP(X:Cx)(F:az->Rs Tr)(σ:St)(H:Hp)(Q:VK):Prop
 |mk (B:bQ) (ρ:az):HB B H->bg X.K B H σ ρ->(Fi X H (F ρ) fun t=>∀v H',au H H'->Rep X.K (aN B H') v t->Q v H')->tP X F σ H Q
inductive tQ(X:Cx)(F:az->Rs Bool)(σ:St)(H:Hp)(Q:Bool->Hp->Prop):Prop
 |mk (B:bQ) (ρ:az):HB B H->bg X.K B H σ ρ->(Fi X H (F ρ) fun b=>∀H',au H H'->Q b H')->tQ X F σ H Q
inductive yV(X:Cx)(F:az->Rs (List Tr))(σ:St)(H:Hp)(Q:List V->Hp->Prop):Prop
 |mk (B:bQ) (ρ:az):HB B H->bg X.K B H σ ρ->(Fi X H (F ρ) fun ts=>∀vs H',au H H'->aJ X.K (aN B H') vs ts->Q vs H')->yV X F σ H Q
inductive Out where
 |nx (ρ:az)|ret (t:Tr)|bk (ρ:az)|ct (ρ:az)
structure cG(C B0:bQ)(H0:Hp)(B:bQ)(H:Hp):Prop where
 kp:∀b o,C b=true->H0 b=some o->H b=some o
 fY:cv (aN B0 H0) (aN B H)
 sub:nO C B
 hb:HB B H
section
variable {C B0 B B1 B2:bQ}{H0 H H' H1 H2:Hp}
theorem cG.go (h:cG C B0 H0 B H)(s:au H H'):cG C B0 H0 B H':=⟨fun b o c e=>s _ _ (h.kp b o c e),h.fY.trans (aZ s),h.sub,h.hb.same s⟩
theorem nO.refl:nO B B:=⟨fun _ e=>e,fun _ _ e=>e⟩
theorem cG.refl (h:HB B H)(c:nO C B):cG C B H B H:=⟨fun _ _ _ e=>e,cv.refl _,c,h⟩
theorem cG.trans (h:cG C B0 H0 B1 H1)(q:cG C B1 H1 B2 H2):cG C B0 H0 B2 H2:=⟨fun b o c e=>q.kp b o c (h.kp b o c e),h.fY.trans q.fY,q.sub,q.hb⟩
theorem cG.same (h:cG C C H0 B H):au H0 H:=fun b o e=>by
 cases q:C b with
 |true=>exact h.kp b o q e
 |false=>exact aE _ _ (h.fY.h b o (by rw[cC q];exact e))
end
def Iq(X:Cx)(D:Ends)(C B0:bQ)(H0:Hp):Out->Prop
 |.nx ρ=>∀bP B' H',cG C B0 H0 B' H'->bg X.K B' H' bP ρ->D.nx bP H'
 |.ret t=>∀v B' H',cG C B0 H0 B' H'->Rep X.K (aN C H') v t->D.rt v H'
 |.bk ρ=>∀bP B' H',cG C B0 H0 B' H'->bg X.K B' H' bP ρ->D.bk bP H'
 |.ct ρ=>∀bP B' H',cG C B0 H0 B' H'->bg X.K B' H' bP ρ->D.ct bP H'
def xS(X:Cx)(C B0:bQ)(H0:Hp):Tr->Prop:=fun c=>∀B' H',cG C B0 H0 B' H'->XA X c H'
inductive tS(X:Cx)(G:az->Rs Out)(D:Ends)(σ:St)(H:Hp):Prop
 |mk (C:bQ) (B0:bQ) (H0:Hp) (B:bQ) (ρ:az):cG C B0 H0 B H->bg X.K B H σ ρ->kZ (xS X C B0 H0) (G ρ) (Iq X D C B0 H0)->tS X G D σ H
theorem PE.weak {X:Cx}{e:Expr}{t t':TE}(h:PE X e t)(w:∀σ H Q,t' σ H Q->t σ H Q):PE X e t':=fun pins s σ H Q I q=>h pins s σ H Q I (w σ H Q q)
theorem PT.weak {X:Cx}{e:Expr}{t t':TT}(h:PT X e t)(w:∀σ H Q,t' σ H Q->t σ H Q):PT X e t':=fun pins s σ H Q I q=>h pins s σ H Q I (w σ H Q q)
theorem PW.weak {X:Cx}{e:Expr}{t t':TT}(h:PW X e t)(w:∀σ H Q,t' σ H Q->t σ H Q):PW X e t':=fun wh pins s σ H Q I q=>h wh pins s σ H Q I (w σ H Q q)
theorem PA.weak {X:Cx}{es:List Expr}{t t':TA}(h:PA X es t)(w:∀σ H Q,t' σ H Q->t σ H Q):PA X es t':=fun pos pins s σ H Q I q=>h pos pins s σ H Q I (w σ H Q q)
theorem PS.weak {X:Cx}{st:Stmt}{t t':TS}(h:PS X st t)(w:∀D σ H,t' D σ H->t D σ H):PS X st t':=fun pins s σ H D I q=>h pins s σ H D I (w D σ H q)
theorem jB.weak {X:Cx}{st:List Stmt}{t t':TS}(h:jB X st t)(w:∀D σ H,t' D σ H->t D σ H):jB X st t':=fun pins s σ H D I q=>h pins s σ H D I (w D σ H q)
def ay(ρ:az)(i:Nat):Rs Tr:=match ρ[i]? with
 |some (.sh t)=>.ok t
 |_=>.bad
theorem vL{X:Cx}{B:bQ}{σ:St}{H:Hp}{ρ:az}{i:Nat}{k:Tr->Prop}(r:bg X.K B H σ ρ)(h:Fi X H (ay ρ i) k):∃v t,σ[i]?=some (some v)/\Rep X.K (aN B H) v t/\k t:=by
 unfold ay at h;split at h
 ·rename_i t e;obtain⟨v,e1,r1⟩:=r.sh i t e;exact⟨v,t,e1,r1,h⟩
 ·exact h.elim
section
variable {X:Cx}{a b c:Expr}{pos:Pos}{F G E:az->Rs Tr}
theorem L8(i:Nat){x:Str}{pos:Pos}(hN:X.N[i]?=some x:=by rfl) (hv:Hn X.env.scope x:=by first|exact Or.inl rfl|exact Or.inr (Or.inl rfl)|exact Or.inr (Or.inr rfl)) (hd:(x==("__debug__":Str))=false:=by decide)
  (n6:(x==("__classdict__":Str))=false:=by decide):PE X (.Name x pos) (tP X fun ρ=>ay ρ i):=
 (BK hN hv hd n6).weak fun σ H Q ⟨B,ρ,hb,r,q⟩=>by
  obtain⟨v,t,e,r1,k⟩:=vL r q;exact⟨v,e,k v H (au.refl H) r1⟩
theorem yW{v:V}{t:Tr}{e:Expr}(h:PE X e (tC v))(r:∀H,Rep X.K H v t):PE X e (tP X fun _=>.ok t):=
 h.weak fun σ H Q ⟨B,ρ,_,_,q⟩=>q v H (au.refl H) (r _)
theorem L9{i:Int}{j pos}:PE X (.Constant (.int i) j pos) (tP X fun _=>.ok (.int i)):=yW Hq fun H=>.int i
theorem Q7{b:Bool}{j pos}:PE X (.Constant (.bool b) j pos) (tP X fun _=>.ok (.bl b)):=yW Ln fun H=>.bl b
theorem L_{j pos}:PE X (.Constant .none j pos) (tP X fun _=>.ok .cg):=yW Hr fun H=>.cg
theorem Q8{x:Str}{n:String}(hm:X.mg x=none)(hv:bootBuiltins x=some (.type n):=by rfl) (hg:Gl X x:=by rfl) (hn:x≠"__name__":=by decide) (hd:(x==("__debug__":Str))=false:=by decide):PE X (.Name x pos) (tP X fun _=>.ok (.ty n)):=
 yW (Ei (v:=.ty n) hg hm hv rfl hn hd) fun H=>.ty n
def cq(h:Tr->Tr->Rs Tr)(a b:Rs Tr):Rs Tr:=a.bind fun x=>b.bind fun y=>h x y
inductive rT(X:Cx)(h:Tr->Tr->Rs Tr)(x:V)(y:V)(H:Hp)(Q:VK):Prop
 |mk (B:bQ) (tx:Tr) (ty:Tr):HB B H->Rep X.K (aN B H) x tx->Rep X.K (aN B H) y ty->(Fi X H (h tx ty) fun t=>∀v H',au H H'->Rep X.K (aN B H') v t->Q v H')->rT X h x y H Q
abbrev xm(X:Cx)(f:Value->Value->Sem Value)(h:Tr->Tr->Rs Tr):Prop:=rO X f (rT X h)
theorem jJ{h:Tr->Tr->Rs Tr}{σ:St}{H:Hp}{Q:VK}(q:tP X (fun ρ=>cq h (F ρ) (G ρ)) σ H Q):Ls (rT X h) (tP X F) (tP X G) σ H Q:=by
 obtain⟨B,ρ,hb,r,q⟩:=q;refine⟨B,ρ,hb,r,q.bind.mono fun x qx v H1 s1 r1=>⟨B,ρ,hb.same s1,r.same s1,(qx.bind.same s1).mono fun y qy u H2 s2 r2=>⟨B,x,y,(hb.same s1).same s2,r1.same (aZ s2),r2,?_⟩⟩⟩;exact(qy.same (s1.trans s2)).mono fun t qt w H3 s3 r3=>qt w H3 ((s1.trans s2).trans s3) r3
theorem Ma{op:Operator}{h:Tr->Tr->Rs Tr}(ho:xm X (binaryOp op) h)(ha:PE X a (tP X F))(hb:PE X b (tP X G)):PE X (.BinOp a op b pos) (tP X fun ρ=>cq h (F ρ) (G ρ)):=
 (Lw ho ha hb).weak fun _ _ _ q=>jJ q
theorem Mb{op:CmpOp}{h:Tr->Tr->Rs Tr}(ho:xm X (compareOp op) h)(ha:PE X a (tP X F))(hb:PE X b (tP X G))(hm:behindInMarks op b=false:=by first|exact uf _|rfl|with_unfolding_all rfl):PE X (.Compare a [op] [b] pos) (tP X fun ρ=>cq h (F ρ) (G ρ)):=
 (En ho ha hb hm).weak fun _ _ _ q=>jJ q
def gk(r:Rs Tr):Rs Bool:=r.bind fun t=>match t with
 |.bl b=>.ok b
 |_=>.bad
theorem Rep.ur {K:PySem.W.Frag}{H:Vw}{v:V}{b:Bool}(h:Rep K H v (.bl b)):v=.bl b:=by cases h;rfl
theorem f_{K:PySem.W.Frag}{W:Vw}{xs:List V}{t:Tr}(r:aJ K W xs [t]):∃x,xs=[x]/\Rep K W x t:=by
 cases r with
 |cons a r=>cases r;exact⟨_,rfl,a⟩
theorem qE{K:PySem.W.Frag}{W:Vw}{xs:List V}{t u:Tr}(r:aJ K W xs [t,u]):∃x y,xs=[x,y]/\Rep K W x t/\Rep K W y u:=by
 cases r with
 |cons a r=>
  obtain⟨y,rfl,b⟩:=f_ r;exact⟨_,_,rfl,a,b⟩
theorem Rep.yX {K:PySem.W.Frag}{H:Vw}{v:V}{ns:List Int}(h:Rep K H v (.jd ns)):∃a,v=.ref a/\iw K H.H a (ns.map V.int):=by cases h;exact⟨_,rfl,by assumption⟩
theorem Rep.EK {K:PySem.W.Frag}{H:Vw}{v:V}{aC:List (Key×Tr)}(h:Rep K H v (.jI aC)):∃a av,v=.ref a/\Rd H.H a (.dK av)/\av.map (·.1)=aC.map (·.1)/\aJ K H (av.map (·.2)) (aC.map (·.2)):=by cases h;exact⟨_,_,rfl,by assumption,by assumption,by assumption⟩
theorem Rep.uu {K:PySem.W.Frag}{H:Vw}{v:V}{i:Nat}(h:Rep K H v (.at i)):∃a,v=.ref a/\H.ix a=some i:=by cases h;exact⟨_,rfl,by assumption⟩
theorem Rep.EL {K:PySem.W.Frag}{H:Vw}{v:V}(h:Rep K H v .cg):v=.cg:=by cases h;rfl
theorem Rep.int_inv {K:PySem.W.Frag}{H:Vw}{v:V}{i:Int}(h:Rep K H v (.int i)):v=.int i:=by cases h;rfl
theorem Rep.str_inv {K:PySem.W.Frag}{H:Vw}{v:V}{z:Str}(h:Rep K H v (.str z)):v=.str z/\z.length<=iA:=by cases h;exact⟨rfl,by assumption⟩
theorem Rep.cQ {K:PySem.W.Frag}{H:Vw}{v:V}{ts:List Tr}(h:Rep K H v (.tup ts)):∃a vs,v=.ref a/\gW K H.H a vs/\aJ K H vs ts:=by cases h;exact⟨_,_,rfl,.inl (.inl (by assumption)),by assumption⟩
theorem Rep.iV {K:PySem.W.Frag}{H:Vw}{v:V}{ts:List Tr}(h:Rep K H v (.tup ts)):∃a vs,v=.ref a/\H.H a=some (.tup vs)/\aJ K H vs ts:=by cases h;exact⟨_,_,rfl,by assumption,by assumption⟩
theorem Q9{K:PySem.W.Frag}{H:Hp}{a:Addr}{vs:List V}(h:H a=some (.tup vs)):gW K H a vs:=.inl (.inl h)
theorem Rep.lst_inv {K:PySem.W.Frag}{H:Vw}{v:V}{ts:List Tr}(h:Rep K H v (.lst ts)):∃a vs,v=.ref a/\H.H a=some (.lst vs)/\aJ K H vs ts:=by cases h;exact⟨_,_,rfl,by assumption,by assumption⟩
theorem EM{H:Hp}{r:Rs Tr}{k:Bool->Prop}(h:Fi X H (gk r) k):Fi X H r fun t=>∃b,t=.bl b/\k b:=by
 refine h.bind.mono fun t q=>?_
 cases t with
 |bl b=>exact⟨b,rfl,q⟩
 |_=>exact q.elim
theorem Mc{op:CmpOp}{h:Tr->Tr->Rs Tr}(ho:xm X (compareOp op) h)(ha:PE X a (tP X F))(hb:PE X b (tP X G))(hm:behindInMarks op b=false:=by first|exact uf _|rfl|with_unfolding_all rfl):PT X (.Compare a [op] [b] pos) (tQ X fun ρ=>gk (cq h (F ρ) (G ρ))):=
 (Eo ho ha hb hm).weak fun σ H Q ⟨B,ρ,hb,r,q⟩=>by
  refine jJ (Q:=fun x H'=>∃k,x=.bl k/\Q k H') ⟨B,ρ,hb,r,(EM q).mono fun t qt v H' s' r'=>?_⟩;obtain⟨b,rfl,k⟩:=qt;exact⟨b,r'.ur,k H' s'⟩
def m5:Tr->Rs Bool
 |.cg=>.ok false
 |.bl b=>.ok b
 |.int i=>.ok (i !=0)
 |.str z=>.ok ((z.length:Int) !=0)
 |.tup ts=>.ok (!ts.isEmpty)
 |.lst ts=>.ok (!ts.isEmpty)
 |.jI aC=>.ok (!aC.isEmpty)
 |_=>.bad
theorem aJ.isEmpty {K:PySem.W.Frag}{H:Vw}{vs:List V}{ts:List Tr}(h:aJ K H vs ts):vs.isEmpty=ts.isEmpty:=by cases h<;>rfl
theorem oG:iA<=sizeLine:=by rw[bS];decide
theorem EN{K:PySem.W.Frag}{H:Vw}{v:V}{t:Tr}{b:Bool}(r:Rep K H v t)(e:m5 t=.ok b):Ep K v H b:=by
 cases r with
 |cg=>cases e;rfl
 |bl c=>cases e;rfl
 |int i=>cases e;rfl
 |str z h=>cases e;exact⟨bt h oG,rfl⟩
 |ty n=>cases e
 |tup h r=>cases e;exact .inr (.inl ⟨_,.inl (.inl h),by rw[r.isEmpty]⟩)
 |lst h r=>cases e;exact .inl ⟨_,.of h,by rw[r.isEmpty]⟩
 |jd h=>cases e
 |«at» h=>cases e
 |bf h e1 rr=>cases e
 |ob h e1 rr=>cases e
 |yU h c=>cases e
 |jI h e1 r=>
  cases e;refine .inr (.inr ⟨_,h,?_⟩);rename_i av aC;cases av<;>cases aC<;>first|rfl|cases e1
theorem qF{H:Vw}{v:V}{t:Tr}{k:Bool->Prop}(r:Rep X.K H v t)(h:Fi X H (m5 t) k):∃b,Ep X.K v H b/\k b:=by
 cases e:m5 t with
 |ok b=>rw[e]at h;exact⟨b,EN r e,h⟩
 |exc c=>cases t<;>cases e
 |bad=>rw[e]at h;exact h.elim
theorem Md(ha:PE X a (tP X F))(he:iB a=true:=by rfl):PT X a (tQ X fun ρ=>(F ρ).bind m5):=
 (vz ha (qC he)).weak fun σ H Q ⟨B,ρ,hb,r,q⟩=>⟨B,ρ,hb,r,q.bind.mono fun t qt v H' s' r'=>by
  obtain⟨b,h1,h2⟩:=qF (r'.same oF) (qt.same s');exact⟨b,h1,h2 H' s'⟩⟩
def Me(r:Rs Bool):Rs Bool:=r.bind fun b=>.ok (!b)
variable {A B:az->Rs Bool}{rest:List Expr}
theorem Mf(ha:PT X a (tQ X A)):PT X (.UnaryOp .Not a pos) (tQ X fun ρ=>Me (A ρ)):=
 (BL ha).weak fun σ H Q ⟨B,ρ,hb,r,q⟩=>⟨B,ρ,hb,r,q.bind⟩
def EO(a b:Rs Bool):Rs Bool:=a.bind fun c=>if c then b else .ok false
def O4(a b:Rs Bool):Rs Bool:=a.bind fun c=>if c then .ok true else b
theorem Ir(ha:PT X a (tQ X A)):PW X (.BoolOp .And [a] pos) (tQ X A):=pw_and1 ha
theorem Mg(ha:PT X a (tQ X A)):PW X (.BoolOp .Or [a] pos) (tQ X A):=pw_or1 ha
theorem w_and(ha:PT X a (tQ X A))(hb:PW X (.BoolOp .And (b::rest) pos) (tQ X B)):PW X (.BoolOp .And (a::b::rest) pos) (tQ X fun ρ=>EO (A ρ) (B ρ)):=
 (pw_and ha hb).weak fun σ H Q ⟨Bb,ρ,hb,r,q⟩=>⟨Bb,ρ,hb,r,q.bind.mono fun c qc H1 s1=>by
  cases c with
  |true=>exact⟨Bb,ρ,hb.same s1,r.same s1,(Fi.same qc s1).mono fun b qb H2 s2=>qb H2 (s1.trans s2)⟩
  |false=>exact qc H1 s1⟩
theorem w_or(ha:PT X a (tQ X A))(hb:PW X (.BoolOp .Or (b::rest) pos) (tQ X B)):PW X (.BoolOp .Or (a::b::rest) pos) (tQ X fun ρ=>O4 (A ρ) (B ρ)):=
 (pw_or ha hb).weak fun σ H Q ⟨Bb,ρ,hb,r,q⟩=>⟨Bb,ρ,hb,r,q.bind.mono fun c qc H1 s1=>by
  cases c with
  |false=>exact⟨Bb,ρ,hb.same s1,r.same s1,(Fi.same qc s1).mono fun b qb H2 s2=>qb H2 (s1.trans s2)⟩
  |true=>exact qc H1 s1⟩
theorem Iu{op}{es:List Expr}(h:PW X (.BoolOp op es pos) (tQ X A)):PT X (.BoolOp op es pos) (tQ X A):=h.pt
def Iv(a b:Rs Tr):Rs Tr:=a.bind fun t=>(m5 t).bind fun c=>if c then b else .ok t
theorem Mh(ha:PE X a (tP X F))(hb:PE X (.BoolOp .And (b::rest) pos) (tP X G)):PE X (.BoolOp .And (a::b::rest) pos) (tP X fun ρ=>Iv (F ρ) (G ρ)):=by
 intro pins s σ H Q I ⟨B,ρ,hB,r,q⟩;refine BoolOp_and (du (ha pins s σ H _ I ⟨B,ρ,hB,r,q.bind.mono fun t qt v H1 s1 r1=>(show∃t,Rep X.K (aN B H1) v t/\au H H1/\Fi X H ((m5 t).bind fun c=>if c then G ρ else .ok t) (fun t=>∀v H',au H H'->Rep X.K (aN B H') v t->Q v H')from⟨t,r1,s1,qt⟩)⟩) fun v s1 ⟨x,H1,I1,r1,t,rt,sm,qt⟩=>?_);obtain⟨c,h1,h2⟩:=qF (rt.same oF) (qt.bind.same sm);refine du (BW pins s1 σ H1 x v (fun k H'=>k=c/\H'=H1) I1 r1 ⟨c,h1,rfl,rfl⟩) fun k s2 ⟨H2,I2,e1,e2⟩=>?_
 subst e1 e2;cases k with
 |true=>exact hb pins s2 σ _ Q I2 ⟨B,ρ,hB.same sm,r.same sm,(Fi.same h2 sm).mono fun t q v H' s' r'=>q v H' (sm.trans s') r'⟩
 |false=>exact⟨x,_,I2,r1,h2 x _ sm rt⟩
theorem Mi{op}(h:PE X a (tP X F)):PE X (.BoolOp op [a] pos) (tP X F):=Hs h
variable {es:List Expr}{L:az->Rs (List Tr)}
def ag(a:Rs Tr)(l:Rs (List Tr)):Rs (List Tr):=a.bind fun x=>l.bind fun xs=>.ok (x::xs)
theorem Gn:PA X [] (yV X fun _=>.ok []):=kG.weak fun σ H Q ⟨B,ρ,hb,r,q⟩=>q [] H (au.refl H) .nil
theorem Cm(ha:PE X a (tP X F))(hr:PA X es (yV X L))(hs:isStar a=false:=by rfl):PA X (a::es) (yV X fun ρ=>ag (F ρ) (L ρ)):=
 (iS ha hr (aX _ _ hs)).weak fun σ H Q ⟨B,ρ,hb,r,q⟩=>⟨B,ρ,hb,r,q.bind.mono fun x qx v H1 s1 r1=>⟨B,ρ,hb.same s1,r.same s1,(qx.bind.same s1).mono fun xs qs vs H2 s2 r2=>qs _ H2 (s1.trans s2) (.cons (r1.same (aZ s2)) r2)⟩⟩
def i3:Nat:=16777216
theorem g_:i3=sizeLine:=bS.symm
def iW(l:Rs (List Tr)):Rs Tr:=l.bind fun ts=>if ts.length<=i3 then .ok (.tup ts)else .bad
def xI(l:Rs (List Tr)):Rs Tr:=l.bind fun ts=>if ts.length<=i3 then .ok (.lst ts)else .bad
theorem Mj{x1}(h:PA X es (yV X L)):PE X (.Tuple es x1 pos) (tP X fun ρ=>iW (L ρ)):=
 (BX h).weak fun σ H Q ⟨B,ρ,hb,r,q⟩=>⟨B,ρ,hb,r,q.bind.mono fun ts qt vs H1 s1 r1=>by
  by_cases hz:ts.length<=i3
  ·rw[ab hz]at qt;refine⟨by rw[r1.length,<-g_];exact hz,fun p hp=>qt (.ref p) _ (s1.Io (s1.free hp)) (.tup ((hb.same s1).new hp) (r1.same (aZ (au.upd hp))))⟩
  ·rw[ae hz]at qt;exact qt.elim⟩
def aI(h:List Tr->Rs Tr)(l:Rs (List Tr)):Rs Tr:=l.bind h
inductive rC(X:Cx)(h:List Tr->Rs Tr)(xs:List V)(H:Hp)(Q:VK):Prop
 |mk (B:bQ) (ts:List Tr):HB B H->aJ X.K (aN B H) xs ts->(Fi X H (h ts) fun t=>∀v H',au H H'->Rep X.K (aN B H') v t->Q v H')->rC X h xs H Q
abbrev iC(X:Cx)(f:Value)(h:List Tr->Rs Tr):Prop:=gE X f (rC X h)
theorem sH{h:List Tr->Rs Tr}{σ:St}{H:Hp}{Q:VK}(q:tP X (fun ρ=>aI h (L ρ)) σ H Q):OT (rC X h) (yV X L) σ H Q:=by
 obtain⟨B,ρ,hb,r,q⟩:=q;exact⟨B,ρ,hb,r,q.bind.mono fun ts qt vs H1 s1 r1=>⟨B,ts,hb.same s1,r1,(qt.same s1).mono fun t qt v H2 s2 r2=>qt v H2 (s1.trans s2) r2⟩⟩
theorem ER{id:String}{x:Str}{p:Pos}{e:Expr}{h:List Tr->Rs Tr}(hc:iC X (.builtin id) h)(hm:X.mg x=none)(ha:PA X (e::es) (yV X L))(hv:bootBuiltins x=some (.builtin id):=by rfl) (hg:Gl X x:=by rfl) (hn:x≠"__name__":=by decide) (iT:(x==("__debug__":Str))=false:=by decide)
  (cZ:ba (e::es)=true:=by rfl):PE X (.Call (.Name x p) (e::es) [] pos) (tP X fun ρ=>aI h (L ρ)):=
 (vB hc hg hm hv ha hn iT (aX _ _ (aG cZ).1) (cb (aG cZ).2)).weak fun _ _ _ q=>sH q
theorem Cn{T:String}{x:Str}{p:Pos}{e:Expr}{h:List Tr->Rs Tr}(hc:iC X (.type T) h)(hm:X.mg x=none)(ha:PA X (e::es) (yV X L))(hv:bootBuiltins x=some (.type T):=by rfl) (hg:Gl X x:=by rfl) (hn:x≠"__name__":=by decide) (iT:(x==("__debug__":Str))=false:=by decide)
  (cZ:ba (e::es)=true:=by rfl):PE X (.Call (.Name x p) (e::es) [] pos) (tP X fun ρ=>aI h (L ρ)):=
 (iz hc hg hm hv ha hn iT (aX _ _ (aG cZ).1) (cb (aG cZ).2)).weak fun _ _ _ q=>sH q
inductive spT(K:PySem.W.Frag)(f:List Tr->Rs Tr)(vs:List V)(H:Hp)(Q:VK)(_w3:XK):Prop
 |mk (B:bQ) (ts:List Tr):HB B H->aJ K (aN B H) vs ts->(∃t,f ts=.ok t/\∀v H',au H H'->Rep K (aN B H') v t->Q v H')->spT K f vs H Q _w3
theorem Ml{x:Str}{st:Stmt}{ps:List Str}{f:Addr}{fd:FuncData}{k:Nat}{h:List Tr->Rs Tr}{e:Expr}{p:Pos}(D:sG X.K X.mg x st ps f fd)(G:fQ X.prog X.w X.K X.mg X.base kX k f fd ps (spT X.K h))(hr:de k X.A)
  (ha:PA X (e::es) (yV X L)) (hg:Gl X x:=by rfl) (iT:(x==("__debug__":Str))=false:=by decide) (cZ:ba (e::es)=true:=by rfl):PE X (.Call (.Name x p) (e::es) [] pos) (tP X fun ρ=>aI h (L ρ)):=
 (Ip D G hr ha hg iT (aX _ _ (aG cZ).1) (cb (aG cZ).2)).weak fun σ H Q ⟨B,ρ,hb,r,q⟩=>⟨B,ρ,hb,r,q.bind.mono fun ts qt vs H1 s1 r1=>by
  cases e:h ts with
  |ok t=>rw[e]at qt;exact⟨B,ts,hb.same s1,by rw[dw];exact r1,t,e,fun v H2 s2 r2=>qt v H2 (s1.trans s2) r2⟩
  |exc c=>rw[e]at qt;exact(qt _ (au.refl _)).elim
  |bad=>rw[e]at qt;exact qt.elim⟩
end
end L2
namespace L2
open PySem PySem.Spec PyProof.Rows
section
variable {X:Cx}{a b c e:Expr}{pos:Pos}{F:az->Rs Tr}{G G':az->Rs Out}{A:az->Rs Bool}{st:Stmt}{rest Mm:List Stmt}
def vM(r:Rs Out)(G:az->Rs Out):Rs Out:=r.bind fun o=>match o with
 |.nx ρ=>G ρ
 |.ret t=>.ok (.ret t)
 |.bk ρ=>.ok (.bk ρ)
 |.ct ρ=>.ok (.ct ρ)
theorem Mn:jB X [] (tS X fun ρ=>.ok (.nx ρ)):=yK.weak fun D σ H ⟨C,B0,H0,B,ρ,si,r,q⟩=>q σ B H si r
theorem Iw(h1:PS X st (tS X G))(h2:jB X rest (tS X G')):jB X (st::rest) (tS X fun ρ=>vM (G ρ) G'):=
 (vw h1 h2).weak fun D σ H ⟨C,B0,H0,B,ρ,si,r,q⟩=>⟨C,B0,H0,B,ρ,si,r,q.bind.mono fun o qo=>by
  cases o with
  |nx fh=>exact fun bP B' H' U0 r'=>⟨C,B0,H0,B',fh,U0,r',qo⟩
  |ret t=>exact qo
  |bk fh=>exact qo
  |ct fh=>exact qo⟩
theorem Mo(h1:PS X st (tS X G)):jB X [st] (tS X G):=yL h1
def Iy(i:Nat)(r:Rs Tr)(ρ:az):Rs Out:=r.bind fun t=>.ok (.nx (ρ.set i (.sh t)))
theorem kZ.here {α:Type}{C B0 B:bQ}{H0 H:Hp}{r:Rs α}{k:α->Prop}(h:kZ (xS X C B0 H0) r k)(si:cG C B0 H0 B H):Fi X H r k:=h.imp fun _ q H' s'=>q B H' (si.go s')
theorem Gp{C B0 B:bQ}{H0 H:Hp}{σ:St}{ρ:az}{k:Tr->Prop}(si:cG C B0 H0 B H)(r:bg X.K B H σ ρ)(q:kZ (xS X C B0 H0) (F ρ) k){Q:VK}(hq:∀t v H',k t->au H H'->cG C B0 H0 B H'->bg X.K B H' σ ρ->Rep X.K (aN B H') v t->Q v H'):tP X F σ H Q:=
 ⟨B,ρ,si.hb,r,(q.here si).mono fun t qt v H' s' r'=>hq t v H' qt s' (si.go s') (r.same s') r'⟩
theorem Mp{C B0 B:bQ}{H0 H:Hp}{σ:St}{ρ:az}{k:Bool->Prop}(si:cG C B0 H0 B H)(r:bg X.K B H σ ρ)(q:kZ (xS X C B0 H0) (A ρ) k){Q:Bool->Hp->Prop}(hq:∀b H',k b->au H H'->cG C B0 H0 B H'->bg X.K B H' σ ρ->Q b H'):tQ X A σ H Q:=
 ⟨B,ρ,si.hb,r,(q.here si).mono fun b qb H' s'=>hq b H' qb s' (si.go s') (r.same s')⟩
theorem Rep.out {K:PySem.W.Frag}{C B0 B:bQ}{H0 H:Hp}{v:V}{t:Tr}(r:Rep K (aN B H) v t)(si:cG C B0 H0 B H):Rep K (aN C H) v t:=r.same (qA si.sub)
theorem Mq{i:Nat}{x:Str}{pos':Pos}(he:PE X e (tP X F))(hN:X.N.Nodup:=by assumption) (hi:X.N[i]?=some x:=by rfl) (hx:Loc X.env.scope x:=by first|exact Or.inl rfl|exact Or.inr rfl) (hs:kK e=false:=by rfl) (hf:X.fn x=true\/X.env.scope.names.lookup x=some .local:=by first|exact .inl rfl|exact .inr rfl|assumption):
  PS X (.Assign [.Name x pos'] e pos) (tS X fun ρ=>Iy i (F ρ) ρ):=
 (BQ hN hi hx he (qB hs) hf).weak fun D σ H ⟨C,B0,H0,B,ρ,si,r,q⟩=>Gp si r q.bind fun t v H1 qt s1 Iz r1 rv=>qt _ B H1 Iz (r1.set i rv)
def oa(r:Rs Tr):Rs Out:=r.bind fun t=>.ok (.ret t)
theorem Mr(he:PE X e (tP X F)):PS X (.Return (some e) pos) (tS X fun ρ=>oa (F ρ)):=
 (BN he).weak fun D σ H ⟨C,B0,H0,B,ρ,si,r,q⟩=>Gp si r q.bind fun t v H1 qt s1 Iz r1 rv=>qt v B H1 Iz (rv.out Iz)
def Ms(c:Rs Bool)(a b:Rs Out):Rs Out:=c.bind fun k=>if k then a else b
theorem Q_{ys ns:List Stmt}(hc:PT X c (tQ X A))(ha:jB X ys (tS X G))(hb:jB X ns (tS X G')):PS X (.If c ys ns pos) (tS X fun ρ=>Ms (A ρ) (G ρ) (G' ρ)):=
 (F_ hc ha hb).weak fun D σ H ⟨C,B0,H0,B,ρ,si,r,q⟩=>Mp si r q.bind fun k H1 qk s1 Iz r1=>by
  cases k with
  |true=>exact Ii ⟨C,B0,H0,B,ρ,Iz,r1,qk⟩
  |false=>exact Ih ⟨C,B0,H0,B,ρ,Iz,r1,qk⟩
abbrev kL:=Tr->az->Rs az
inductive tG(X:Cx)(T:kL)(v:V)(σ:St)(H:Hp)(Q:St->Hp->Prop):Prop
 |mk (B:bQ) (ρ:az) (t:Tr):HB B H->bg X.K B H σ ρ->Rep X.K (aN B H) v t->(Fi X H (T t ρ) fun fh=>∀bP H',au H H'->bg X.K B H' bP fh->Q bP H')->tG X T v σ H Q
def gN(i:Nat):kL:=fun t ρ=>.ok (ρ.set i (.sh t))
theorem IA(i:Nat){x:Str}(hN:X.N.Nodup:=by assumption) (hi:X.N[i]?=some x:=by rfl) (hx:Loc X.env.scope x:=by first|exact Or.inl rfl|exact Or.inr rfl) (hf:X.fn x=true\/X.env.scope.names.lookup x=some .local:=by first|exact .inl rfl|exact .inr rfl|assumption):PG X (.Name x pos) (tG X (gN i)):=by
 intro pins s σ H v u Q I r ⟨B,ρ,t,hb,rs,rt,q⟩;exact ue hN hi hx hf pins s σ H v u Q I r (q _ H (au.refl H) (rs.set i rt))
def xJ:List Nat->List Tr->az->Rs az
 |[],[],ρ=>.ok ρ
 |i::is,t::ts,ρ=>xJ is ts (ρ.set i (.sh t))
 |_,_,_=>.bad
inductive KD(X:Cx)(T:List Tr->az->Rs az)(vs:List V)(σ:St)(H:Hp)(Q:St->Hp->Prop):Prop
 |mk (B:bQ) (ρ:az) (ts:List Tr):HB B H->bg X.K B H σ ρ->aJ X.K (aN B H) vs ts->(Fi X H (T ts ρ) fun fh=>∀bP H',au H H'->bg X.K B H' bP fh->Q bP H')->KD X T vs σ H Q
theorem Mt:Ek X [] (KD X (xJ [])):=by
 intro pins s σ H vs us Q I r ⟨B,ρ,ts,hb,rs,rt,q⟩
 match ts,rt,q with
 |[],.nil,q=>exact El pins s σ H [] us Q I r ⟨rfl,q σ H (au.refl H) rs⟩
 |_::_,_,q=>exact q.elim
theorem IB{es:List Expr}{i:Nat}{is:List Nat}{x:Str}(h2:Ek X es (KD X (xJ is)))(hN:X.N.Nodup:=by assumption) (hi:X.N[i]?=some x:=by rfl) (hx:Loc X.env.scope x:=by first|exact Or.inl rfl|exact Or.inr rfl) (hf:X.fn x=true\/X.env.scope.names.lookup x=some .local:=by first|exact .inl rfl|exact .inr rfl|assumption)
  (hs:(assignEach (.Name x pos::es) X.env).map (·.2)=assign (.Name x pos) X.env::(assignEach es X.env).map (·.2):=by rfl):Ek X (.Name x pos::es) (KD X (xJ (i::is))):=by
 intro pins s σ H vs us Q I r ⟨B,ρ,ts,hb,rs,rt,q⟩
 match ts,rt,q with
 |[],_,q=>exact q.elim
 |t::ts,.cons r1 r2,q=>
  exact BP (ue hN hi hx hf) h2 hs pins s σ H _ us Q I r ⟨_,_,rfl,⟨B,_,ts,hb,rs.set i r1,r2,q⟩⟩
def gT(is:List Nat):kL:=fun t ρ=>match t with
 |.tup ts=>xJ is ts ρ
 |_=>.bad
theorem yY:∀{is:List Nat} {ts:List Tr} {ρ fh:az},xJ is ts ρ=.ok fh->ts.length=is.length
 |[],[],_,_,_=>rfl
 |[],_::_,_,_,h=>by cases h
 |_::_,[],_,_,h=>by cases h
 |_::is,_::ts,_,_,h=>by rw[bp,bp,yY (is:=is) (ts:=ts) h]
theorem sI:∀{is:List Nat} {ts:List Tr} {ρ:az} {c:Tr},xJ is ts ρ≠ .exc c
 |[],[],_,_=>fun h=>by cases h
 |[],_::_,_,_=>fun h=>by cases h
 |_::_,[],_,_=>fun h=>by cases h
 |_::is,_::ts,_,_=>sI (is:=is) (ts:=ts)
theorem Mu{es:List Expr}{k:Nat}{is:List Nat}(h:Ek X es (KD X (xJ is)))(hc:X.calm=true:=by rfl) (hn:(assignEach es X.env).length=is.length:=by rfl) (cZ:(assignEach es X.env).findIdx? (·.1)=none:=by rfl):PG X (.Tuple es k pos) (tG X (gT is)):=by
 intro pins s σ H v u Q I r ⟨B,ρ,t,hb,rs,rt,q⟩;cases rt with
 |tup hq rv=>
  have hq:=Q9 (K:=X.K) hq;refine Hv hc h hn cZ pins s σ H _ u Q I r ⟨_,_,rfl,(au.tup aE hq),?_,B,ρ,_,hb,rs,rv,q⟩;have q':Fi X H (xJ is _ ρ) _:=q;cases e:xJ is _ ρ with
  |ok fh=>rw[rv.length];exact yY e
  |exc c=>exact(sI e).elim
  |bad=>rw[e]at q';exact q'.elim
 |_=>exact q.elim
structure jK(K:PySem.W.Frag)(B:bQ)(J:It)(H:Hp)(ts:List Tr):Prop where
 go:∀i B' H',i<ts.length->cv (aN B H) (aN B' H')->HB B' H'->J.go i H'
 yM:∀i B' H' x ES,i<ts.length->cv (aN B H) (aN B' H')->HB B' H'->J.yM i H' x ES->au H' ES/\∃t,ts[i]?=some t/\Rep K (aN B' ES) x t
 stop:∀B' H',cv (aN B H) (aN B' H')->J.stop ts.length H'
inductive tI(X:Cx)(W:az->Rs (List Tr))(σ:St)(H:Hp)(R:It->Hp->Prop):Prop
 |mk (B:bQ) (ρ:az):HB B H->bg X.K B H σ ρ->(Fi X H (W ρ) fun ts=>∀J H',au H H'->jK X.K B J H' ts->R J H')->tI X W σ H R
def As(z:Str):List Tr:=z.cps.toList.map fun c=>Tr.str ⟨#[c]⟩
def iD(r:Rs Tr):Rs (List Tr):=r.bind fun t=>match t with
 |.tup ts=>.ok ts
 |.lst ts=>.ok ts
 |.str z=>.ok (As z)
 |_=>.bad
theorem xK{K:PySem.W.Frag}{B:bQ}{H:Hp}{a:Addr}{vs:List V}{ts:List Tr}(h:aN B H a=some (.lst vs))(r:aJ K (aN B H) vs ts):jK K B (OQ K a) H ts where
 go:=fun i B' H' hi s hb=>by
  have hv:i<vs.length:=by rw[r.length];exact hi
  exact⟨vs,vs[i],iw.of (aE _ _ (s.h _ _ h)),by simp[hv]⟩
 yM:=fun i B' H' x ES hi s hb ⟨e,y⟩=>by
  subst e;have q:=y vs (iw.of (aE _ _ (s.h _ _ h)));obtain⟨t,e1,r1⟩:=r.xH q;exact⟨au.refl _,t,e1,r1.same s⟩
 stop:=fun B' H' s=>⟨vs,iw.of (aE _ _ (s.h _ _ h)),by rw[r.length];exact ar _⟩
theorem Au{K:PySem.W.Frag}{B:bQ}{H:Hp}{a:Addr}{vs:List V}{ts:List Tr}(h:gW K (aN B H) a vs)(r:aJ K (aN B H) vs ts):jK K B (S4 K a) H ts where
 go:=fun i B' H' hi s hb=>by
  have hv:i<vs.length:=by rw[r.length];exact hi
  exact⟨vs,vs[i],au.tup aE (s.h.tup h),by simp[hv]⟩
 yM:=fun i B' H' x ES hi s hb ⟨e,y⟩=>by
  subst e;have q:=y vs (au.tup aE (s.h.tup h));obtain⟨t,e1,r1⟩:=r.xH q;exact⟨au.refl _,t,e1,r1.same s⟩
 stop:=fun B' H' s=>⟨vs,au.tup aE (s.h.tup h),by rw[r.length];exact ar _⟩
theorem Av{K:PySem.W.Frag}{B:bQ}{H:Hp}(z:Str):jK K B (O2 z) H (As z) where
 go:=fun i B' H' hi _ _=>by
  have h:i<z.cps.size:=by simpa[As]using hi
  exact h
 yM:=fun i B' H' x ES hi s hb ⟨e,c,hc,hx⟩=>by
  subst e;subst hx;refine⟨au.refl _,.str ⟨#[c]⟩,?_,.str _ (by show 1<=iA;decide)⟩;unfold As;rw[aU,cI,hc]
  rfl
 stop:=fun B' H' s=>by simp[As,O2]
theorem ET{pins:List (Addr×Obj)}{σ:St}{H1:Hp}{s1:Shared}{R:It->Hp->Prop}{tg:Expr}{z:Str}{t:Tok}(I1:Inv X pins σ H1 s1)(q:R (O2 z) H1):wpAny (model X.prog X.w) X.A (pyIter (.str z t)) (OO X pins σ tg R) X.xe s1:=by
 have fin:∀b∈[s1.heap.objs.size],ja X pins H1 b:=fun b hb=>by
  have e:b=s1.heap.objs.size:=by simpa using hb
  rw[e];exact I1.vx (ar _) (I1.bN.fresh (ar _))
 cases ha:z.cps.all (· <128)
 ·exact wpAny_pyIter_wide ha ⟨s1.heap.objs.size,[s1.heap.objs.size],_,_,H1,rfl,I1.kept (t':=s1.toks) fun b o e=>aB _ e,
   vJ (n:="str_iterator") (t:=t) (by decide) (fun A' hA=>Walks.strWide hA _ z t) fun _ _ _ _ _ st hq=>wpAny_pyIter_striter_wide st hq,⟨_,aT _ rfl,rfl,rfl⟩,fin,q⟩
 ·exact wpAny_pyIter_ascii ha ⟨s1.heap.objs.size,[s1.heap.objs.size],_,_,H1,rfl,I1.kept (t':=s1.toks) fun b o e=>aB _ e,
   vJ (n:="str_ascii_iterator") (t:=t) (by decide) (fun A' hA=>Walks.strAscii hA _ z t) fun _ _ _ _ _ st hq=>wpAny_pyIter_striter_ascii st hq,⟨_,aT _ rfl,rfl,rfl⟩,fin,q⟩
theorem Mv{tg l:Expr}(hl:PE X l (tP X F)):PI X tg l (tI X fun ρ=>iD (F ρ)):=by
 intro pins s σ H R I ⟨B,ρ,hb,r,q⟩;refine du (hl pins s σ H (fun x H1=>∃t,au H H1/\Rep X.K (aN B H1) x t/\Fi X H (iD (.ok t)) fun ts=>∀J H',au H H'->jK X.K B J H' ts->R J H') I ⟨B,ρ,hb,r,q.bind.mono fun t qt v H1 s1 r1=>⟨t,s1,r1,qt⟩⟩) fun v s1 ⟨x,H1,I1,r1,t,sm,rt,k⟩=>?_
 have k:Fi X H (match t with
  |.tup ts=>.ok ts
  |.lst ts=>.ok ts
  |.str z=>.ok (As z)
  |_=>.bad) _:=k
 have fin:∀b∈[s1.heap.objs.size],ja X pins H1 b:=fun b hb=>by
  rw[cn.mp hb];exact I1.vx (ar _) (I1.bN.fresh (ar _))
 split at k
 ·obtain⟨a,vs,rfl,h,rr⟩:=rt.cQ;cases r1;obtain⟨aV,rv,p,hz⟩:=I1.tuple (au.tup aE h);exact lI (show s1.heap.IsTuple a aV.toArray from p) ⟨s1.heap.objs.size,[s1.heap.objs.size],_,_,H1,rfl,I1.kept (t':=s1.toks) fun b o e=>aB _ e,xr a _,⟨_,aT _ rfl,rfl,rfl⟩,fin,k _ H1 sm (Au h rr)⟩
 ·obtain⟨a,vs,rfl,h,rr⟩:=rt.lst_inv;cases r1;obtain⟨aV,rv,p,hz⟩:=I1.list (iw.of (aE _ _ h));exact ic p.isList ⟨s1.heap.objs.size,[s1.heap.objs.size],_,_,H1,rfl,I1.kept (t':=s1.toks) fun b o e=>aB _ e,sr a _,⟨_,aT _ rfl,rfl,rfl⟩,fin,k _ H1 sm (xK h rr)⟩
 ·obtain⟨rfl,_⟩:=rt.str_inv;obtain⟨t,rfl⟩:=(show∃t,v=Value.str _ t from r1);exact ET I1 (k _ H1 sm (Av _))
 ·exact k.elim
def vN(lo:Int)(n:Nat):List Tr:=(List.range n).map fun k=>Tr.int (lo+(k:Nat))
theorem jL(lo:Int)(n:Nat):(vN lo n).length=n:=by simp[vN]
theorem vO{K:PySem.W.Frag}{B:bQ}{H:Hp}(lo:Int)(n:Nat):jK K B (OR lo n) H (vN lo n) where
 go:=fun i B' H' hi _ _=>by rw[jL]at hi;exact hi
 yM:=fun i B' H' x ES hi s hb ⟨e,y⟩=>by
  subst e;subst y;rw[jL]at hi;refine⟨au.refl _,.int (lo+i),?_,.int _⟩;unfold vN;rw[aU,List.getElem?_range hi]
  rfl
 stop:=fun B' H' s=>by rw[jL];exact ar _
def nQ(l:Rs (List Tr)):Rs (List Tr):=l.bind fun ts=>match ts with
 |[.int j]=>if-4611686018427387904<=j/\j<4611686018427387904 then .ok (vN 0 j.toNat)else .bad
 |_=>.bad
theorem PI.weak {tg iter:Expr}{t t':TI}(h:PI X tg iter t)(w:∀σ H R,t' σ H R->t σ H R):PI X tg iter t':=fun pins s σ H R I q=>h pins s σ H R I (w σ H R q)
variable {L:az->Rs (List Tr)}{tg:Expr}{p:Pos}
theorem Co(hm:X.mg "range"=none)(ha:PA X [a] (yV X L))(hg:Gl X "range":=by rfl) (hs:ba [a]=true:=by rfl):PI X tg (.Call (.Name "range" p) [a] [] pos) (tI X fun ρ=>nQ (L ρ)):=
 (Ai hg hm ha (by rw[aX _ _ (aG hs).1];rfl)).weak fun σ H R ⟨B,ρ,hb,r,q⟩=>⟨B,ρ,hb,r,q.bind.mono fun ts qt vs H1 s1 r1=>by
  split at qt
  ·rename_i j;cases r1 with
   |cons h1 r1=>
    cases h1;cases r1;split at qt
    ·rename_i hj;exact⟨j,rfl,by omega,by omega,qt _ H1 s1 (vO 0 _)⟩
    ·exact qt.elim
  ·exact qt.elim⟩
def EU{α:Type}(r:Rs α):Rs α:=match r with
 |.ok a=>.ok a
 |_=>.bad
def mf(ix:List (Option Nat))(ρ:az):az:=ix.map fun o=>match o with
 |none=>.no
 |some j=>match ρ[j]? with
  |some (.sh t)=>.sh t
  |_=>.no
theorem bg.comp {K:PySem.W.Frag}{B B':bQ}{H H':Hp}{σ:St}{ρ:az}(ix:List (Option Nat))(h:bg K B H σ ρ)(s:cv (aN B H) (aN B' H')):bg K B' H' (eQ ix σ) (mf ix ρ):=by
 have no:∀(i:Nat) (c:Cell),(mf ix ρ)[i]?=some c->c=.no\/∃j t,ix[i]?=some (some j)/\ρ[j]?=some (.sh t)/\c=.sh t:=fun i c e=>by
  unfold mf at e;rw[aU]at e;cases q:ix[i]? with
  |none=>rw[q]at e;cases e
  |some o=>
   rw[q]at e;cases o with
   |none=>exact .inl (Option.some.inj e).symm
   |some j=>
    have e':(match ρ[j]? with|some (Cell.sh t)=>Cell.sh t|_=>Cell.no)=c:=Option.some.inj e;split at e'
    ·rename_i t q2;exact .inr ⟨j,t,rfl,q2,e'.symm⟩
    ·exact .inl e'.symm
 refine⟨by unfold mf eQ;rw[ai,ai],fun i t e=>?_,fun i ts e=>?_,fun i j ts us D _ e=>?_⟩
 ·rcases no i _ e with q|⟨j,u,q1,q2,q3⟩
  ·cases q
  ·cases q3;obtain⟨v,e1,r1⟩:=h.sh j t q2;refine⟨v,?_,r1.same s⟩;unfold eQ;rw[aU,q1];show some ((σ[j]?).join)=_;rw[e1]
   rfl
 ·rcases no i _ e with q|⟨j,u,q1,q2,q3⟩
  ·cases q
  ·cases q3
 ·rcases no i _ e with q|⟨j,u,q1,q2,q3⟩
  ·cases q
  ·cases q3
def k_(T:kL)(A:az->Rs Bool)(F:az->Rs Tr):List Tr->az->Rs (List Tr)
 |[],_=>.ok []
 |t::ts,ρ=>(EU (T t ρ)).bind fun ρ1=>(EU (A ρ1)).bind fun k=>if k then(EU (F ρ1)).bind fun y=>(k_ T A F ts ρ1).bind fun ys=>.ok (y::ys)else k_ T A F ts ρ1
def gX(ix:List (Option Nat))(T:kL)(A:az->Rs Bool)(F:az->Rs Tr)(l:Rs (List Tr))(ρ:az):Rs Tr:=l.bind fun ts=>if ts.length<=i3 then(k_ T A F ts (mf ix ρ)).bind fun ys=>.ok (.lst ys)else .bad
def eR(B:bQ)(D:Addr):bQ:=⟨fun b=>B.hd b||b==D,B.ix⟩
theorem iE{B:bQ}{D:Addr}{H:Hp}{o:HO}(hD:H D=none):cv (aN B H) (aN (eR B D) (upd H D o)):=⟨fun b u e=>by
 have e1:=aE b u e;have fb:b≠D:=aL e1 hD;have hB:B.hd b=false:=by
  cases q:B.hd b with
  |false=>rfl
  |true=>
   have e2:(if B.hd b=true then none else H b)=some u:=e;rw[q,ab rfl]at e2;cases e2
 rw[cC (show(B.hd b||b==D)=false by rw[hB,dP fb];rfl),ah fb];exact e1,fun _ _ e=>e⟩
theorem yZ{B:bQ}{D:Addr}{H:Hp}{o:HO}(h:HB B H)(hD:H D=none)(ho:∀vs,o≠ .tup vs:=by exact fun _ z=>by cases z):HB (eR B D) (upd H D o):=fun b e=>by
 by_cases q:b=D
 ·subst q;exact⟨o,aH,ho⟩
 ·have e':(B.hd b||b==D)=true:=e;rw[dP q,lS]at e';rw[ah q];exact h b e'
theorem sJ{B:bQ}{D:Addr}:(eR B D).hd D=true:=by show(B.hd D||D==D)=true;rw[bz,Bool.or_true]
theorem iF{B:bQ}{D:Addr}{H:Hp}{o:HO}:aN (eR B D) (upd H D o)=aN (eR B D) H:=by
 unfold aN;congr 1;funext b;by_cases q:b=D
 ·subst q;rw[ab sJ,ab sJ]
 ·rw[ah q]
theorem EV{B:bQ}{D:Addr}:nO B (eR B D):=⟨fun b e=>by show(B.hd b||b==D)=true;rw[e,jt],fun _ _ e=>e⟩
theorem Cp{B:bQ}{D:Addr}{H:Hp}:cv (aN (eR B D) H) (aN B H):=qA EV
def dE(ρ:az):Prop:=∀(i:Nat) (ts:List Tr),ρ[i]? ≠some (.ow ts)
def iG(T:kL):Prop:=∀t ρ fh,dE ρ->T t ρ=.ok fh->dE fh
theorem dE.set {ρ:az}(h:dE ρ)(i:Nat)(t:Tr):dE (ρ.set i (.sh t)):=fun j ts e=>by
 rcases gj e with⟨_,_,q⟩|⟨_,q⟩
 ·cases q
 ·exact h j ts q
theorem dU(i:Nat):iG (gN i):=fun t ρ fh h e=>by cases e;exact h.set i t
theorem y0:∀{is:List Nat} {ts:List Tr} {ρ fh:az},dE ρ->xJ is ts ρ=.ok fh->dE fh
 |[],[],_,_,h,e=>by cases e;exact h
 |[],_::_,_,_,_,e=>by cases e
 |_::_,[],_,_,_,e=>by cases e
 |i::is,t::ts,_,_,h,e=>y0 (is:=is) (ts:=ts) (h.set i t) e
theorem xM(is:List Nat):iG (gT is):=fun t ρ fh h e=>by
 cases t with
 |tup ts=>exact y0 h e
 |_=>cases e
theorem oH(ix:List (Option Nat))(ρ:az):dE (mf ix ρ):=fun i ts e=>by
 unfold mf at e;rw[aU]at e;cases q:ix[i]? with
 |none=>rw[q]at e;cases e
 |some o=>
  rw[q]at e;cases o with
  |none=>cases e
  |some j=>
   have e':(match ρ[j]? with|some (Cell.sh t)=>Cell.sh t|_=>Cell.no)=.ow ts:=Option.some.inj e;split at e'<;>cases e'
theorem kZ.eq {α:Type}{xc:Tr->Prop}{r:Rs α}{k:α->Prop}(h:kZ xc r k):kZ xc r fun a=>r=.ok a/\k a:=by
 cases r with
 |ok a=>exact⟨rfl,h⟩
 |_=>exact h
theorem xN{α:Type}{xc:Tr->Prop}{r:Rs α}{k:α->Prop}(h:kZ xc (EU r) k):∃a,r=.ok a/\k a:=by
 cases r with
 |ok a=>exact⟨a,rfl,h⟩
 |_=>exact h.elim
inductive Gq(K:PySem.W.Frag)(F:az->Rs Tr)(σ:St)(H:Hp)(Q:VK):Prop
 |mk (B:bQ) (ρ:az):HB B H->bg K B H σ ρ->(∃t,F ρ=.ok t/\∀v H',au H H'->Rep K (aN B H') v t->Q v H')->Gq K F σ H Q
inductive Gr(K:PySem.W.Frag)(F:az->Rs Bool)(σ:St)(H:Hp)(Q:Bool->Hp->Prop):Prop
 |mk (B:bQ) (ρ:az):HB B H->bg K B H σ ρ->(∃b,F ρ=.ok b/\∀H',au H H'->Q b H')->Gr K F σ H Q
inductive Gs(K:PySem.W.Frag)(T:kL)(v:V)(σ:St)(H:Hp)(Q:St->Hp->Prop):Prop
 |mk (B:bQ) (ρ:az) (t:Tr):HB B H->bg K B H σ ρ->Rep K (aN B H) v t->(∃fh,T t ρ=.ok fh/\∀bP H',au H H'->bg K B H' bP fh->Q bP H')->Gs K T v σ H Q
theorem IC{X:Cx}{F:az->Rs Tr}{σ:St}{H:Hp}{Q:VK}:Gq X.K F σ H Q->tP X F σ H Q:=fun⟨B,ρ,hb,r,t,e,q⟩=>⟨B,ρ,hb,r,by rw[e];exact q⟩
theorem ID{X:Cx}{F:az->Rs Bool}{σ:St}{H:Hp}{Q:Bool->Hp->Prop}:Gr X.K F σ H Q->tQ X F σ H Q:=fun⟨B,ρ,hb,r,t,e,q⟩=>⟨B,ρ,hb,r,by rw[e];exact q⟩
theorem IE{X:Cx}{T:kL}{v:V}{σ:St}{H:Hp}{Q:St->Hp->Prop}:Gs X.K T v σ H Q->tG X T v σ H Q:=fun⟨B,ρ,t,hb,r,rt,fh,e,q⟩=>⟨B,ρ,t,hb,r,rt,by rw[e];exact q⟩
theorem oJ{K:PySem.W.Frag}{J:It}{D:Addr}{B:bQ}{H:Hp}{OZ:St}{O5:az}{ts:List Tr}{T:kL}{A:az->Rs Bool}{F:az->Rs Tr}{Q:Hp->Prop}(hT:iG T)(h0:dE O5)(hb:HB B H)(gt:jK K B J H ts)(hz:ts.length<=i3)(r:bg K (eR B D) (upd H D (.lst [])) OZ O5)(hD:H D=none)
  {xc:Tr->Prop} {k:List Tr->Prop} (q:kZ xc (k_ T A F ts O5) k) (hQ:∀ys H',k ys->au H H'->Rep K (aN B H') (.ref D) (.lst ys)->Q H'):Q2 J D OZ (upd H D (.lst [])) (Gs K T) (Gr K A) (Gq K F) Q:=by
 refine⟨fun i m σ H'=>m=ts.length - i/\i<=ts.length/\au H H'/\HB (eR B D) H'/\cv (aN B H) (aN (eR B D) H')/\∃ρ vs us,dE ρ/\bg K (eR B D) H' σ ρ/\H' D=some (.lst vs)/\vs.length<=i/\aJ K (aN (eR B D) H') vs us/\kZ xc (k_ T A F (ts.drop i) ρ) (fun ys=>k (us++ys)),
  ⟨_,rfl,bG _,au.upd hD,yZ hb hD,iE hD,O5,[],[],h0,r,aH,ar _,.nil,q⟩,?_⟩
 rintro i m σ H' ⟨rfl,hi,sm,jc,fY,ρ,vs,us,no,rs,hd,hl,rv,q'⟩
 by_cases dX:i<ts.length
 ·rw[lh dX]at q';refine .inr ⟨gt.go i _ H' dX fY jc,fun rX H2=>au H H2/\HB (eR B D) H2/\cv (aN B H) (aN (eR B D) H2)/\∃ρ vs us,dE ρ/\bg K (eR B D) H2 rX ρ/\H2 D=some (.lst vs)/\vs.length<=i+1/\aJ K (aN (eR B D) H2) vs us/\kZ xc (k_ T A F (ts.drop (i+1)) ρ) (fun ys=>k (us++ys)),
   fun rX H2 h=>⟨ts.length - (i+1),by omega,rfl,dX,h⟩,fun x H2 hx=>?_⟩
  obtain⟨s2,t,et,rt⟩:=gt.yM i _ H' x H2 dX fY jc hx;have Mw:ts[i]=t:=by rw[aF dX]at et;exact Option.some.inj et
  rw[Mw]at q';obtain⟨ρ1,eT,q1⟩:=xN (kZ.bind q');have Ra:=hT t ρ ρ1 no eT;refine⟨_,ρ,t,jc.same s2,rs.same s2,rt,ρ1,eT,fun xq H3 s3 r3=>?_⟩;have Te:=s2.trans s3;obtain⟨c,eA,qc⟩:=xN (kZ.bind q1);refine⟨_,ρ1,jc.same Te,r3,c,eA,fun H4 s4=>?_⟩;have IF:=Te.trans s4;have g4:au H H4:=sm.trans IF;cases c with
  |false=>
   exact Ih ⟨g4,jc.same IF,fY.trans (aZ IF),ρ1,vs,us,Ra,r3.same s4,IF _ _ hd,by omega,rv.same (aZ IF),qc⟩
  |true=>
   obtain⟨y,eF,qy⟩:=xN (kZ.bind qc);refine Ii ⟨_,ρ1,jc.same IF,r3.same s4,y,eF,fun v H5 s5 r5=>?_⟩;have Mx:=IF.trans s5;refine⟨vs,Mx _ _ hd,by rw[<-g_];omega,(sm.trans Mx).Io hD,?_,?_,ρ1,vs++[v],us++[y],Ra,?_,aH,by rw[bj];exact Nat.add_le_add_right hl 1,?_,?_⟩
   ·intro b e;by_cases q:b=D
    ·subst q;exact⟨_,aH,fun _ z=>by cases z⟩
    ·rw[ah q];exact(jc.same Mx) b e
   ·rw[iF];exact fY.trans (aZ Mx)
   ·have Rb:=(r3.same s4).same s5;refine⟨Rb.len,fun i t e=>?_,fun i ts e=>(Ra i ts e).elim,Rb.ap⟩;rw[iF];exact Rb.sh i t e
   ·rw[iF];exact(rv.same (aZ Mx)).append (.cons r5 .nil)
   ·exact(kZ.bind qy).mono fun ys q=>by rw[gV];exact q
 ·have e:i=ts.length:=by omega
  subst e;rw[jl]at q';refine .inl ⟨gt.stop _ H' fY,hQ us H' (by have:=(show k (us++[])from q');rw[dw]at this;exact this) sm (.lst ?_ (rv.same Cp))⟩;rw[cC (hb.free hD)];exact hd
variable {scope:Scope}{N':List Str}{ix:List (Option Nat)}{elt iter:Expr}{ifs:List Expr}{T:kL}{W:az->Rs (List Tr)}
theorem My{X:Cx}:PF X [] (tQ X fun _=>.ok true):=fun pins s σ H Q I ⟨B,ρ,hb,r,q⟩=>Ci pins s σ H Q I (q H (au.refl H))
theorem Mz{X:Cx}{c:Expr}{A:az->Rs Bool}(h:PT X c (tQ X A)):PF X [c] (tQ X A):=Ik h
theorem Cq{σ:St}{H:Hp}{Q:VK}(hT:iG T)(q:tP X (fun ρ=>gX ix T A F (W ρ) ρ) σ H Q):KC (tI X W) ix (Gs X.K T) (Gr X.K A) (Gq X.K F) σ H Q:=by
 obtain⟨B,ρ,hb,r,q⟩:=q;refine⟨B,ρ,hb,r,q.bind.mono fun ts qt J H1 s1 gt D hD=>?_⟩;by_cases hz:ts.length<=i3
 ·rw[ab hz]at qt;exact oJ hT (oH ix ρ) (hb.same s1) gt hz ((r.same s1).comp ix (iE hD)) hD (Fi.bind qt) fun ys H' k s' rp=>k _ H' (s1.trans s') rp
 ·rw[ae hz]at qt;exact qt.elim
structure IG(X:Cx)(scope:Scope)(N':List Str)(tg elt:Expr)(ifs:List Expr)(T:kL)(A:az->Rs Bool)(F:az->Rs Tr):Prop where
 all:∀s H ex,PG (kY X scope N' s H ex) tg (tG (kY X scope N' s H ex) T)/\PF (kY X scope N' s H ex) ifs (tQ (kY X scope N' s H ex) A)/\PE (kY X scope N' s H ex) elt (tP (kY X scope N' s H ex) F)
theorem IG.O6 {X:Cx}{scope:Scope}{N':List Str}{tg elt:Expr}{ifs:List Expr}{T:kL}{A:az->Rs Bool}{F:az->Rs Tr}(h:IG X scope N' tg elt ifs T A F):∀s H ex,PG (kY X scope N' s H ex) tg (Gs X.K T)/\PF (kY X scope N' s H ex) ifs (Gr X.K A)/\PE (kY X scope N' s H ex) elt (Gq X.K F):=fun s H ex=>by
 obtain⟨h1,h2,h3⟩:=h.all s H ex;exact⟨fun pins s σ H v u Q I r q=>h1 pins s σ H v u Q I r (IE q),fun pins s σ H Q I q=>h2 pins s σ H Q I (ID q),fun pins s σ H Q I q=>h3 pins s σ H Q I (IC q)⟩
theorem Rc(Lk:fR X N' ix scope)(hi:PI X tg iter (tI X W))(l_:IG X scope N' tg elt ifs T A F)(hT:iG T)(hc:X.calm=true:=by rfl) (hs:isSet iter=false:=by rfl):
  PE X (.ListComp elt [⟨tg,iter,ifs,0⟩] scope pos) (tP X fun ρ=>gX ix T A F (W ρ) ρ):=
 (Cj Lk hc hi l_.O6 (dY hs)).weak fun σ H Q q=>Cq hT q
def i4(r:Rs Out):Rs Tr:=r.bind fun o=>match o with
 |.nx _=>.ok .cg
 |.ret t=>.ok t
 |_=>.bad
theorem r9.U1 {P:Program}{w:World}{K:PySem.W.Frag}{mg:Str->Option Value}{base:Heap}{x qual:Str}{st:Stmt}{f:Addr}{fd:FuncData}{N ps:List Str}{k:Nat}{h:List Tr->Rs Tr}(Fn:r9 K x qual st f fd)(S:dD N ps (aD st))(len:∀ts t,h ts=.ok t->ts.length=ps.length)
  (gG:∀(cO:Value) (A:Around) (outer:List Env) (s:Shared) (H:Hp) (E:XK),de k (A.deeper (envOfC qual (aD st) s.heap.objs.size f cO))->
   ∃G,jB (jb kX P w K mg base N qual (aD st) f cO A outer s H E).Bz (cP st) (tS (jb kX P w K mg base N qual (aD st) f cO A outer s H E).Bz G)/\∀ts t,h ts=.ok t->i4 (G (startT N.length ts))=.ok t):fQ P w K mg base kX (k+1) f fd ps (spT K h):=by
 refine Fn.ok S (fun vs H Q E q=>?_) (fun cO A outer s H vs Q E hr q=>?_)
 ·obtain⟨B,ts,hb,r,t,e,_⟩:=q;rw[r.length];exact len ts t e
 ·obtain⟨B,ts,hb,r,t,e,q⟩:=q;obtain⟨G,hG,hE⟩:=gG cO A outer s H E hr;refine⟨_,hG,B,B,H,B,startT N.length ts,cG.refl hb nO.refl,bg.start r,?_⟩;have e1:=hE ts t e;cases eo:G (startT N.length ts)with
  |ok o=>
   rw[eo]at e1;cases o with
   |nx ρ=>cases e1;exact fun bP B' H' si r'=>q .cg H' si.same .cg
   |ret u=>cases e1;exact fun v B' H' si r'=>q v H' si.same r'
   |_=>cases e1
  |_=>rw[eo]at e1;cases e1
end
end L2
namespace L2
open PySem PySem.Spec PyProof.Rows
section
variable {X:Cx}
theorem EW:rO X (binaryOp .Add) (fun x y H Q=>∃(a b:Addr) (xs ys:List V),x=.ref a/\y=.ref b/\gW X.K H a xs/\gW X.K H b ys/\xs.length+ys.length<=sizeLine/\(xs=[]->Q (.ref b) H)/\(ys=[]->Q (.ref a) H)/\∀p,H p=none->Q (.ref p) (upd H p (.tup (xs++ys)))):=by
 intro pins s σ H x y v u Q I rx ry h;obtain⟨a,b,xs,ys,rfl,rfl,ha,hb,hz,q1,q2,q3⟩:=h;by_cases hx:xs=[]
 ·subst hx;cases(show v=Value.ref a from rx);cases(show u=Value.ref b from ry);obtain⟨i1,r1,p1,_⟩:=I.tuple ha;obtain⟨i2,r2,p2,_⟩:=I.tuple hb;cases r1;obtain⟨dd,n,sl,h1⟩:=m4 p1;obtain⟨D',n2,Gf,h2⟩:=m4 p2;exact concat_meets ⟨_,h1,rfl⟩ ⟨_,h2,rfl⟩ noFill_tuple_add seq_tuple_add o9 o7 (o6 _ _) (tuple_addW0 a b _ _ n n2 dd D' sl Gf rfl) ⟨h1,h2,⟨.ref b,H,I,rfl,q1 rfl⟩⟩
 ·exact Ew pins s σ H _ _ v u Q I rx ry ⟨a,b,xs,ys,rfl,rfl,ha,hb,hx,hz,q2,fun _ p hp=>q3 p hp⟩
theorem Rep.up {K:PySem.W.Frag}{B:bQ}{H:Hp}{v:V}{t:Tr}(r:Rep K (aN B H) v t):Rep K (raw B H) v t:=r.same oF
theorem gW.up {K:PySem.W.Frag}{B:bQ}{H:Hp}{a:Addr}{xs:List V}(h:gW K (aN B H) a xs):gW K H a xs:=au.tup aE h
theorem fq{B:bQ}{H:Hp}{a:Addr}{o:HO}(h:aN B H a=some o):H a=some o:=aE _ _ h
theorem Rep.MA {K:PySem.W.Frag}{B:bQ}{H:Hp}{p:Addr}{vs:List V}{ts:List Tr}(hb:HB B H)(hp:H p=none)(r:aJ K (aN B H) vs ts):Rep K (aN B (upd H p (.tup vs))) (.ref p) (.tup ts):=.tup (hb.new hp) (r.same (aZ (au.upd hp)))
theorem Rep.xO {K:PySem.W.Frag}{B:bQ}{H:Hp}{p:Addr}{vs:List V}{ts:List Tr}(hb:HB B H)(hp:H p=none)(r:aJ K (aN B H) vs ts):Rep K (aN B (upd H p (.lst vs))) (.ref p) (.lst ts):=.lst (hb.new hp) (r.same (aZ (au.upd hp)))
theorem vP{K:PySem.W.Frag}{H:Vw}{ts:List Tr}(h:aJ K H [] ts):ts=[]:=by cases h;rfl
theorem IH{a b:Str}(h:a.length+b.length<=iA):(a++b).length<=iA:=by rw[PySem.Str.length_append];exact h
def fc:Tr->Tr->Rs Tr
 |.int i,.int j=>.ok (.int (i+j))
 |.str a,.str b=>if a.length+b.length<=iA then .ok (.str (a++b))else .bad
 |.tup a,.tup b=>if a.length+b.length<=i3 then .ok (.tup (a++b))else .bad
 |.lst a,.lst b=>if a.length+b.length<=i3 then .ok (.lst (a++b))else .bad
 |_,_=>.bad
theorem fi{α:Type}{H:Hp}{c:Prop}[Decidable c]{t:α}{k:α->Prop}(h:Fi X H (if c then Rs.ok t else .bad) k):c/\k t:=by
 by_cases hc:c
 ·rw[ab hc]at h;exact⟨hc,h⟩
 ·rw[ae hc]at h;exact h.elim
theorem iH:xm X (binaryOp .Add) fc:=by
 intro pins s σ H x y v u Q I rx ry ⟨B,tx,ty,hb,r1,r2,q⟩;unfold fc at q;split at q
 ·exact Hz pins s σ H _ _ v u Q I rx ry ⟨_,_,r1.int_inv,r2.int_inv,q _ H (au.refl H) (.int _)⟩
 ·have f:=fi q;exact xy pins s σ H _ _ v u Q I rx ry ⟨_,_,r1.str_inv.1,r2.str_inv.1,bt f.1 oG,f.2 _ H (au.refl H) (.str _ (IH f.1))⟩
 ·have f:=fi q;obtain⟨a,as,e1,h1,Cr⟩:=r1.cQ;obtain⟨b,bs,e2,h2,KG⟩:=r2.cQ;exact EW pins s σ H _ _ v u Q I rx ry ⟨_,_,_,_,e1,e2,h1.up,h2.up,by rw[Cr.length,KG.length,<-g_];exact f.1,fun e=>f.2 _ H (au.refl H) (by subst e;rw[vP Cr,<-e2];exact r2),fun e=>f.2 _ H (au.refl H) (by subst e;rw[vP KG,dw,<-e1];exact r1),fun p hp=>f.2 _ _ (au.upd hp) (.MA hb hp (Cr.append KG))⟩
 ·have f:=fi q;obtain⟨a,as,e1,h1,Cr⟩:=r1.lst_inv;obtain⟨b,bs,e2,h2,KG⟩:=r2.lst_inv;exact HU pins s σ H _ _ v u Q I rx ry ⟨_,_,_,_,e1,e2,fq h1,fq h2,by rw[Cr.length,KG.length,<-g_];exact f.1,fun p hp=>f.2 _ _ (au.upd hp) (.xO hb hp (Cr.append KG))⟩
 ·exact(show False from q).elim
def r_:Tr->Tr->Rs Tr
 |.int i,.int j=>if 0<j then .ok (.int (i % j))else .bad
 |_,_=>.bad
theorem Cs:xm X (binaryOp .Mod) r_:=by
 intro pins s σ H x y v u Q I rx ry ⟨B,tx,ty,hb,r1,r2,q⟩;unfold r_ at q;split at q
 ·have f:=fi q;exact HD pins s σ H _ _ v u Q I rx ry ⟨_,_,r1.int_inv,r2.int_inv,f.1,f.2 _ H (au.refl H) (.int _)⟩
 ·exact(show False from q).elim
def qG(i j:Int):Prop:=(-18446744073709551616<i/\i<18446744073709551616)\/(-18446744073709551616<j/\j<18446744073709551616)
theorem qG.cm {i j:Int}(h:qG i j):BV i j:=by
 unfold qG at h;unfold BV;omega
instance (i j:Int):Decidable (qG i j):=by unfold qG;infer_instance
def jM:Tr->Tr->Rs Tr
 |.int i,.int j=>if qG i j then .ok (.int (i*j))else .bad
 |.str z,.int n=>if 0<=n/\n<=1000/\z.length<=1000 then .ok (.str (Txt.mul z n))else .bad
 |.lst ts,.int n=>if 0<=n/\n<=1000/\ts.length*n.toNat<=i3 then .ok (.lst (List.replicate n.toNat ts).flatten)else .bad
 |_,_=>.bad
theorem EY:rO X (binaryOp .Mult) (fun x y H Q=>∃(l:Addr) (k:Int) (xs:List V),x=.ref l/\y=.int k/\H l=some (.lst xs)/\-(2 ^63)<=k/\k<2 ^63/\xs.length*k.toNat<=sizeLine/\∀p,H p=none->Q (.ref p) (upd H p (.lst (List.replicate k.toNat xs).flatten))):=HV
theorem EZ{z:Str}{n:Int}(h0:0<=n)(h1:n<=1000)(hz:z.length<=1000):(Txt.mul z n).length<=iA:=by
 have e:=PyProof.Rows.len_mul z n;split at e
 ·have:((Txt.mul z n).length:Int)=0:=e;unfold iA;omega
 ·have h2:(z.length:Int)*n<=1000*1000:=Int.mul_le_mul (by omega) h1 h0 (by decide);have e':((Txt.mul z n).length:Int)=(z.length:Int)*n:=e;unfold iA;omega
theorem vQ:xm X (binaryOp .Mult) jM:=by
 intro pins s σ H x y v u Q I rx ry ⟨B,tx,ty,hb,r1,r2,q⟩;unfold jM at q;split at q
 ·have f:=fi q;exact HC pins s σ H _ _ v u Q I rx ry ⟨_,_,r1.int_inv,r2.int_inv,f.1.cm,f.2 _ H (au.refl H) (.int _)⟩
 ·have f:=fi q;exact EJ pins s σ H _ _ v u Q I rx ry ⟨_,_,r1.str_inv.1,r2.int_inv,PyProof.Rows.mulOk_of 1000 1000 f.1.2.2 f.1.2.1 (Int.le_trans (by decide) f.1.1) (by decide) (by decide),f.2 _ H (au.refl H) (.str _ (EZ f.1.1 f.1.2.1 f.1.2.2))⟩
 ·have f:=fi q;obtain⟨a,as,e1,h1,Cr⟩:=r1.lst_inv;exact EY pins s σ H _ _ v u Q I rx ry ⟨_,_,_,e1,r2.int_inv,fq h1,Int.le_trans (by decide) f.1.1,Int.lt_of_le_of_lt f.1.2.1 (by decide),by rw[Cr.length,<-g_];exact f.1.2.2,fun p hp=>f.2 _ _ (au.upd hp) (.xO hb hp (Cr.rep _))⟩
 ·exact(show False from q).elim
end
end L2
namespace L2
open PySem PySem.Spec PyProof.Rows
mutual
def eqT:Tr->Tr->Bool
 |.cg,.cg=>true
 |.bl a,.bl b=>a==b
 |.bl a,.int b=>(if a then 1 else 0)==b
 |.int a,.bl b=>a==(if b then 1 else 0)
 |.int a,.int b=>a==b
 |.str a,.str b=>a==b
 |.tup a,.tup b=>uv a b
 |.lst a,.lst b=>uv a b
 |_,_=>false
def uv:List Tr->List Tr->Bool
 |[],[]=>true
 |x::xs,y::ys=>eqT x y&&uv xs ys
 |_,_=>false
end
mutual
def og:Tr->Bool
 |.cg=>true
 |.bl _=>true
 |.int _=>true
 |.str _=>true
 |.tup ts=>m6 ts
 |.lst ts=>m6 ts
 |_=>false
def m6:List Tr->Bool
 |[]=>true
 |t::ts=>og t&&m6 ts
end
mutual
def dT:Tr->Nat
 |.tup ts=>E1 ts+1
 |.lst ts=>E1 ts+1
 |_=>0
def E1:List Tr->Nat
 |[]=>0
 |t::ts=>max (dT t) (E1 ts)
end
theorem jN:∀{ts:List Tr},m6 ts=true->∀t∈ts,og t=true
 |[],_,t,h=>nomatch h
 |u::us,h,t,m=>by
  rw[m6,aK]at h;rcases aP.mp m with rfl|m
  ·exact h.1
  ·exact jN h.2 t m
theorem uw:∀{ts:List Tr},∀t∈ts,dT t<=E1 ts
 |[],t,h=>nomatch h
 |u::us,t,m=>by
  rw[E1];rcases aP.mp m with rfl|m
  ·exact Nat.le_max_left _ _
  ·exact bt (uw t m) (Nat.le_max_right _ _)
theorem vR:∀(xs ys:List Tr),((List.range (min xs.length ys.length)).all (fun j=>eqT (xs.getD j .cg) (ys.getD j .cg))&&xs.length==ys.length)=uv xs ys
 |[],[]=>rfl
 |[],y::ys=>rfl
 |x::xs,[]=>rfl
 |x::xs,y::ys=>by
  have ih:=vR xs ys;rw[uv,<-ih,bp,bp,Nat.succ_min_succ,List.range_succ_eq_map,fE,List.all_map,Bool.and_assoc];congr 1;have e1:(xs.length+1==ys.length+1)=(xs.length==ys.length):=by rw[Bool.eq_iff_iff,iu,iu];omega
  rw[e1]
  rfl
section
variable {A:Around}{s:Shared}
theorem E2{v u:Value}{k:Bool}(hv:∀b t,v≠Value.float b t)(hs:v=u->k=true)(h:SeqAt.RcAt A s v u k):SeqAt.EqAt A s v u k:=fun prog w E Q hq=>by
 unfold eqBool;refine cB ?_
 refine fJ (fun se=>?_) (fun _=>?_)
 ·rw[hs (eq_of_beq se)]at hq;exact aa (eO (af hq))
 ·cases v with
  |float b t=>exact absurd rfl (hv b t)
  |_=>exact aa (h prog w E _ (jo hq))
end
section
variable {X:Cx}{pins:List (Addr×Obj)}{σ:St}{H:Hp}{vS:Addr->Option Nat}{s:Shared}
theorem nR(I:Inv X pins σ H s){a:Addr}{vs ws:List V}(h1:gW X.K H a vs)(h2:H a=some (.lst ws)):False:=by
 obtain⟨_,_,⟨o,e,c,_⟩,_⟩:=I.tuple h1;obtain⟨_,aV,n,_,e2⟩:=I.bN a _ h2;rw[e]at e2;cases e2;exact absurd c (by show¬(Value.type "list"=.type "tuple");decide+kernel)
def vT:V->Tr
 |.cg=>.cg
 |.bl b=>.bl b
 |.int i=>.int i
 |.str z=>.str z
 |_=>.at 0
theorem jO{K:PySem.W.Frag}{W:Vw}{x:V}{t:Tr}(r:Rep K W x t)(p:og t=true):(∃ts,t=.tup ts)\/(∃ts,t=.lst ts)\/t=vT x:=by
 cases r<;>first|(cases p;done)|exact .inr (.inr rfl)|exact .inl ⟨_,rfl⟩|exact .inr (.inl ⟨_,rfl⟩)
theorem mh{K:PySem.W.Frag}{W:Vw}{x:V}{t t':Tr}(e:t=vT x)(p:og t=true)(p':og t'=true)(r':Rep K W x t'):t=t':=by
 rcases jO r' p' with⟨ts,rfl⟩|⟨ts,rfl⟩|e'
 ·obtain⟨a,_,rfl,_⟩:=r'.cQ;rw[e]at p;cases p
 ·obtain⟨a,_,rfl,_⟩:=r'.lst_inv;rw[e]at p;cases p
 ·rw[e,e']
theorem E3(I:Inv X pins σ H s):∀(n:Nat) {x:V} {t t':Tr},dT t<=n->og t=true->og t'=true->Rep X.K (⟨H,vS⟩:Vw) x t->Rep X.K (⟨H,vS⟩:Vw) x t'->t=t':=by
 intro n
 induction n with
 |zero=>
  intro x t t' hd p p' r r';rcases jO r p with⟨ts,rfl⟩|⟨ts,rfl⟩|e
  ·exact absurd hd (Nat.not_succ_le_zero _)
  ·exact absurd hd (Nat.not_succ_le_zero _)
  ·exact mh e p p' r'
 |succ n ih=>
  intro x t t' hd p p' r r';have go:∀{vs:List V} {ts qH:List Tr},E1 ts<=n->m6 ts=true->m6 qH=true->aJ X.K (⟨H,vS⟩:Vw) vs ts->aJ X.K (⟨H,vS⟩:Vw) vs qH->ts=qH:=by
   intro vs ts qH k1 k2 k3;have h1:=fun t m=>bt (uw (ts:=ts) t m) k1;have h2:=jN k2;have h3:=jN k3
   clear hd p p' r r' k1 k2 k3
   induction vs generalizing ts qH with
   |nil=>intro q q';cases q;cases q';rfl
   |cons v vs U2=>
    intro(.cons qh qr) (.cons U3 U4);rw[List.forall_mem_cons]at h1 h2 h3;rw[ih h1.1 h2.1 h3.1 qh U3,U2 h1.2 h2.2 h3.2 qr U4]
  rcases jO r p with⟨ts,rfl⟩|⟨ts,rfl⟩|e
  ·rcases jO r' p' with⟨qH,rfl⟩|⟨qH,rfl⟩|e
   ·obtain⟨a,vs,rfl,h,rr⟩:=r.cQ;obtain⟨_,E4,e,h',vU⟩:=r'.cQ;cases e;cases I.j_ h h';rw[go (Nat.le_of_succ_le_succ hd) p p' rr vU]
   ·obtain⟨a,vs,rfl,h,rr⟩:=r.cQ;obtain⟨_,E4,e,h',vU⟩:=r'.lst_inv;cases e;exact(nR I h h').elim
   ·exact(mh e p' p r).symm
  ·rcases jO r' p' with⟨qH,rfl⟩|⟨qH,rfl⟩|e
   ·obtain⟨a,vs,rfl,h,rr⟩:=r.lst_inv;obtain⟨_,E4,e,h',vU⟩:=r'.cQ;cases e;exact(nR I h' h).elim
   ·obtain⟨a,vs,rfl,h,rr⟩:=r.lst_inv;obtain⟨_,E4,e,h',vU⟩:=r'.lst_inv;cases e;cases h.symm.trans h';rw[go (Nat.le_of_succ_le_succ hd) p p' rr vU]
   ·exact(mh e p' p r).symm
  ·exact mh e p p' r'
mutual
theorem vV:∀{t:Tr},og t=true->eqT t t=true
 |.cg,_=>rfl
 |.bl b,_=>by rw[eqT];exact bz b
 |.int i,_=>by rw[eqT];exact bz i
 |.str z,_=>by rw[eqT];exact bz z
 |.tup ts,h=>by rw[eqT];rw[og]at h;exact m7 h
 |.lst ts,h=>by rw[eqT];rw[og]at h;exact m7 h
 |.ty _,h=>by cases h
 |.jd _,h=>by cases h
 |.jI _,h=>by cases h
 |.at _,h=>by cases h
 |.bf _,h=>by cases h
 |.ob _ _,h=>by cases h
 |.yU _,h=>by cases h
theorem m7:∀{ts:List Tr},m6 ts=true->uv ts ts=true
 |[],_=>rfl
 |t::ts,h=>by
  rw[m6,aK]at h;rw[uv,vV h.1,m7 h.2]
  rfl
end
theorem y1{α:Type}{l:List α}{j:Nat}{x d:α}(h:l[j]?=some x):l.getD j d=x:=by rw[bH,h];rfl
inductive Sh(K:PySem.W.Frag)(G:Vw)(h:Heap):Tr->Value->Prop
 |cg:Sh K G h .cg .none
 |bl (b:Bool):Sh K G h (.bl b) (.bool b)
 |int (b:Int) (w:Tok):Sh K G h (.int b) (.int b w)
 |str (b:Str) (w:Tok):Sh K G h (.str b) (.str b w)
 |tup {a:Addr} {vs:List V} {ts:List Tr} {us:List Value} (q:h.IsTuple a us.toArray) (rr:aJ K G vs ts) (rv:Vals vs us):Sh K G h (.tup ts) (.ref a)
 |lst {a:Addr} {vs:List V} {ts:List Tr} {us:List Value} (q:h.IsList a us.toArray) (rr:aJ K G vs ts) (rv:Vals vs us):Sh K G h (.lst ts) (.ref a)
theorem ux(I:Inv X pins σ H s){x:V}{v:Value}{t:Tr}(p:og t=true)(r:Rep X.K (⟨H,vS⟩:Vw) x t)(rx:RelV x v):Sh X.K ⟨H,vS⟩ s.heap t v:=by
 cases r with
 |cg=>cases(show v=Value.none from rx);exact .cg
 |bl b=>cases(show v=Value.bool b from rx);exact .bl b
 |int b=>obtain⟨w,rfl⟩:=(show∃t,v=Value.int b t from rx);exact .int b w
 |str b _=>obtain⟨w,rfl⟩:=(show∃t,v=Value.str b t from rx);exact .str b w
 |@tup a _ _ h rr=>cases(show v=Value.ref a from rx);obtain⟨_,rv,q,_⟩:=I.tuple (Q9 h);exact .tup q rr rv
 |@lst a _ _ h rr=>cases(show v=Value.ref a from rx);obtain⟨_,rv,q,_⟩:=I.list (.of h);exact .lst q.isList rr rv
 |_=>cases p
theorem y3(I:Inv X pins σ H s)(n:Nat){A:Around}{x y:V}{v u:Value}{t t':Tr}(hd:dT t<=n)(p:og t=true)(p':og t'=true)(r:Rep X.K (⟨H,vS⟩:Vw) x t)(r':Rep X.K (⟨H,vS⟩:Vw) y t')(rx:RelV x v)(ry:RelV y u)(q:SeqAt.RcAt A s v u (eqT t t')):SeqAt.EqAt A s v u (eqT t t'):=by
 refine E2 (fun b t e=>?_) (fun e=>?_) q
 ·subst e;cases r<;>first|(obtain⟨_,z⟩:=rx;cases z;done)|(cases rx;done)
 subst e;rw[rx.inj ry]at r;rw[<-E3 I n hd p p' r r'];exact vV p
theorem y4{K:PySem.W.Frag}{G:Vw}{A:Around}{v u:Value}{t t':Tr}(S:Sh K G s.heap t v)(S':Sh K G s.heap t' u)(hu:A.units<cLine):(SeqAt.RcAt A s v u (eqT t t')/\SeqAt.RcNeAt A s v u (!eqT t t'))\/∃ts qH,(t=.tup ts/\t'=.tup qH)\/(t=.lst ts/\t'=.lst qH):=by
 cases S<;>cases S'<;>first|exact .inr ⟨_,_,.inl ⟨rfl,rfl⟩⟩|exact .inr ⟨_,_,.inr ⟨rfl,rfl⟩⟩|(refine .inl ⟨?_,?_⟩<;>simp only[eqT,pZ,il]<;>with_reducible first|exact .none_none|exact .none_bool _|exact .none_int _ _|exact .none_str _ _|exact .none_tuple ‹_› hu|exact .none_list ‹_› hu|exact .bool_none _|exact .bool_bool _ _|exact .bool_int _ _ _|exact .bool_str _ _ _|exact .bool_tuple _ ‹_› hu|exact .bool_list _ ‹_› hu|exact .int_none _ _|exact .int_bool _ _ _|exact .int_int _ _ _ _|exact .int_str _ _ _ _|exact .int_tuple _ _ ‹_› hu|exact .int_list _ _ ‹_› hu|exact .str_none _ _|exact .str_bool _ _ _|exact .str_int _ _ _ _|exact .str_str _ _ _ _|exact .str_tuple _ _ ‹_› hu|exact .str_list _ _ ‹_› hu|exact .tuple_none ‹_› hu|exact .tuple_bool _ ‹_› hu|exact .tuple_int _ _ ‹_› hu|exact .tuple_str _ _ ‹_› hu|exact .tuple_list ‹_› ‹_› hu|exact .list_none ‹_› hu|exact .list_bool _ ‹_› hu|exact .list_int _ _ ‹_› hu|exact .list_str _ _ ‹_› hu|exact .list_tuple ‹_› ‹_› hu)
theorem II(I:Inv X pins σ H s):∀(n:Nat) {A:Around} {x y:V} {v u:Value} {t t':Tr},dT t<=n->og t=true->og t'=true->Rep X.K (⟨H,vS⟩:Vw) x t->Rep X.K (⟨H,vS⟩:Vw) y t'->RelV x v->RelV y u->A.units+n<cLine->SeqAt.RcAt A s v u (eqT t t')/\SeqAt.RcNeAt A s v u (!eqT t t'):=by
 intro n
 induction n with
 |zero=>
  intro A x y v u t t' hd p p' r r' rx ry hu;rcases y4 (ux I p r rx) (ux I p' r' ry) (A:=A) (by omega)with h|⟨_,_,⟨rfl,_⟩|⟨rfl,_⟩⟩
  ·exact h
  all_goals exact absurd hd (by rw[dT];omega)
 |succ n ih=>
  intro A x y v u t t' hd p p' r r' rx ry hu;have hv:A.units<cLine:=by omega
  have items:∀{vs E4:List V} {us m8:List Value} {ts qH:List Tr},E1 ts<=n->m6 ts=true->m6 qH=true->aJ X.K (⟨H,vS⟩:Vw) vs ts->aJ X.K (⟨H,vS⟩:Vw) E4 qH->Vals vs us->Vals E4 m8->∀(j:Nat) (h1:j<us.toArray.size) (h2:j<m8.toArray.size),
    SeqAt.EqAt A.in1 s us.toArray[j] m8.toArray[j] (eqT (ts.getD j .cg) (qH.getD j .cg)):=by
   intro vs E4 us m8 ts qH d1 q1 q2 rr vU rv Ea j h1 h2;replace h1:j<us.length:=h1;replace h2:j<m8.length:=h2;have k1:=aF (Nat.lt_of_lt_of_eq h1 rv.length.symm);have k2:=aF (Nat.lt_of_lt_of_eq h2 Ea.length.symm);obtain⟨t1,e1,p1⟩:=rr.xH k1;obtain⟨t2,e2,p2⟩:=vU.xH k2;obtain⟨w1,f1,g1⟩:=rv.get k1;obtain⟨w2,f2,g2⟩:=Ea.get k2;rw[aF h1]at f1;rw[aF h2]at f2;rw[List.getElem_toArray,List.getElem_toArray,Option.some.inj f1,Option.some.inj f2,y1 e1,y1 e2];have m1:=bJ e1;have q2:=jN q2 _ (bJ e2);have q1:=jN q1 _ m1;have d:=bt (uw _ m1) d1;exact y3 I n d q1 q2 p1 p2 g1 g2 (ih d q1 q2 p1 p2 g1 g2 (by show A.units+1+n<cLine;omega)).1
  have S:=ux I p r rx;have S':=ux I p' r' ry;rcases y4 S S' hv with h|⟨ts,qH,⟨rfl,rfl⟩|⟨rfl,rfl⟩⟩
  ·exact h
  all_goals
   rw[dT]at hd;have it:=fun{vs E4 us m8}=>@items vs E4 us m8 _ _ (Nat.le_of_add_le_add_right hd) p p';have e:=vR ts qH;rw[eqT]
  ·cases S with|tup q rr rv=>
   cases S' with|tup q' vU Ea=>
   rw[<-e,<-rr.length,<-vU.length,rv.length,Ea.length];exact⟨.tuples q q' hv (it rr vU rv Ea),.tuples q q' hv (it rr vU rv Ea)⟩
  cases S with|lst q rr rv=>
  cases S' with|lst q' vU Ea=>
  have l:=rr.length;have l':=vU.length;rw[rv.length]at l;rw[Ea.length]at l';by_cases hz:ts.length=qH.length
  ·rw[hz,Nat.min_self,bz,Bool.and_true,<-hz,<-l]at e;rw[<-e];exact⟨.lists q q' (by simp;omega) hv (it rr vU rv Ea),.lists q q' (by simp;omega) hv (it rr vU rv Ea)⟩
  ·rw[dP hz,lP]at e;rw[<-e];exact⟨.lists_lengths q q' (by simp;omega) hv,.lists_lengths q q' (by simp;omega) hv⟩
end
section
variable {X:Cx}
def rR(a b:Tr):Rs Tr:=if og a=true/\og b=true/\dT a<=40 then .ok (.bl (eqT a b))else .bad
theorem xQ(hu:X.A.units+40<cLine):xm X (compareOp .Eq) rR:=by
 intro pins s σ H x y v u Q I rx ry ⟨B,tx,ty,hb,r1,r2,q⟩;obtain⟨⟨p1,p2,hd⟩,k⟩:=fi q;exact(II I 40 hd p1 p2 r1.up r2.up rx ry hu).1 _ _ _ _ ⟨.bl _,H,I,rfl,k _ H (au.refl H) (.bl _)⟩
end
end L2
namespace L2
open PySem PySem.Spec PyProof.Rows
section
variable {X:Cx}{pins:List (Addr×Obj)}{σ:St}{H:Hp}{vS:Addr->Option Nat}{s:Shared}
theorem Ct(I:Inv X pins σ H s)(n:Nat){A:Around}{x y:V}{v u:Value}{t t':Tr}(hd:dT t<=n)(p:og t=true)(p':og t'=true)(r:Rep X.K (⟨H,vS⟩:Vw) x t)(r':Rep X.K (⟨H,vS⟩:Vw) y t')(rx:RelV x v)(ry:RelV y u)(hu:A.units+n<cLine):SeqAt.EqAt A s v u (eqT t t'):=
 y3 I n hd p p' r r' rx ry (II I n hd p p' r r' rx ry hu).1
end
section
variable {X:Cx}
def mU(a b:Tr):Rs Tr:=if og a=true/\og b=true/\dT a<=40 then .ok (.bl (!eqT a b))else .bad
theorem Cu(hu:X.A.units+40<cLine):xm X (compareOp .NotEq) mU:=by
 intro pins s σ H x y v u Q I rx ry ⟨B,tx,ty,hb,r1,r2,q⟩;obtain⟨⟨p1,p2,hd⟩,k⟩:=fi q;exact(II I 40 hd p1 p2 r1.up r2.up rx ry hu).2 _ _ _ _ ⟨.bl _,H,I,rfl,k _ H (au.refl H) (.bl _)⟩
def Tf:Tr->Tr->Rs Tr
 |.int i,.int j=>.ok (.bl (decide (i<j)))
 |.str a,.str b=>.ok (.bl (decide (a.cps.toList<b.cps.toList)))
 |_,_=>.bad
def KH:Tr->Tr->Rs Tr
 |.int i,.int j=>.ok (.bl (decide (j<i)))
 |_,_=>.bad
theorem Rf:xm X (compareOp .Lt) Tf:=by
 intro pins s σ H x y v u Q I rx ry ⟨B,tx,ty,hb,r1,r2,q⟩;unfold Tf at q;split at q
 ·exact Ly pins s σ H _ _ v u Q I rx ry ⟨_,_,r1.int_inv,r2.int_inv,q _ H (au.refl H) (.bl _)⟩
 ·exact Ak pins s σ H _ _ v u Q I rx ry ⟨_,_,r1.str_inv.1,r2.str_inv.1,q _ H (au.refl H) (.bl _)⟩
 ·exact(show False from q).elim
theorem MB:xm X (compareOp .Gt) KH:=by
 intro pins s σ H x y v u Q I rx ry ⟨B,tx,ty,hb,r1,r2,q⟩;unfold KH at q;split at q
 ·exact Lz pins s σ H _ _ v u Q I rx ry ⟨_,_,r1.int_inv,r2.int_inv,q _ H (au.refl H) (.bl _)⟩
 ·exact(show False from q).elim
def Tg:Tr->Bool
 |.cg=>true
 |_=>false
theorem E5{K:PySem.W.Frag}{H:Vw}{x:V}{t:Tr}(r:Rep K H x t):decide (x=.cg)=Tg t:=by
 cases r<;>rfl
def Th:Tr->Tr->Rs Tr
 |a,.cg=>.ok (.bl (Tg a))
 |.bl a,.bl b=>.ok (.bl (a==b))
 |_,_=>.bad
theorem MC:xm X (compareOp .Is) Th:=by
 intro pins s σ H x y v u Q I rx ry ⟨B,tx,ty,hb,r1,r2,q⟩;unfold Th at q;split at q
 ·exact HE pins s σ H _ _ v u Q I rx ry ⟨r2.EL,by rw[E5 r1];exact q _ H (au.refl H) (.bl _)⟩
 ·exact Im pins s σ H _ _ v u Q I rx ry ⟨_,_,r1.ur,r2.ur,q _ H (au.refl H) (.bl _)⟩
 ·exact(show False from q).elim
def vW(aC:List (Key×Tr))(k:Key):Option Tr:=(aC.find? fun kv=>decide (kv.1=k)).map (·.2)
def E6:Tr->Option Key
 |.int i=>some (.inl i)
 |.str z=>some (.inr z)
 |_=>none
theorem y6{K:PySem.W.Frag}{H:Vw}{x:V}{t:Tr}{k:Key}(r:Rep K H x t)(e:E6 t=some k):x=kV k:=by
 cases r with
 |int i=>cases e;rfl
 |str z h=>cases e;rfl
 |_=>cases e
theorem y8{K:PySem.W.Frag}{H:Vw}(k:Key):∀{av:List (Key×V)} {aC:List (Key×Tr)},av.map (·.1)=aC.map (·.1)->aJ K H (av.map (·.2)) (aC.map (·.2))->(vW aC k=none/\kn av k=none)\/∃t v,vW aC k=some t/\kn av k=some v/\Rep K H v t
 |[],[],_,_=>.inl ⟨rfl,rfl⟩
 |[],_::_,e,_=>by cases e
 |_::_,[],e,_=>by cases e
 |(k1,v1)::av,(k2,t2)::aC,e,r=>by
  rw[aA,aA]at e;injection e with e1 e2
  have Eb:k1=k2:=e1;subst Eb;cases r with
  |cons h r=>
   by_cases q:k1=k
   ·refine .inr ⟨t2,v1,?_,jD q,h⟩;unfold vW;rw[dz,bA (show(k1,t2).1=k from q)]
    rfl
   ·rw[jE q];have e3:vW ((k1,t2)::aC) k=vW aC k:=by
     unfold vW;rw[dz,aY (show¬(k1,t2).1=k from q)]
    rw[e3];exact y8 k e2 r
def Ti:Tr->Bool
 |.cg=>true
 |.bl _=>true
 |.int _=>true
 |.str _=>true
 |_=>false
end
end L2
namespace L2
open PySem PySem.Spec PyProof.Rows
def Aw{α:Type}:Option α->Rs α
 |some a=>.ok a
 |none=>.bad
def Ec:Tr->Tr->Rs Tr
 |.tup ts,.int i=>Aw (rP ts i)
 |.lst ts,.int i=>Aw (rP ts i)
 |.str z,.int i=>(Aw (rP z.cps.toList i)).bind fun c=>.ok (.str ⟨#[c]⟩)
 |.jd ns,.int i=>(Aw (rP ns i)).bind fun n=>.ok (.int n)
 |.jI aC,t=>(Aw (E6 t)).bind fun k=>Aw (vW aC k)
 |_,_=>.bad
theorem aJ.rP {K:PySem.W.Frag}{H:Vw}{vs:List V}{ts:List Tr}{i:Int}{t:Tr}(r:aJ K H vs ts)(e:L2.rP ts i=some t):∃v,L2.rP vs i=some v/\Rep K H v t:=by
 unfold L2.rP at e⊢;rw[r.length];cases q:Gg ts.length i with
 |none=>rw[q]at e;cases e
 |some j=>
  rw[q]at e;obtain⟨v,e1,r1⟩:=r.get (show ts[j]?=some t from e);exact⟨v,e1,r1⟩
theorem fF{X:Cx}{H:Hp}{α:Type}{o:Option α}{k:α->Prop}(h:Fi X H (Aw o) k):∃a,o=some a/\k a:=by
 cases o with
 |none=>exact h.elim
 |some a=>exact⟨a,rfl,h⟩
section
variable {X:Cx}{a b e:Expr}{pos:Pos}{F G:az->Rs Tr}
theorem E7{α β:Type}(f:α->β)(xs:List α)(i:Int):L2.rP (xs.map f) i=(L2.rP xs i).map f:=by
 unfold L2.rP;rw[ai];cases Gg xs.length i with
 |none=>rfl
 |some j=>show(xs.map f)[j]?=_;rw[aU];rfl
theorem E8(c:Nat):(⟨#[c]⟩:Str).length<=iA:=by show 1<=iA;decide
theorem E9{K:PySem.W.Frag}{B:bQ}{H:Hp}{x y:V}{ty t:Tr}{aC:List (Key×Tr)}{k:Key}(r:Rep K (aN B H) x (.jI aC))(r2:Rep K (aN B H) y ty)(ek:E6 ty=some k)(et:vW aC k=some t):∃a w,x=.ref a/\mX H a y (some w)/\Rep K (aN B H) w t:=by
 obtain⟨a,av,e0,h,e,rr⟩:=r.EK;refine⟨a,?_⟩;rcases y8 k e rr with⟨h1,_⟩|⟨t',w,h1,h2,h3⟩
 ·cases et.symm.trans h1
 ·cases et.symm.trans h1;exact⟨w,e0,.inl ⟨av,k,h.same aE,y6 r2 ek,h2.symm⟩,h3⟩
theorem Rg(hu:X.A.units+1<cLine):Kz X (rT X Ec):=by
 intro value slice pins s σ H x y v u Q I rx ry ⟨B,tx,ty,hb,r1,r2,q⟩ hs;unfold Ec at q;split at q
 ·obtain⟨a,vs,e,h,rr⟩:=r1.cQ;obtain⟨t,et,k⟩:=fF q;obtain⟨w,ew,kh⟩:=rr.rP et;exact HN value slice pins s σ H _ _ v u Q I rx ry ⟨_,_,_,w,e,r2.int_inv,h.up,ew,k w H (au.refl H) kh⟩ hs
 ·obtain⟨a,vs,e,h,rr⟩:=r1.lst_inv;obtain⟨t,et,k⟩:=fF q;obtain⟨w,ew,kh⟩:=rr.rP et;exact yP value slice pins s σ H _ _ v u Q I rx ry ⟨_,_,_,w,e,r2.int_inv,.of (fq h),ew,k w H (au.refl H) kh⟩ hs
 ·obtain⟨c,et,k⟩:=fF (Fi.bind q);exact HP value slice pins s σ H _ _ v u Q I rx ry ⟨_,_,c,r1.str_inv.1,r2.int_inv,bt r1.str_inv.2 oG,et,k _ H (au.refl H) (.str _ (E8 c))⟩ hs
 ·obtain⟨n,et,k⟩:=fF (Fi.bind q);obtain⟨a,e,h⟩:=r1.yX;exact yP value slice pins s σ H _ _ v u Q I rx ry ⟨_,_,_,.int n,e,r2.int_inv,au.seq aE h,by rw[E7,et];rfl,k _ H (au.refl H) (.int n)⟩ hs
 ·obtain⟨k,ek,qk⟩:=fF (Fi.bind q);obtain⟨t,et,qt⟩:=fF qk;obtain⟨a,w,rfl,g,kh⟩:=E9 r1 r2 ek et;cases(show v=Value.ref a from rx);exact tail_any (nN I g) oZ.lookup (mY hu I g ry fun w' s' I' rv=>⟨w,H,I',rv,qt w H (au.refl H) kh⟩) hs
 ·exact(show False from q).elim
theorem Rh(hu:X.A.units+1<cLine)(ha:PE X a (tP X F))(hb:PE X b (tP X G))(hs:oD b:=by exact fun _ _=>rfl):PE X (.Subscript a b pos) (tP X fun ρ=>cq Ec (F ρ) (G ρ)):=
 (Gh (Rg hu) ha hb hs).weak fun _ _ _ q=>jJ q
variable {P1 P2:az->Rs (Option Int)}{lo hi:Option Expr}{p2:Pos}
variable {es:List Expr}{L:az->Rs (List Tr)}
def E_:List Tr->Rs Tr
 |[.str z]=>.ok (.int (z.length:Int))
 |[.tup ts]=>.ok (.int (ts.length:Int))
 |[.lst ts]=>.ok (.int (ts.length:Int))
 |[.jd ns]=>.ok (.int (ns.length:Int))
 |_=>.bad
theorem MD:iC X (.builtin "len") E_:=by
 intro pins s σ H xs us Q I rv ⟨B,ts,hb,r,q⟩;unfold E_ at q;split at q
 ·obtain⟨x,e,r⟩:=f_ r;exact l6 pins s σ H _ us Q I rv ⟨_,_,e,by rw[r.str_inv.1];exact⟨bt r.str_inv.2 oG,rfl⟩,q _ H (au.refl H) (.int _)⟩
 ·obtain⟨x,e,r⟩:=f_ r;obtain⟨a,vs,rfl,h,rr⟩:=r.cQ;exact l6 pins s σ H _ us Q I rv ⟨_,_,e,.inr ⟨_,h.up,rfl⟩,q _ H (au.refl H) (by rw[rr.length];exact .int _)⟩
 ·obtain⟨x,e,r⟩:=f_ r;obtain⟨a,vs,rfl,h,rr⟩:=r.lst_inv;exact l6 pins s σ H _ us Q I rv ⟨_,_,e,.inl ⟨_,.of (fq h),rfl⟩,q _ H (au.refl H) (by rw[rr.length];exact .int _)⟩
 ·obtain⟨x,e,r⟩:=f_ r;obtain⟨a,rfl,h⟩:=r.yX;exact l6 pins s σ H _ us Q I rv ⟨_,_,e,.inl ⟨_,au.seq aE h,rfl⟩,q _ H (au.refl H) (by rw[ai];exact .int _)⟩
 ·exact(show False from q).elim
def y9:List Tr->Rs Tr
 |[.tup ts]=>.ok (.lst ts)
 |[.lst ts]=>.ok (.lst ts)
 |_=>.bad
def cR:List Tr->Rs Tr
 |[.tup ts]=>.ok (.tup ts)
 |[.lst ts]=>.ok (.tup ts)
 |_=>.bad
theorem fG:iC X (.type "tuple") cR:=by
 intro pins s σ H xs us Q I rv ⟨B,ts,hb,r,q⟩;unfold cR at q;split at q
 ·obtain⟨x,e,r⟩:=f_ r;obtain⟨a,vs,rfl,h,rr⟩:=r.iV;exact kx pins s σ H _ us Q I rv ⟨_,_,e,.inr ⟨.inl (.inl (fq h)),q _ H (au.refl H) (.tup h rr)⟩⟩
 ·obtain⟨x,e,r⟩:=f_ r;obtain⟨a,vs,rfl,h,rr⟩:=r.lst_inv;exact kx pins s σ H _ us Q I rv ⟨_,_,e,.inl ⟨.of (fq h),fun p hp=>q _ _ (au.upd hp) (.MA hb hp rr)⟩⟩
 ·exact q.elim
def qI:Tr->String
 |.cg=>"NoneType"
 |.bl _=>"bool"
 |.int _=>"int"
 |.str _=>"str"
 |.ty _=>"type"
 |.tup _=>"tuple"
 |.lst _=>"list"
 |.jd _=>"list"
 |.jI _=>"dict"
 |.at _=>"object"
 |.bf _=>"dict"
 |.ob _ _=>"object"
 |.yU _=>"object"
def O7(t:Tr)(c:String):Bool:=qI t==c||(qI t=="bool"&&c=="int")
def kinds:List String:=["int","str","bool","tuple","list","dict"]
theorem y_(K:PySem.W.Frag):∀a∈["NoneType","bool","int","str","tuple","list","dict"],∀c∈kinds,PySem.W.kitOne K (.type a) (.type c)=some (a==c||(a=="bool"&&c=="int")):=by
 intro a ha c hc;simp only[kinds,aP,eK,dh]at ha hc;rcases ha with rfl|rfl|rfl|rfl|rfl|rfl|rfl<;>rcases hc with rfl|rfl|rfl|rfl|rfl|rfl<;>first|rfl|(unfold PySem.W.kitOne;exact ab (by decide))
def ME:Tr->Bool
 |.ty _|.at _|.ob _ _|.yU _=>true
 |_=>false
def MF:List Tr->Rs Tr
 |[t,.ty c]=>if ME t=false/\kinds.contains c=true then .ok (.bl (O7 t c))else .bad
 |_=>.bad
theorem Fb{pins:List (Addr×Obj)}{σ:St}{H:Hp}{vS:Addr->Option Nat}{s:Shared}{A:Around}{Q:Value->Shared->Prop}{E:Value->Shared->Prop}{x:V}{t:Tr}{u:Value}{c:String}(I:Inv X pins σ H s)(r:Rep X.K (⟨H,vS⟩:Vw) x t)(h0:ME t=false)(rx:RelV x u)(hc:c∈kinds)(h:∀tk,Q (.bool (O7 t c)) {s with toks:=tk}):
  wpAny (model X.prog X.w) A (call (.builtin "isinstance") [u,.type c]) Q E s:=by
 have Fc:=fun a ha=>y_ X.K a ha c hc;cases r with
 |cg=>exact iy I rx .cg (Fc _ (by decide)) h
 |bl b=>exact iy I rx (.bl b) (Fc _ (by decide)) h
 |int i=>exact iy I rx (.int i) (Fc _ (by decide)) h
 |str z hz=>exact iy I rx (.str z) (Fc _ (by decide)) h
 |ty n=>cases h0
 |«at» h=>cases h0
 |ob h e rr=>cases h0
 |yU h c=>cases h0
 |@bf a av aC hq e rr=>
  cases(show u=Value.ref a from rx);obtain⟨_,_,xs,_,o,es,ep,h1,h2,_⟩:=(show bu X.prog X.w H s.heap a (.dT av)from Cb I.bN hq);exact cM lH I.n5 ⟨o,h1,h2.1⟩ (Fc "dict" (by decide)) (fun z=>nomatch z) h
 |@tup a vs ts hq rr=>
  cases(show u=Value.ref a from rx);obtain⟨aV,rv,⟨o,h1,h2,_⟩,_⟩:=I.tuple (Q9 hq);exact cM PySem.W.kitx_tuple I.n5 ⟨o,h1,h2⟩ (Fc "tuple" (by decide)) (fun z=>nomatch z) h
 |lst hq rr=>exact iy I rx (.lst hq) (Fc _ (by decide)) h
 |@jd a ns hq=>
  cases(show u=Value.ref a from rx);obtain⟨aV,rv,⟨o,n,h1,h2,_⟩,_⟩:=I.list hq;exact cM pH I.n5 ⟨o,h1,h2⟩ (Fc "list" (by decide)) (fun z=>nomatch z) h
 |@jI a av aC hq e rr=>
  cases(show u=Value.ref a from rx);obtain⟨_,_,vs,_,p⟩:=(show bu X.prog X.w H s.heap a (.dK av)from hq.ok I.bN);obtain⟨o,es,ep,h1,h2,_⟩:=p;exact cM lH I.n5 ⟨o,h1,h2.1⟩ (Fc "dict" (by decide)) (fun z=>nomatch z) h
theorem sL:iC X (.builtin "isinstance") MF:=by
 intro pins s σ H xs us Q I rv ⟨B,ts,hb,r,q⟩;unfold MF at q;split at q
 ·obtain⟨⟨h0,h1⟩,k⟩:=fi q;obtain⟨x,y,rfl,r1,r2⟩:=qE r;obtain⟨v,u,rfl,v1,v2⟩:=vals2 rv;cases r2;cases v2;exact Fb I r1.up h0 v1 (by simpa using h1) fun tk=>⟨.bl _,H,I.tok _,rfl,k _ H (au.refl H) (.bl _)⟩
 ·exact q.elim
variable {o:Expr}{name:Str}{apos dg:Pos}{id:String}{h:Str->List Tr->Rs Tr}
end
end L2
namespace L2
open PySem PySem.Spec PyProof.Rows
section
variable {X:Cx}{a e:Expr}{pos:Pos}{F:az->Rs Tr}
end
theorem m9{k:Nat}{A:Around}(hr:de k A):A.units+40<cLine:=by have:=hr.units;omega
def Cv(n m:Nat)(G:az->Rs Out)(ts:List Tr):Rs Tr:=if ts.length=n then i4 (G (startT m ts))else .bad
theorem Fd{n m:Nat}{G:az->Rs Out}{ts:List Tr}{t:Tr}(h:Cv n m G ts=.ok t):ts.length=n:=by
 unfold Cv at h;split at h
 ·assumption
 ·cases h
theorem IJ{n m:Nat}{G:az->Rs Out}{ts:List Tr}{t:Tr}(h:Cv n m G ts=.ok t):i4 (G (startT m ts))=.ok t:=by
 unfold Cv at h;split at h
 ·exact h
 ·cases h
end L2
namespace L2
open PySem PySem.Spec PyProof.Rows
structure Ax(K:PySem.W.Frag)(H:Vw)(av:List (Key×V))(aC:List (Key×Tr)):Prop where
 keys:av.map (·.1)=aC.map (·.1)
 vals:aJ K H (av.map (·.2)) (aC.map (·.2))
section
variable {K:PySem.W.Frag}{H H':Vw}
theorem Ax.same {av:List (Key×V)}{aC:List (Key×Tr)}(s:cv H H')(h:Ax K H av aC):Ax K H' av aC:=⟨h.keys,h.vals.same s⟩
end
section
variable {X:Cx}{a e o f:Expr}{pos apos dg:Pos}{F G E:az->Rs Tr}{keys:List (Option Expr)}{vals:List Expr}{P:az->Rs (List (Tr×Tr))}
variable {x:Str}{aC:List (Str×Tr)}{p:Pos}
def Ay:List Tr->Rs (List Bool)
 |[]=>.ok []
 |.bl b::ts=>(Ay ts).bind fun zs=>.ok (b::zs)
 |_=>.bad
theorem zc{K:PySem.W.Frag}{H:Vw}{H0:Hp}{k:List Bool->Prop}:∀{ts:List Tr} {vs:List V},aJ K H vs ts->Fi X H0 (Ay ts) k->∃bs,k bs/\vs=bs.map V.bl
 |[],_,r,q=>by cases r;exact⟨[],q,rfl⟩
 |t::ts,_,r,q=>by
  cases r with
  |cons h r=>
   cases h with
   |bl b=>
    obtain⟨bs,k1,e⟩:=zc (k:=fun zs=>k (b::zs)) r (Fi.bind q);exact⟨b::bs,k1,by rw[e];rfl⟩
   |_=>exact(show False from q).elim
def Az:List Tr->Rs Tr
 |[.lst ts]=>(Ay ts).bind fun bs=>.ok (.bl (bs.all id))
 |_=>.bad
theorem MG(hc:X.calm=true):iC X (.builtin "all") Az:=by
 intro pins s σ H xs us Q I rv ⟨B,ts,hb,r,q⟩;unfold Az at q;split at q
 ·obtain⟨x,rfl,h⟩:=f_ r;obtain⟨a,vs,rfl,hl,rr⟩:=h.lst_inv;obtain⟨bs,k,rfl⟩:=zc rr (Fi.bind q);exact Ck hc pins s σ H _ us Q I rv ⟨_,bs,rfl,.of (fq hl),k _ H (au.refl H) (.bl _)⟩
 ·exact(show False from q).elim
end
end L2
namespace L2
open PySem
variable {K:PySem.W.Frag}{w:World}{es:List DictEntry}{av:List (Str×Value)}{aC:List (Str×Tr)}
end L2
namespace L2
open PySem PySem.Spec PyProof.Rows
inductive Dk:HO->Prop
 |k (av:List (Key×V)):Dk (.dK av)
 |t (av:List (List Key×V)):Dk (.dT av)
section
variable {X:Cx}{pins:List (Addr×Obj)}{σ:St}{H H1 H':Hp}{s:Shared}{a:Addr}{o:Obj}{u0:HO}{B:bQ}
theorem Inv.frozen (I:Inv X pins σ H s)(ha:H a=some u0)(hk:Dk u0)(ho:s.heap.get? a=some o):Inv X pins σ (upd H a (.fP o u0)) s:=by
 have ne:∀{b:Addr} {u:HO},H b=some u->u≠u0->b≠a:=fun{b u} e d z=>by subst z;rw[ha]at e;cases e;exact d rfl
 have nn:∀{b:Addr},H b=none->b≠a:=fun{b} e z=>by subst z;rw[ha]at e;cases e
 refine⟨I.ok,I.os,I.bare,⟨I.base.keep,I.base.slot,fun b ob e n hx=>?_,I.base.there,fun b xs e=>?_,fun b ob u e=>?_,fun b ps e=>?_⟩,I.loc,I.cell,?_,fun x c e=>?_,fun p hp=>?_,fun b u e=>?_,I.len⟩
 ·have q:=I.base.free b ob e n hx;rw[ah (nn q)];exact q
 ·have q:=I.base.kg b xs e;rw[ah (ne q (fun z=>by subst z;cases hk))];exact q
 ·have q:=I.base.i_ b ob u e;rw[ah (ne q (fun z=>by subst z;cases hk))];exact q
 ·obtain⟨m,q⟩:=I.base.jA b ps e;exact⟨m,by rw[ah (ne q (fun z=>by subst z;cases hk))];exact q⟩
 ·rw[ah (nn I.free)];exact I.free
 ·rw[ah (nn (I.f7 x c e))];exact I.f7 x c e
 ·obtain⟨p1,p2,p3⟩:=I.pin p hp;exact⟨p1,by rw[ah (nn p2)];exact p2,p3⟩
 ·have ow:∀c d,H c=some (.own d)->upd H a (.fP o u0) c=some (.own d):=fun c d q=>by rw[ah (ne q (fun z=>by subst z;cases hk))];exact q
  have tu:∀c xs,H c=some (.tup xs)->upd H a (.fP o u0) c=some (.tup xs):=fun c d q=>by rw[ah (ne q (fun z=>by subst z;cases hk))];exact q
  by_cases z:b=a
  ·subst z;rw[aH]at e;cases e;exact⟨ho,(I.bN b _ ha).kE (fun _ _ _ q=>q) (fun c q=>ow c b q) tu⟩
  ·rw[ah z]at e;exact(I.bN b u e).kE (fun _ _ _ q=>q) (fun c q=>ow c b q) tu
theorem Inv.IK (I:Inv X pins σ H s)(ha:H a=some (.fP o u0))(hk:Dk u0)(h0:∀o' u,X.vt a≠some (.fP o' u)):Inv X pins σ (upd H a u0) s:=by
 have ne:∀{b:Addr} {u:HO},H b=some u->u≠ .fP o u0->b≠a:=fun{b u} e d z=>by subst z;rw[ha]at e;cases e;exact d rfl
 have nn:∀{b:Addr},H b=none->b≠a:=fun{b} e z=>by subst z;rw[ha]at e;cases e
 refine⟨I.ok,I.os,I.bare,⟨I.base.keep,I.base.slot,fun b ob e n hx=>?_,I.base.there,fun b xs e=>?_,fun b ob u e=>?_,fun b ps e=>?_⟩,I.loc,I.cell,?_,fun x c e=>?_,fun p hp=>?_,fun b u e=>?_,I.len⟩
 ·have q:=I.base.free b ob e n hx;rw[ah (nn q)];exact q
 ·have q:=I.base.kg b xs e;rw[ah (ne q (fun z=>by cases z))];exact q
 ·have q:=I.base.i_ b ob u e;rw[ah (fun z=>by subst z;exact h0 _ _ e)];exact q
 ·obtain⟨m,q⟩:=I.base.jA b ps e;exact⟨m,by rw[ah (ne q (fun z=>by cases z))];exact q⟩
 ·rw[ah (nn I.free)];exact I.free
 ·rw[ah (nn (I.f7 x c e))];exact I.f7 x c e
 ·obtain⟨p1,p2,p3⟩:=I.pin p hp;exact⟨p1,by rw[ah (nn p2)];exact p2,p3⟩
 ·have ow:∀c d,H c=some (.own d)->upd H a u0 c=some (.own d):=fun c d q=>by rw[ah (ne q (fun z=>by cases z))];exact q
  have tu:∀c xs,H c=some (.tup xs)->upd H a u0 c=some (.tup xs):=fun c d q=>by rw[ah (ne q (fun z=>by cases z))];exact q
  by_cases z:b=a
  ·subst z;rw[aH]at e;cases e;exact(I.bN b _ ha).2.kE (fun _ _ _ q=>q) (fun c q=>ow c b q) tu
  ·rw[ah z]at e;exact(I.bN b u e).kE (fun _ _ _ q=>q) (fun c q=>ow c b q) tu
structure oh(H H':Hp)(a:Addr)(u u':HO)(u0:HO):Prop where
 fr:H a=some u
 to:H'=upd H a u'
 ok:(u=u0/\∃o,u'=.fP o u0)\/(u'=u0/\∃o,u=.fP o u0)
 dk:Dk u0
variable {u u':HO}
theorem oh.kz (w:oh H H' a u u' u0){b:Addr}{x:HO}(e:H b=some x)(h1:¬Dk x)(h2:∀o u,Dk u->x≠ .fP o u):H' b=some x:=by
 rw[w.to,ah ?_]
 ·exact e
 ·intro z;subst z;rw[w.fr]at e;cases e;rcases w.ok with⟨e1,_⟩|⟨_,o,e1⟩
  ·exact h1 (by rw[e1];exact w.dk)
  ·exact h2 _ _ w.dk e1
theorem fZ{B:bQ}{H H':Hp}{b:Addr}{x:HO}(e:(aN B H).H b=some x)(h:H b=some x->H' b=some x):(aN B H').H b=some x:=by
 have e':(if B.hd b=true then none else H b)=some x:=e;show(if B.hd b=true then none else H' b)=some x;split at e'
 ·cases e'
 ·rename_i n;rw[ae n];exact h e'
theorem oh.seq {K:PySem.W.Frag}(w:oh H H' a u u' u0){b:Addr}{xs:List V}(h:iw K (aN B H).H b xs):iw K (aN B H').H b xs:=by
 rcases h with(h|⟨o,h⟩)|h
 ·exact .inl (.inl (fZ h fun e=>w.kz e (fun z=>by cases z) fun _ _ d z=>by cases z<;>cases d))
 ·exact .inl (.inr ⟨o,fZ h fun e=>w.kz e (fun z=>by cases z) fun _ _ d z=>by cases z<;>cases d⟩)
 ·exact .inr h
theorem oh.tup {K:PySem.W.Frag}(w:oh H H' a u u' u0){b:Addr}{xs:List V}(h:gW K (aN B H).H b xs):gW K (aN B H').H b xs:=by
 rcases h with(h|⟨o,h⟩)|h
 ·exact .inl (.inl (fZ h fun e=>w.kz e (fun z=>by cases z) fun _ _ d z=>by cases z<;>cases d))
 ·exact .inl (.inr ⟨o,fZ h fun e=>w.kz e (fun z=>by cases z) fun _ _ d z=>by cases z<;>cases d⟩)
 ·exact .inr h
theorem oh.rd (w:oh H H' a u u' u0){b:Addr}{x:HO}(hx:Dk x)(h:Rd (aN B H).H b x):Rd (aN B H').H b x:=by
 by_cases z:b=a
 ·subst z;have hb:B.hd b=false:=by
   cases q:B.hd b with
   |false=>rfl
   |true=>
    have n:(aN B H).H b=none:=by show(if B.hd b=true then none else H b)=none;rw[ab q]
    rcases h with h|⟨o,h⟩<;>(rw[n]at h;cases h)
  have h':Rd H b x:=by unfold Rd at h⊢;rw[cC hb]at h;exact h
  have dk:=w.dk;have ek:x=u0:=by
   rcases h' with h|⟨o,h⟩<;>rw[w.fr]at h<;>rcases w.ok with⟨e1,_⟩|⟨_,o',e1⟩<;>rw[e1]at h<;>cases h
   ·rfl
   ·cases hx
   ·cases dk
   ·rfl
  subst ek;unfold Rd;rw[cC hb,w.to,aH];rcases w.ok with⟨_,o',e1⟩|⟨e1,_⟩
  ·rw[e1];exact .inr ⟨o',rfl⟩
  ·rw[e1];exact .inl rfl
 ·have hn:(aN B H').H b=(aN B H).H b:=by
   show(if B.hd b=true then none else H' b)=(if B.hd b=true then none else H b);rw[w.to,ah z]
  unfold Rd;rw[hn];exact h
theorem oh.rep {K:PySem.W.Frag}(w:oh H H' a u u' u0){v:V}{t:Tr}(h:Rep K (aN B H) v t):Rep K (aN B H') v t:=by
 refine Rep.rec (motive_1:=fun v t _=>Rep K (aN B H') v t) (motive_2:=fun vs ts _=>aJ K (aN B H') vs ts) ?_ ?_ ?_ ?_ ?_ ?_ ?_ ?_ ?_ ?_ ?_ ?_ ?_ ?_ ?_ h
 ·exact .cg
 ·exact fun b=>.bl b
 ·exact fun i=>.int i
 ·exact fun z h=>.str z h
 ·exact fun n=>.ty n
 ·exact fun h=>.jd (w.seq h)
 ·exact fun h _ r=>.tup (fZ h fun e=>w.kz e (fun z=>by cases z) fun _ _ d z=>by cases z<;>cases d) r
 ·exact fun h _ r=>.lst (fZ h fun e=>w.kz e (fun z=>by cases z) fun _ _ d z=>by cases z<;>cases d) r
 ·exact fun h e _ r=>.jI (w.rd (.k _) h) e r
 ·exact fun h=>.at h
 ·exact fun h e _ r=>.bf (w.rd (.t _) h) e r
 ·exact fun h e _ r=>.ob (fZ h fun e=>w.kz e (fun z=>by cases z) fun _ _ d z=>by cases z<;>cases d) e r
 ·exact fun h c=>.yU (fZ h fun e=>w.kz e (fun z=>by cases z) fun _ _ d z=>by cases z<;>cases d) c
 ·exact .nil
 ·exact fun _ _ h r=>.cons h r
theorem oh.AA {K:PySem.W.Frag}(w:oh H H' a u u' u0):∀{vs:List V} {ts:List Tr},aJ K (aN B H) vs ts->aJ K (aN B H') vs ts
 |[],_,h=>by cases h;exact .nil
 |_::_,_,h=>by cases h with|cons h r=>exact .cons (w.rep h) (oh.AA w r)
theorem oh.xR {K:PySem.W.Frag}{ρ:az}(w:oh H H' a u u' u0)(h:bg K B H σ ρ):bg K B H' σ ρ:=
 ⟨h.len,fun i t e=>by obtain⟨v,e1,r⟩:=h.sh i t e;exact⟨v,e1,w.rep r⟩,
   fun i ts e=>by obtain⟨D,ys,e1,e2,e3,r⟩:=h.ow i ts e;exact⟨D,ys,e1,e2,w.kz e3 (fun z=>by cases z) (fun _ _ d z=>by cases z<;>cases d),w.AA r⟩,h.ap⟩
theorem oh.hb (w:oh H H' a u u' u0)(h:HB B H):HB B H':=fun b e=>by
 obtain⟨o,q,n⟩:=h b e;by_cases z:b=a
 ·subst z;rw[w.to];refine⟨_,aH,fun vs z=>?_⟩;rcases w.ok with⟨_,o',e1⟩|⟨e1,_⟩
  ·rw[e1]at z;cases z
  ·rw[e1]at z;have d:=w.dk;rw[z]at d;cases d
 ·exact⟨o,by rw[w.to,ah z];exact q,n⟩
def uy(X:Cx)(B:bQ)(H H':Hp):Prop:=au H H'\/∃H1 a o u0,Dk u0/\au H H1/\B.hd a=false/\H1 a=some u0/\H'=upd H1 a (.fP o u0)/\∀o u,X.vt a≠some (.fP o u)
def fS(X:Cx)(H:Hp)(k:Hp->Prop):Prop:=k H\/∃a o u0,Dk u0/\H a=some (.fP o u0)/\(∀o u,X.vt a≠some (.fP o u))/\k (upd H a u0)
theorem fS.inv {k:Hp->Prop}(q:fS X H k)(I:Inv X pins σ H s):∃H',Inv X pins σ H' s/\k H':=by
 rcases q with q|⟨a,o,u0,hk,e,h0,q⟩
 ·exact⟨H,I,q⟩
 ·exact⟨_,I.IK e hk h0,q⟩
theorem PE.IL {e:Expr}{t:TE}(h:PE X e t):PE X e (fun σ H Q=>t σ H fun v H'=>fS X H' (Q v)):=fun pins s σ H Q I q=>
 du (h pins s σ H _ I q) fun u s' ⟨v,H',I',r,z⟩=>by
  obtain⟨H2,I2,q2⟩:=z.inv I';exact⟨v,H2,I2,r,q2⟩
def Ends.IL (X:Cx)(D:Ends):Ends:=⟨fun σ H=>fS X H (D.nx σ),fun v H=>fS X H (D.rt v),fun σ H=>fS X H (D.bk σ),fun σ H=>fS X H (D.ct σ)⟩
theorem PS.IL {st:Stmt}{t:TS}(h:PS X st t):PS X st (fun D σ H=>t (D.IL X) σ H):=fun pins s σ H D I q=>
 du (h pins s σ H _ I q) fun f s' z=>by
  cases f with
  |next=>obtain⟨bP,H',I',z⟩:=z;obtain⟨H2,I2,q2⟩:=fS.inv z I';exact⟨bP,H2,I2,q2⟩
  |brk=>obtain⟨bP,H',I',z⟩:=z;obtain⟨H2,I2,q2⟩:=fS.inv z I';exact⟨bP,H2,I2,q2⟩
  |cont=>obtain⟨bP,H',I',z⟩:=z;obtain⟨H2,I2,q2⟩:=fS.inv z I';exact⟨bP,H2,I2,q2⟩
  |ret u=>obtain⟨v,bP,H',I',r,z⟩:=z;obtain⟨H2,I2,q2⟩:=fS.inv z I';exact⟨v,bP,H2,I2,r,q2⟩
theorem uy.xR {K:PySem.W.Frag}{ρ:az}(h:uy X B H H')(r:bg K B H σ ρ):bg K B H' σ ρ:=by
 rcases h with s|⟨H1,a,o,u0,hk,s,hv,ha,rfl,h0⟩
 ·exact r.same s
 ·exact oh.xR (u:=u0) ⟨ha,rfl,.inl ⟨rfl,o,rfl⟩,hk⟩ (r.same s)
theorem uy.hb (h:uy X B H H')(r:HB B H):HB B H':=by
 rcases h with s|⟨H1,a,o,u0,hk,s,hv,ha,rfl,h0⟩
 ·exact r.same s
 ·exact oh.hb (u:=u0) ⟨ha,rfl,.inl ⟨rfl,o,rfl⟩,hk⟩ (r.same s)
theorem uy.free {p:Addr}(h:uy X B H H')(e:H' p=none):H p=none:=by
 rcases h with s|⟨H1,a,o,u0,hk,s,hv,ha,rfl,h0⟩
 ·exact s.free e
 ·refine s.free ?_
  by_cases z:p=a
  ·subst z;rw[aH]at e;cases e
  ·rw[ah z]at e;exact e
theorem uy.back {H2:Hp}{B2:bQ}{C:bQ}(h:uy X B H H')(si:cG C B H' B2 H2):∃Hu,cG C B H B2 Hu/\(∀{K:PySem.W.Frag} {B3:bQ} {v:V} {t:Tr},Rep K (aN B3 H2) v t->Rep K (aN B3 Hu) v t)/\(∀{K:PySem.W.Frag} {σ:St} {ρ:az},bg K B2 H2 σ ρ->bg K B2 Hu σ ρ)/\∀k:Hp->Prop,k Hu->fS X H2 k:=by
 rcases h with s|⟨H1,a,o,u0,hk,s,hv,ha,rfl,h0⟩
 ·exact⟨H2,⟨fun b o c e=>si.kp b o c (s _ _ e),(aZ s).trans si.fY,si.sub,si.hb⟩,fun r=>r,fun r=>r,fun k q=>.inl q⟩
 ·have e1:(aN B (upd H1 a (.fP o u0))).H a=some (.fP o u0):=by rw[cC hv];exact aH
  have e2:=si.fY.h _ _ e1;have e3:H2 a=some (.fP o u0):=aE _ _ e2;have w:oh H2 (upd H2 a u0) a (.fP o u0) u0 u0:=⟨e3,rfl,.inr ⟨rfl,o,rfl⟩,hk⟩;have O8:B2.hd a=false:=by
   cases q:B2.hd a with
   |false=>rfl
   |true=>
    have n:(aN B2 H2).H a=none:=by show(if B2.hd a=true then none else H2 a)=none;rw[ab q]
    rw[n]at e2;cases e2
  refine⟨upd H2 a u0,⟨fun b ob c e=>?_,⟨fun b ob e=>?_,fun b i e=>?_⟩,si.sub,w.hb si.hb⟩,fun r=>w.rep r,fun r=>w.xR r,fun k q=>.inr ⟨a,o,u0,hk,e3,h0,q⟩⟩
  ·have q:=s _ _ e;by_cases z:b=a
   ·subst z;rw[ha]at q;cases q;exact aH
   ·rw[ah z];exact si.kp b ob c (by rw[ah z];exact q)
  ·by_cases z:b=a
   ·subst z;have q:=s _ _ (aE _ _ e);rw[ha]at q;cases q;rw[cC O8];exact aH
   ·have q:(aN B (upd H1 a (.fP o u0))).H b=some ob:=fZ e fun e=>by rw[ah z];exact s _ _ e
    exact fZ (si.fY.h _ _ q) fun e=>by rw[ah z];exact e
  ·exact si.fY.x b i e
theorem uy.Gu {H2:Hp}(h:uy X B H H')(hb:HB B H)(s2:au H' H2):∃Hu,au H Hu/\(∀{K:PySem.W.Frag} {B3:bQ} {v:V} {t:Tr},Rep K (aN B3 H2) v t->Rep K (aN B3 Hu) v t)/\∀k:Hp->Prop,k Hu->fS X H2 k:=by
 obtain⟨Hu,si,r,_,k⟩:=h.back (C:=B) (B2:=B) (H2:=H2) ⟨fun b o _ e=>s2 _ _ e,aZ s2,.refl,(h.hb hb).same s2⟩;exact⟨Hu,si.same,r,k⟩
end
def mi:Key->Tr
 |.inl i=>.int i
 |.inr z=>.str z
def keyOk:Key->Bool
 |.inl _=>true
 |.inr z=>decide (z.length<=iA)
theorem AB{K:PySem.W.Frag}{W:Vw}{k:Key}(h:keyOk k=true):Rep K W (kV k) (mi k):=by
 cases k with
 |inl i=>exact .int i
 |inr z=>exact .str z (bM h)
inductive tJ(X:Cx)(W:az->Rs (List Tr))(σ:St)(H:Hp)(R:It->Hp->Prop):Prop
 |mk (B:bQ) (ρ:az):HB B H->bg X.K B H σ ρ->(Fi X H (W ρ) fun ts=>∀J H',uy X B H H'->jK X.K B J H' ts->R J H')->tJ X W σ H R
section
variable {X:Cx}{pins:List (Addr×Obj)}{σ:St}
variable {a b e:Expr}{es:List Expr}{pos:Pos}{F G:az->Rs Tr}{A:az->Rs Bool}{scope:Scope}{N':List Str}{ix:List (Option Nat)}{elt iter tg:Expr}{ifs:List Expr}{T:kL}{W:az->Rs (List Tr)}
theorem AD{σ:St}{H:Hp}{Q:VK}(hT:iG T)(q:tP X (fun ρ=>gX ix T A F (W ρ) ρ) σ H Q):KC (tJ X W) ix (Gs X.K T) (Gr X.K A) (Gq X.K F) σ H (fun v H'=>fS X H' (Q v)):=by
 obtain⟨B,ρ,hb,r,q⟩:=q;refine⟨B,ρ,hb,r,q.bind.mono fun ts qt J H1 tf gt D hD=>?_⟩;by_cases hz:ts.length<=i3
 ·rw[ab hz]at qt;exact oJ hT (oH ix ρ) (tf.hb hb) gt hz ((tf.xR r).comp ix (iE hD)) hD (Fi.bind qt) fun ys H' k s' rp=>by
   obtain⟨Hu,su,ru,ku⟩:=tf.Gu hb s';exact ku _ (k _ Hu su (ru rp))
 ·rw[ae hz]at qt;exact qt.elim
theorem MH(Lk:fR X N' ix scope)(hi:PI X tg iter (tJ X W))(l_:IG X scope N' tg elt ifs T A F)(hT:iG T)(hc:X.calm=true:=by rfl) (hs:isSet iter=false:=by rfl):
  PE X (.ListComp elt [⟨tg,iter,ifs,0⟩] scope pos) (tP X fun ρ=>gX ix T A F (W ρ) ρ):=
 (Cj Lk hc hi l_.O6 (dY hs)).IL.weak fun σ H Q q=>AD hT q
end
end L2
namespace L2
open PySem PySem.Spec PyProof.Rows
def kN(xs:Array Nat):Prop:=xs.toList.Pairwise (· <·)
theorem kN.lt {xs:Array Nat}(h:kN xs){i j:Nat}(rQ:i<j)(hj:j<xs.size):xs.getD i 0<xs.getD j 0:=by
 have q:=o4.mp h i j (by rw[bK];omega) (by rw[bK];exact hj) rQ;rw[cj,cj,cH (by omega),cH hj];simpa using q
theorem qJ{xs:Array Nat}{j:Nat}(h:kN xs):∀(f lo hi:Nat),lo<=hi->hi<=xs.size->hi - lo<=f->(∀k,k<lo->xs.getD k 0<j)->(∀k,hi<=k->k<xs.size->j<=xs.getD k 0)->
  ∀p,SetTable.below.go xs j f lo hi=p->p<=xs.size/\(∀k,k<p->xs.getD k 0<j)/\∀k,p<=k->k<xs.size->j<=xs.getD k 0
 |0,lo,hi,h1,h2,h3,h4,h5,p,e=>by
  have:lo=hi:=by omega
  subst this;subst e;exact⟨h2,h4,h5⟩
 |f+1,lo,hi,h1,h2,h3,h4,h5,p,e=>by
  unfold SetTable.below.go at e;by_cases hl:lo<hi
  ·rw[ab hl]at e;dsimp only at e;have hm:(lo+hi)/2<xs.size:=by omega
   have hg:xs.getD ((lo+hi)/2) j=xs.getD ((lo+hi)/2) 0:=by
    rw[cj,cj,cH hm];rfl
   rw[hg]at e;by_cases hv:xs.getD ((lo+hi)/2) 0<j
   ·rw[ab hv]at e;refine qJ h f _ hi (by omega) h2 (by omega) (fun k hk=>?_) h5 p e;by_cases Fe:k=(lo+hi)/2
    ·rw[Fe];exact hv
    ·exact Nat.lt_trans (h.lt (show k<(lo+hi)/2 by omega) hm) hv
   ·rw[ae hv]at e;refine qJ h f lo _ (by omega) (by omega) (by omega) h4 (fun k hk U5=>?_) p e;by_cases Fe:k=(lo+hi)/2
    ·rw[Fe];omega
    ·have:=h.lt (show(lo+hi)/2<k by omega) U5;omega
  ·rw[ae hl]at e;have:lo=hi:=by omega
   subst this;subst e;exact⟨h2,h4,h5⟩
theorem below_at{xs:Array Nat}(h:kN xs)(j:Nat):SetTable.below xs j<=xs.size/\(∀k,k<SetTable.below xs j->xs.getD k 0<j)/\∀k,SetTable.below xs j<=k->k<xs.size->j<=xs.getD k 0:=
 qJ h xs.size 0 xs.size (bG _) (ar _) (ar _) (fun k hk=>absurd hk (pV _)) (fun k h1 h2=>absurd h2 (by omega)) _ rfl
theorem xT{xs:Array Nat}(h:kN xs):SetTable.below xs 0=0:=by
 have q:=(below_at h 0).2.1;cases e:SetTable.below xs 0 with
 |zero=>rfl
 |succ n=>exact absurd (q 0 (by omega)) (by omega)
theorem xU{xs:Array Nat}(h:kN xs){i:Nat}(hi:i<xs.size):SetTable.below xs (xs.getD i 0+1)=i+1:=by
 have⟨q0,q1,q2⟩:=below_at h (xs.getD i 0+1);by_cases h1:SetTable.below xs (xs.getD i 0+1)<=i
 ·have:=q2 i h1 hi;omega
 ·by_cases h2:i+1<SetTable.below xs (xs.getD i 0+1)
  ·have:=q1 (i+1) h2;have:=h.lt (show i<i+1 by omega) (by omega);omega
  ·omega
theorem Cw{xs:Array Nat}(h:kN xs){j:Nat}(hj:¬xs[SetTable.below xs j]?=some j):kN (SetTable.insertAt xs (SetTable.below xs j) j):=by
 have⟨q0,q1,q2⟩:=below_at h j;generalize SetTable.below xs j=p at*;have e:(SetTable.insertAt xs p j).toList=xs.toList.take p++j::xs.toList.drop p:=by
  unfold SetTable.insertAt;simp;exact List.take_of_length_le (by simp)
 unfold kN;rw[e,List.pairwise_append];have gl:∀{k:Nat} (hk:k<xs.toList.length),xs.toList[k]=xs.getD k 0:=fun{k} hk=>by
  rw[cj,cH (by rw[<-bK];exact hk)];simp
 have MI:∀a∈xs.toList.take p,a<j:=fun a ha=>by
  obtain⟨k,hk,e⟩:=List.mem_iff_getElem.mp ha;rw[pO,bK]at hk;rw[List.getElem_take,gl (by rw[bK];omega)]at e;rw[<-e];exact q1 k (by omega)
 have Gv:∀b∈xs.toList.drop p,j<b:=fun b hb=>by
  obtain⟨k,hk,e⟩:=List.mem_iff_getElem.mp hb;rw[List.length_drop,bK]at hk;rw[List.getElem_drop,gl (by rw[bK];omega)]at e;have h1:=q2 (p+k) (by omega) (by omega);rw[e]at h1;rcases Nat.lt_or_ge j b with h2|h2
  ·exact h2
  ·have h3:b=j:=Nat.le_antisymm h2 h1;subst h3;exfalso;by_cases Ff:k=0
   ·subst Ff;refine hj ?_
    rw[cH (by omega)];rw[cj,cH (by omega)]at e;simpa using e
   ·have h4:=h.lt (show p<p+k by omega) (by omega);have h5:=q2 p (ar _) (by omega);omega
 refine⟨h.sublist (List.take_sublist _ _),List.pairwise_cons.mpr ⟨Gv,h.sublist (List.drop_sublist _ _)⟩,fun a ha b hb=>?_⟩;rcases aP.mp hb with rfl|hb
 ·exact MI a ha
 ·exact Nat.lt_trans (MI a ha) (Gv b hb)
end L2
namespace L2
open PySem PySem.Spec PyProof.Rows
theorem iX{α:Type}:∀(l:List α) (i:Nat) (hi:i<l.length),(l[i]::l.eraseIdx i).Perm l
 |x::r,0,_=>List.Perm.refl _
 |x::r,i+1,hi=>by
  have ih:=iX r i (by simpa using hi);have uz:i<r.length:=by simpa using hi
  show(r[i]::x::r.eraseIdx i).Perm (x::r);exact(List.Perm.swap _ _ _).trans (ih.cons x)
theorem perm_back{α β:Type}{f:α->β}(g:β->α)(fe:∀p,g (f p)=p){l:List α}{es:List β}(hp:es.Perm (l.map f)):∃l':List α,es=l'.map f/\l'.Perm l:=by
 have h1:∀e∈es,f (g e)=e:=fun e he=>by
  obtain⟨p,_,rfl⟩:=aQ.mp (hp.mem_iff.mp he);rw[fe]
 refine⟨es.map g,?_,?_⟩
 ·rw[bq]
  conv=>lhs;rw[<-List.map_id es]
  exact eD fun e he=>(h1 e he).symm
 ·have h2:=hp.map g;rw[bq,show List.map (g∘f) l=l by
   conv=>rhs;rw[<-List.map_id l]
   exact eD fun p _=>fe p]at h2
  exact h2
section
variable {prog:Program}{w:World}{A:Around}{E:Value->Shared->Prop}{s:Shared}
theorem xV{M:Model}{src:Source}{n:Nat}{Q:Nat->Shared->Prop}(hn:n≠0)(h:∀i,i<n->∀d,Q i {s with drawn:=d}):wpAny M A (choose src n) Q E s:=fun Γ p _=>by
 unfold choose;rw[Sem.wp];refine⟨hn,?_⟩;rw[Sem.wp];exact h _ (gA _ (Nat.pos_of_ne_zero hn)) _
theorem kA{M:Model}{α:Type}:∀(n:Nat) (xs:List α) (s:Shared) (Q:List α->Shared->Prop),xs.length=n->(∀ys d,ys.Perm xs->Q ys {s with drawn:=d})->wpAny M A (drawOrder n xs) Q E s
 |0,xs,s,Q,hl,h=>by
  cases xs with
  |nil=>exact af (h [] s.drawn (List.Perm.refl _))
  |cons _ _=>cases hl
 |n+1,[],s,Q,hl,h=>by cases hl
 |n+1,x::r,s,Q,hl,h=>by
  unfold drawOrder;refine aa (xV (by simp) fun i hi d=>?_);have hx:(x::r)[i]?=some (x::r)[i]:=aF hi
  rw[hx];dsimp only;refine aa (kA n _ _ _ (by rw[oX hi];simpa using hl) fun ys d' hp=>?_);refine af (h _ d' ?_);exact(hp.cons _).trans (iX _ i hi)
end
abbrev vd(w:World):Bool:=w.params.followText "set-order"
def kW:Key->Tok->Value
 |.inl i,t=>.int i t
 |.inr x,t=>.str x t
theorem Gw{k:Key}{t:Tok}:l0 k (kW k t)=true:=by cases k<;>simp[l0,kW,Value.isInt,Value.isStrOf]
end L2
namespace L2
open PySem PySem.Spec PyProof.Rows
theorem cf:Slot "set_iterator" "__next__" "set_iterator.__next__":=.of (owner:="set_iterator") (n:="__next__")
 (by rw[lU,lE];kernel_rfl) (by decide+kernel) (by decide+kernel) (by decide+kernel) (by first|exact .inl (by decide+kernel)|exact .inr (by decide+kernel))
 (by rw[isSubtype_type];kernel_rfl)
theorem iI:entryFor table "set_iterator.__next__"=some Builtin.«set_iterator.__next__»:=entryFor_of_tree (by kernel_rfl)
theorem nT:Manifest.owners.lookup (String.ofList ['r', 'o', 't', 'a', 'r', 'e', 't', 'i', '_', 't', 'e', 's'].reverse)=some Manifest.sig_set_iterator:=by kernel_rfl
theorem i5(a:Value):argsOk "set_iterator.__next__" ⟨[a],[]⟩:=by
 unfold argsOk;rw[signature?_of (id:="set_iterator.__next__") (n:=['_', '_', 't', 'x', 'e', 'n', '_', '_']) (o:=['r', 'o', 't', 'a', 'r', 'e', 't', 'i', '_', 't', 'e', 's']) (by kernel_rfl) nT];kernel_rfl
theorem i6:Slot "set_iterator" "__iter__" "set_iterator.__iter__":=.of (owner:="set_iterator") (n:="__iter__")
 (by rw[lU,lE];kernel_rfl) (by decide+kernel) (by decide+kernel) (by decide+kernel) (by first|exact .inl (by decide+kernel)|exact .inr (by decide+kernel))
 (by rw[isSubtype_type];kernel_rfl)
theorem oj:entryFor table "set.__iter__"=some Builtin.«frozenset.__iter__»:=entryFor_alias (id':="frozenset.__iter__") (by kernel_rfl) rfl (by decide+kernel) (by kernel_rfl)
def nU(F:Value)(i:Nat)(a:Addr)(n ep:Nat):Obj:={cls:=.type "set_iterator",dict:=none,data:=.fields #[F,rawInt i,.ref a,rawInt n,rawInt ep],slots:=#[]}
section
variable {prog:Program}{w:World}{A:Around}{E:Value->Shared->Prop}{s:Shared}{I a:Addr}{o:Obj}{es:Array (Int×Value)}{ep:Nat}{t:SetTable}
theorem hJ{Q:Array (Int×Value)->Shared->Prop}(ho:s.heap.get? a=some o)(hd:o.data=.set es ep t)(hf:t.fits es.size=true)(h:Q es s):wpAny (model prog w) A (setEntries a) Q E s:=by
 unfold setEntries;exact aa (eJ ho hd hf (af h))
theorem qK{α:Type}{R:α->Shared->Prop}(hh:A.handled=none)
  (h:∀h' (x:Addr),Shared.TypeIs {s with heap:=h'} (.ref x) "StopIteration"->(∀b o,s.heap.get? b=some o->h'.get? b=some o)->E (.ref x) {s with heap:=h'}):
  wpAny (model prog w) A.in1 (newExc (.type "StopIteration") []) (fun x s'=>wpAny (model prog w) A.in1 (raiseNew x:Sem α) R E s') E s:=by
 simp only[newExc,newTuple];refine aa (eG ?_ (by size_fits));refine aa (m:=firstArgMember _ _) (wpAny_of_eq (a:=Value.none) (by first|rfl|(simp only[firstArgMember];rfl)) ?_);refine eG ?_ (by size_fits)
 simp only[raiseNew];refine aa (wpAny_handled ?_)
 first|rw[show A.in1.handled=none from hh]|rw[hh]
 refine aa (af (wpAny_throw ?_));exact h _ _ ⟨_,aT _ rfl,rfl⟩ fun b o e=>aB _ (aB _ e)
theorem uA{slot i:Nat}{r:Option (Value×Nat)}{Q:Option Value->Shared->Prop}(hh:A.handled=none)(hit:s.heap.get? I=some (nU (rawInt slot) i a es.size ep))(ho:s.heap.get? a=some o)(hd:o.data=.set es ep t)(hf:t.fits es.size=true)
  (hn:∀(B:Around) (E':Value->Shared->Prop) (Q':Option (Value×Nat)->Shared->Prop),Q' r s->wpAny (model prog w) B (setNext a slot i ep) Q' E' s)
  (h1:∀x nx,r=some (x,nx)->∀h',h'.get? I=some (nU (rawInt nx) (i+1) a es.size ep)->Heap.SameBut I s.heap h'->Q (some x) {s with heap:=h'})
  (h2:r=none->∀h',Heap.ExtBut I s.heap h'->Q none {s with heap:=h'}):wpAny (model prog w) A (pyNext (.ref I)) Q E s:=by
 have hT:s.TypeIs (.ref I) "set_iterator":=⟨_,hit,rfl⟩;unfold pyNext;refine aa (gx (gS (name:=Str.ofString "__next__") hT cf (dv cf hT iI ?_ (i5 _))));unfold Builtin.«set_iterator.__next__»;refine aa (m:=slotArgs "__next__" 0 _) (af ?_);refine aa (ip hit rfl ?_);dsimp only;refine aa (hJ ho hd hf ?_);rw[ae (by simp)];show wpAny _ _ (setNext a (slot:Int).toNat (i:Int).toNat (ep:Int).toNat>>=_) _ _ s;rw[dN,dN,dN];refine aa (hn _ _ _ ?_);cases r with
 |none=>
  dsimp only;refine aa (js hit rfl (by show 2<5;decide) ?_);refine aa (qK hh fun h' x hx hk=>?_);refine aa (jq (T:="StopIteration") (b:=true) hx lW ?_);exact af (h2 rfl _ fun b o hb e=>hk b o ((eE s.heap I _).extBut b o hb e))
 |some p=>
  obtain⟨x,nx⟩:=p;dsimp only;refine aa (fB hit (by show 0<5;decide) fun di Cy jP=>?_);refine aa (fB (s:={s with heap:=di}) Cy (by show 1<5;decide) fun mZ MJ m_=>?_);exact af ⟨_,rfl,af (h1 x nx rfl mZ MJ (jP.trans m_))⟩
end
end L2
namespace L2
open PySem PySem.Spec PyProof.Rows
theorem nc:entryFor table "set_iterator.__iter__"=some Builtin.«dict_keyiterator.__iter__»:=entryFor_alias (id':="dict_keyiterator.__iter__") (by kernel_rfl) rfl (by decide+kernel) (by kernel_rfl)
theorem om(a:Value):argsOk "set_iterator.__iter__" ⟨[a],[]⟩:=by
 unfold argsOk;rw[signature?_of (id:="set_iterator.__iter__") (n:=['_', '_', 'r', 'e', 't', 'i', '_', '_']) (o:=['r', 'o', 't', 'a', 'r', 'e', 't', 'i', '_', 't', 'e', 's']) (by kernel_rfl) nT];kernel_rfl
theorem ze{α:Type}(next:Nat->Nat):∀(fuel k:Nat) (left:List α) (out:Array α),left.length=fuel->(pickOrder.go next fuel k left out).toList.Perm (out.toList++left)
 |0,k,left,out,h=>by
  rw[List.eq_nil_of_length_eq_zero h];simp[pickOrder.go]
 |fuel+1,k,left,out,h=>by
  have hi:next k % left.length<left.length:=gA _ (by omega)
  unfold pickOrder.go;rw[aF hi];dsimp only;refine(ze next fuel (k+1) _ _ (by rw[oX hi];omega)).trans ?_
  rw[pJ,gV];exact(iX left _ hi).append_left _
theorem AE{α:Type}(next:Nat->Nat)(xs:Array α):(pickOrder next xs).toList.Perm xs.toList:=by
 have h:=ze next xs.size 0 xs.toList #[] (by simp)
 unfold pickOrder;simpa using h
def slotAt(t:SetTable):Nat->Nat
 |0=>0
 |i+1=>t.place.getD i 0+1
theorem qL{t:SetTable}(h:kN t.place):∀{i:Nat},i<=t.place.size->SetTable.below t.place (slotAt t i)=i
 |0,_=>xT h
 |i+1,hi=>xU h hi
section
variable {prog:Program}{w:World}{A:Around}{E:Value->Shared->Prop}{s:Shared}{I a:Addr}{o:Obj}{es:Array (Int×Value)}{ep:Nat}{t:SetTable}
theorem uB{F:Value}{i n e:Nat}{Q:Value->Shared->Prop}(hit:s.heap.get? I=some (nU F i a n e))(h:Q (.ref I) s):wpAny (model prog w) A (pyIter (.ref I)) Q E s:=by
 have hT:s.TypeIs (.ref I) "set_iterator":=⟨_,hit,rfl⟩;refine p7 hT i6 (dv i6 hT nc ?_ (om _));show wpAny _ _ (ret (.ref I)) _ _ s;exact af ⟨_,rfl,"set_iterator",_,hT,cf.lookup,h⟩
theorem Cz{tp:Addr}{i m:Nat}{ot:Obj}{pl:Array Value}{Q:Option Value->Shared->Prop}(hh:A.handled=none)(hit:s.heap.get? I=some (nU (.ref tp) i a es.size ep))(ho:s.heap.get? a=some o)(hd:o.data=.set es ep t)(hf:t.fits es.size=true)
  (Ri:s.heap.get? tp=some ot) (O9:ot.data=.seq pl m)
  (h1:∀(p:Nat) (e:Int×Value),pl[i]?=some (rawInt p)->es[p]?=some e->∀h',h'.get? I=some (nU (.ref tp) (i+1) a es.size ep)->Heap.SameBut I s.heap h'->Q (some e.2) {s with heap:=h'})
  (h2:pl[i]?=none->∀h',Heap.ExtBut I s.heap h'->Q none {s with heap:=h'})
  (n8:∀v,pl[i]?=some v->∃(p:Nat) (e:Int×Value),v=rawInt p/\es[p]?=some e):wpAny (model prog w) A (pyNext (.ref I)) Q E s:=by
 have hT:s.TypeIs (.ref I) "set_iterator":=⟨_,hit,rfl⟩;unfold pyNext;refine aa (gx (gS (name:=Str.ofString "__next__") hT cf (dv cf hT iI ?_ (i5 _))));unfold Builtin.«set_iterator.__next__»;refine aa (m:=slotArgs "__next__" 0 _) (af ?_);refine aa (ip hit rfl ?_);dsimp only;refine aa (hJ ho hd hf ?_);rw[ae (by simp)];show wpAny _ _ (seqItems? (.ref tp)>>=_) _ _ s;refine aa (dA Ri O9 ?_);dsimp only;rw[dN];cases hv:pl[i]? with
 |none=>
  dsimp only;refine aa (fB hit (by show 0<5;decide) fun di Cy jP=>?_);refine aa (fB (s:={s with heap:=di}) Cy (by show 2<5;decide) fun mZ MJ m_=>?_);refine aa (qK hh fun h' x hx hk=>?_);refine aa (jq (T:="StopIteration") (b:=true) hx lW ?_);exact af (h2 hv _ fun b o hb e=>hk b o (m_.extBut b o hb (jP.extBut b o hb e)))
 |some v=>
  obtain⟨p,e,rfl,he⟩:=n8 v hv;show wpAny _ _ (setNextDrawn a (p:Int).toNat (ep:Int).toNat>>=_) _ _ s;rw[dN,dN];refine aa ?_
  unfold setNextDrawn;refine aa (eJ ho hd hf ?_);dsimp only;rw[ae (by simp),he];dsimp only;refine af ?_
  refine aa (fB hit (by show 1<5;decide) fun di Cy jP=>?_);exact af ⟨_,rfl,af (h1 p e hv he di Cy jP)⟩
theorem kb{Q:Bool->Shared->Prop}(h:Q (vd w) s):wpAny (model prog w) A setsByText Q E s:=by
 unfold setsByText;exact aa (wpAny_askSetting (af h))
theorem sM{slot i:Nat}{Q:Option (Value×Nat)->Shared->Prop}(hb:vd w=true)(ho:s.heap.get? a=some o)(hd:o.data=.set es ep t)(hf:t.fits es.size=true)
  (h:Q (((pickOrder (w.params.setOrder a ep) es)[i]?).map fun e=>(e.2,slot)) s):wpAny (model prog w) A (setNext a slot i ep) Q E s:=by
 unfold setNext;refine aa (eJ ho hd hf ?_);dsimp only;refine aa (kb ?_);rw[hb,ab rfl];simp only[hZ,bV,bC];refine aa ?_
 unfold setWalk;refine aa (eJ ho hd hf ?_);dsimp only;refine aa (kb ?_);rw[hb,ab rfl];refine aa (wpAny_askSetting ?_);exact af (af h)
theorem vX{slot i:Nat}{Q:Option (Value×Nat)->Shared->Prop}(hb:vd w=false)(hl:t.led=true)(hz:t.plain=true\/es.size<=1)(ho:s.heap.get? a=some o)(hd:o.data=.set es ep t)(hf:t.fits es.size=true)
  (h:Q (match es[SetTable.below t.place slot]?,t.place[SetTable.below t.place slot]? with
   |some (_,x),some j=>some (x,j+1)
   |_,_=>none) s):wpAny (model prog w) A (setNext a slot i ep) Q E s:=by
 unfold setNext;refine aa (eJ ho hd hf ?_);dsimp only;refine aa (kb ?_);rw[hb];simp only[bV,bC];refine fJ (fun se=>absurd (show(!t.plain&&decide (es.size>1))=true from se) ?_) (fun _=>?_)
 ·rcases hz with z|z
  ·rw[z];exact cz
  ·rw[aY (p:=es.size>1) (by omega),lP];exact cz
 ·refine aa (m:=(if(!t.led&&!es.isEmpty)=true then unsupported "set:maker-not-led"else pure ())) ?_
  rw[hl,ae (by simp)];exact af (af h)
end
end L2
namespace PySem
section
variable {prog:Program}{w:World}{A:Around}{E:Value->Shared->Prop}{s:Shared}
theorem CA(a:Value){Q₁:Value->Shared->Prop}
  (h:Q₁ (.ref s.heap.objs.size) {s with heap:=s.heap.push {cls:=.type "set",dict:=none,data:=.set #[] 0 (.fresh 0 0 (!L2.vd w))}}):
  codeAny (model prog w) A (.call (.builtin "set.__new__") ⟨[.type "set",a],[]⟩) (wants Q₁ E) s:=by
 refine codeAny_of_tree ?_
 show wpAny _ A.in1 (do checkBuiltinCall "set.__new__" ⟨[.type "set",a],[]⟩;again (.builtin "set.__new__" ⟨[.type "set",a],[]⟩)) _ _ s;refine aa (wpAny_of_eq (F.newCall_set_1 a) (af ⟨dB F.plain_set_new _,dQ F.entry_set_new ?_⟩));rw[eC F.plain_set_new _];unfold Builtin.«set.__new__» Builtin.Frozenset.newClass;have IM:=sub_set_self;obtain⟨hp,g,d,tk,os⟩:=s;dsimp only
 wp_walk
 refine wpAny_askSetting (af ?_);dsimp only;simp only[newObj];refine aa (wpAny_alloc (af ?_));exact af h
end
end PySem
namespace L2
open PySem PySem.Spec PySem.Calls PyProof.Rows
section
variable {prog:Program}{w:World}{A:Around}{E:Value->Shared->Prop}{s:Shared}{a:Addr}{ss:List Key}
theorem CB{Q:Bool->Shared->Prop}(hT:s.TypeIs (.ref a) "set")(h:Q false s):wpAny (model prog w) A (Builtin.List.listLengthHint (.ref a)) Q E s:=by
 unfold Builtin.List.listLengthHint;refine aa (wpAny_specialOf hT PySem.F.slot_set_len.lookup ?_);generalize aN:("set.__len__":String)=U6
 wp_delta
 rw[show splitId U6=some ("set","__len__")from by subst aN;decide+kernel];subst aN;refine aa (jq (T:="set") (b:=true) hT (by rw[isSubtype_type];kernel_rfl) ?_);refine fJ (fun se=>absurd se (by decide)) (fun _=>?_);refine fJ (fun _=>?_) (fun se=>absurd (by decide+kernel) se);exact aa (iq hT (af h))
end
end L2
namespace L2
open PySem PySem.Spec PyProof.Rows
theorem Inv.Fg {X:Cx}{pins:List (Addr×Obj)}{σ:St}{H:Hp}{s:Shared}(I:Inv X pins σ H s)(d:Drawn):Inv X pins σ H {s with drawn:=d}:=
 I.step (h':=s.heap) (H':=H) (g':=s.gens) (t':=s.toks) (d':=d) (ch:=[]) (fun _ z=>nomatch z) (fun b o _ _ _ e _=>e) (fun b o _ _ _ e _=>⟨o.slots,e⟩) (fun b o _ _ n=>n) (fun b o _ e=>⟨o,e⟩) (fun _ _ e=>e) (fun _ _ _ e=>e)
   (fun b ps e=>⟨#[],by rw[e];simp⟩) (fun m hm=>hm) I.bN I.bare
end L2
namespace L2
open PySem PySem.Spec PyProof.Rows
section
variable {prog:Program}{w:World}{A:Around}{E:Value->Shared->Prop}{s:Shared}
theorem qM{it t:Addr}{i:Nat}{items:Array Value}{x:Value}{Q:Value->Shared->Prop}(hit:s.heap.IsTupleIter it t i)(ht:s.heap.IsTuple t items)(hx:items[i]?=some x)
  (hQ:∀h',h'.IsTupleIter it t (i+1)->Heap.SameBut it s.heap h'->Q x {s with heap:=h'}):wpAny (model prog w) A (Builtin.SmallTypes.nextOf (.ref it)) Q E s:=by
 have key:wpAny (model prog w) A (pyNext (.ref it)) (fun r s'=>∃v,r=some v/\Q v s') (fun _ _=>False) s:=pk hit ht hx fun h' a b=>⟨x,rfl,hQ h' a b⟩;obtain⟨o,ho,hc,hd⟩:=id hit;obtain⟨ol,KI,_,nl,KJ⟩:=ht;unfold Builtin.SmallTypes.nextOf;refine aa (gS (name:=Str.ofString "__next__") hit.typeIs lu (dv lu hit.typeIs F.entry_tuple_iterator_next ?_ (F.args_tuple_iterator_next_1 _)));show wpAny _ _ (field (.ref it) 0>>=_) _ _ s;refine aa (dR ho hd (x:=.ref t) rfl ?_);show wpAny _ _ (if(Value.ref t==Value.none)=true then _ else _) _ _ s;rw[ae (show¬((Value.ref t==Value.none)=true)from cz)];show wpAny _ _ (field (.ref it) 1>>=_) _ _ s;refine aa (dR ho hd (x:=.int i 0) rfl ?_);show wpAny _ _ (seqItems? (.ref t)>>=_) _ _ s;refine aa (dA KI KJ ?_);simp only[dN,hx];refine aa (js ho hd (by simp) (af ⟨x,rfl,af (hQ _ ?_ (eE ..))⟩));exact⟨_,j8 _ ho (Obj.isFreed_of_fields (lJ hd _)),(Obj.cls_mapFields ..).trans hc,by rw[lJ hd];simp[rawInt]⟩
theorem AG{it t:Addr}{i:Nat}{items:Array Value}{Q:Value->Shared->Prop}(hh:A.handled=none)(hit:s.heap.IsTupleIter it t i)(ht:s.heap.IsTuple t items)(hx:items[i]?=none)
  (hE:∀h' (e:Addr),Heap.ExtBut it s.heap h'->Shared.TypeIs {s with heap:=h'} (.ref e) "StopIteration"->E (.ref e) {s with heap:=h'}):wpAny (model prog w) A (Builtin.SmallTypes.nextOf (.ref it)) Q E s:=by
 obtain⟨o,ho,hc,hd⟩:=id hit;obtain⟨ol,KI,_,nl,KJ⟩:=ht;unfold Builtin.SmallTypes.nextOf;refine aa (gS (name:=Str.ofString "__next__") hit.typeIs lu (dv lu hit.typeIs F.entry_tuple_iterator_next ?_ (F.args_tuple_iterator_next_1 _)));show wpAny _ _ (field (.ref it) 0>>=_) _ _ s;refine aa (dR ho hd (x:=.ref t) rfl ?_);show wpAny _ _ (if(Value.ref t==Value.none)=true then _ else _) _ _ s;rw[ae (show¬((Value.ref t==Value.none)=true)from cz)];show wpAny _ _ (field (.ref it) 1>>=_) _ _ s;refine aa (dR ho hd (x:=.int i 0) rfl ?_);show wpAny _ _ (seqItems? (.ref t)>>=_) _ _ s;refine aa (dA KI KJ ?_);simp only[dN,hx];refine aa (eO (aa (js ho hd (by simp) ?_)));show wpAny _ _ (newExc (.type "StopIteration") []>>=_) _ _ _;refine aa (qK hh fun h' x AH hk=>?_);exact hE h' x (fun b o hb e=>hk b o ((eE ..).extBut b o hb e)) AH
structure ZA(z TI TO i1 i2:Addr):Prop where
 TIz:TI≠z
 TOz:TO≠z
 i1z:i1≠z
 i2z:i2≠z
 TITO:TI≠TO
 TIi1:TI≠i1
 TIi2:TI≠i2
 TOi1:TO≠i1
 TOi2:TO≠i2
 i12:i1≠i2
theorem AI{z TI TO i1 i2 l1 l2:Addr}{k1 k2:Nat}{xs ys:Array Value}{x y a b:Value}{Q:Option Value->Shared->Prop}(D:ZA z TI TO i1 i2)(hz:IsZip s.heap z TI TO .none)(xW:IsPair s.heap TI (.ref i1) (.ref i2))(AJ:IsPair s.heap TO a b)
  (h1:s.heap.IsTupleIter i1 l1 k1) (h2:s.heap.IsTupleIter i2 l2 k2) (BA:s.heap.IsTuple l1 xs) (Ez:s.heap.IsTuple l2 ys) (d1:l1≠z/\l1≠TO/\l1≠i1/\l1≠i2) (d2:l2≠z/\l2≠TO/\l2≠i1/\l2≠i2) (hx:xs[k1]?=some x) (hy:ys[k2]?=some y)
  (hQ:∀h',IsZip h' z TI TO (rawInt s.heap.objs.size)->IsPair h' TO x y->h'.IsTupleIter i1 l1 (k1+1)->h'.IsTupleIter i2 l2 (k2+1)->IsPair h' s.heap.objs.size x y->
   (∀c o,c≠z->c≠TO->c≠i1->c≠i2->s.heap.get? c=some o->h'.get? c=some o)->Q (some (.ref s.heap.objs.size)) {s with heap:=h'}):wpAny (model prog w) A (pyNext (.ref z)) Q E s:=by
 have hT:s.TypeIs (.ref z) "zip":=⟨_,hz,rfl⟩;unfold pyNext;refine aa (gx (gS (name:=Str.ofString "__next__") hT lV (dv lV hT F.entry_zip_next ?_ (F.args_zip_next_1 _))));show wpAny _ _ (field (.ref z) 2>>=_) _ _ _;refine aa (dR hz rfl (x:=.bool false) rfl ?_);show wpAny _ _ (field (.ref z) 3>>=_) _ _ _;refine aa (dR hz rfl (x:=.ref TI) rfl (aa (dA xW rfl ?_)));show wpAny _ _ (Builtin.SmallTypes.ownedTupleIsFree (.ref z)>>=_) _ _ _;refine aa ?_
 unfold Builtin.SmallTypes.ownedTupleIsFree;refine aa (dR hz rfl (x:=.none) rfl (af ?_));simp only[fO];refine aa (eO (aa (dR hz rfl (x:=.ref TO) rfl ?_)));refine aa (fB hz (by simp) fun di qN jP=>?_);replace qN:IsZip di z TI TO .ellipsis:=qN;refine aa ?_
 simp only[List.zipIdx_cons,List.zipIdx_nil,pU,List.forIn_nil];refine aa (aa (wpAny_onRaise ?_));show wpAny _ _ (Builtin.SmallTypes.nextOf (.ref i1)>>=_) _ _ _;refine aa (qM (s:={s with heap:=di}) (h1.extBut jP.extBut D.i1z) (BA.extBut jP.extBut d1.1) hx fun mZ MK m_=>af ?_);have CC:IsPair mZ TO a b:=m_.extBut _ _ D.TOi1 (jP.extBut _ _ D.TOz AJ);refine aa (dA CC rfl (aa (wpAny_updateSeq_pair CC fun vH xX uC=>?_)));replace xX:IsPair vH TO x b:=xX;refine aa (gB (af (aa (aa (wpAny_onRaise ?_)))));show wpAny _ _ (Builtin.SmallTypes.nextOf (.ref i2)>>=_) _ _ _;refine aa (qM (s:={s with heap:=vH}) (((h2.extBut jP.extBut D.i2z).extBut m_.extBut D.i12.symm).extBut uC.extBut D.TOi2.symm) (((Ez.extBut jP.extBut d2.1).extBut m_.extBut d2.2.2.1).extBut uC.extBut d2.2.1) hy fun Ij ML CD=>af ?_);have CF:IsPair Ij TO x b:=CD.extBut _ _ D.TOi2 xX;refine aa (dA CF rfl (aa (wpAny_updateSeq_pair CF fun ko uD CG=>?_)));replace uD:IsPair ko TO x y:=uD;refine aa (gB (af (af ?_)));refine aa (dA uD rfl (aa (lX ?_)));have hsz:ko.objs.size=s.heap.objs.size:=by rw[CG.1,CD.1,uC.1,m_.1,jP.1]
 have Gx:IsZip ko z TI TO .ellipsis:=CG.extBut _ _ D.TOz.symm (CD.extBut _ _ D.i2z.symm (uC.extBut _ _ D.TOz.symm (m_.extBut _ _ D.i1z.symm qN)));have MM:∀c o,c≠z->c≠TO->c≠i1->c≠i2->s.heap.get? c=some o->ko.get? c=some o:=fun c o c1 c2 c3 c4 e=>CG.extBut _ _ c2 (CD.extBut _ _ c4 (uC.extBut _ _ c2 (m_.extBut _ _ c3 (jP.extBut _ _ c1 e))));have MN:ko.IsTupleIter i1 l1 (k1+1):=((MK.extBut uC.extBut D.TOi1.symm).extBut CD.extBut D.i12).extBut CG.extBut D.TOi1.symm;have MO:ko.IsTupleIter i2 l2 (k2+1):=ML.extBut CG.extBut D.TOi2.symm;have MP:z<ko.objs.size:=aw Gx;show wpAny _ _ (Builtin.SmallTypes.ownedTupleHandOut (.ref z) (.ref ko.objs.size)>>=_) _ _ _;refine aa ?_
 unfold Builtin.SmallTypes.ownedTupleHandOut;have MQ:IsZip (ko.push {cls:=.type "tuple",data:=.seq #[x,y]}) z TI TO .ellipsis:=aB _ Gx;refine aa (fB MQ (by simp) fun Rj CH MR=>?_);replace CH:IsZip Rj z TI TO (rawInt ko.objs.size):=CH;refine fB CH (by simp) fun Fh zf MS=>?_
 replace zf:IsZip Fh z TI TO (rawInt ko.objs.size):=zf;have up:∀c o,c≠z->ko.get? c=some o->Fh.get? c=some o:=fun c o c1 e=>MS.extBut _ _ c1 (MR.extBut _ _ c1 (aB _ e));have Gy:IsPair Fh ko.objs.size x y:=MS.extBut _ _ (cp MP) (MR.extBut _ _ (cp MP) (aT _ rfl));rw[hsz]at zf Gy;refine af ⟨_,rfl,af ?_⟩;show Q (some (.ref ko.objs.size)) _;rw[hsz];exact hQ Fh zf (up _ _ D.TOz uD) (MN.at fun o e=>up _ o D.i1z e) (MO.at fun o e=>up _ o D.i2z e) Gy fun c o c1 c2 c3 c4 e=>up c o c1 (MM c o c1 c2 c3 c4 e)
theorem CI{z TI TO i1 i2 l1:Addr}{k1:Nat}{xs:Array Value}{a b:Value}{Q:Option Value->Shared->Prop}(hh:A.handled=none)(D:ZA z TI TO i1 i2)(hz:IsZip s.heap z TI TO .none)(xW:IsPair s.heap TI (.ref i1) (.ref i2))(AJ:IsPair s.heap TO a b)
  (h1:s.heap.IsTupleIter i1 l1 k1) (BA:s.heap.IsTuple l1 xs) (d1:l1≠z) (hx:xs[k1]?=none)
  (hQ:∀h',(∀c o,c≠z->c≠i1->s.heap.get? c=some o->h'.get? c=some o)->Q none {s with heap:=h'}):wpAny (model prog w) A (pyNext (.ref z)) Q E s:=by
 have hT:s.TypeIs (.ref z) "zip":=⟨_,hz,rfl⟩;unfold pyNext;refine aa (gx (gS (name:=Str.ofString "__next__") hT lV (dv lV hT F.entry_zip_next ?_ (F.args_zip_next_1 _))));show wpAny _ _ (field (.ref z) 2>>=_) _ _ _;refine aa (dR hz rfl (x:=.bool false) rfl ?_);show wpAny _ _ (field (.ref z) 3>>=_) _ _ _;refine aa (dR hz rfl (x:=.ref TI) rfl (aa (dA xW rfl ?_)));show wpAny _ _ (Builtin.SmallTypes.ownedTupleIsFree (.ref z)>>=_) _ _ _;refine aa ?_
 unfold Builtin.SmallTypes.ownedTupleIsFree;refine aa (dR hz rfl (x:=.none) rfl (af ?_));simp only[fO];refine aa (eO (aa (dR hz rfl (x:=.ref TO) rfl ?_)));refine aa (fB hz (by simp) fun di qN jP=>?_);replace qN:IsZip di z TI TO .ellipsis:=qN;refine aa ?_
 simp only[List.zipIdx_cons,List.zipIdx_nil,pU,List.forIn_nil];refine aa (aa (wpAny_onRaise ?_));show wpAny _ _ (Builtin.SmallTypes.nextOf (.ref i1)>>=_) _ _ _;refine aa (AG (s:={s with heap:=di}) hh (h1.extBut jP.extBut D.i1z) (BA.extBut jP.extBut d1) hx fun mZ e m_ he=>?_);have Gz:IsZip mZ z TI TO .ellipsis:=m_ _ _ D.i1z.symm qN;obtain⟨oe,Tj,Tn⟩:=he;have U7:e≠z:=fun q=>by
  have MT:mZ.get? e=some oe:=Tj;rw[q,Gz]at MT;cases MT;simp at Tn
 refine fB (s:={s with heap:=mZ}) Gz (by simp) fun vH _ uC=>?_
 refine aa (jq (s:={s with heap:=vH}) (T:="StopIteration") (b:=true) ⟨oe,uC.extBut _ _ U7 Tj,Tn⟩ lW ?_);exact af (hQ vH fun c o c1 c2 q=>uC.extBut _ _ c1 (m_ _ _ c2 (jP.extBut _ _ c1 q)))
end
end L2
namespace PySem
abbrev O_(h:Heap)(l1:Addr):Heap:=h.push {cls:=.type "tuple_iterator",data:=.fields #[.ref l1,.int 0 0]}
abbrev O'(h:Heap)(l1 l2:Addr):Heap:=(O_ h l1).push {cls:=.type "tuple_iterator",data:=.fields #[.ref l2,.int 0 0]}
abbrev Pa(h:Heap)(l1 l2:Addr):Heap:=(O' h l1 l2).push {cls:=.type "tuple",data:=.seq #[.ref h.objs.size,.ref (O_ h l1).objs.size]}
abbrev Pb(h:Heap)(l1 l2:Addr):Heap:=(Pa h l1 l2).push {cls:=.type "tuple",data:=.seq #[.none,.none]}
abbrev KL(h:Heap)(l1 l2:Addr):Heap:=(Pb h l1 l2).push {cls:=.type "zip",data:=.fields #[.none,.bool false,.bool false,.ref (O' h l1 l2).objs.size,.ref (Pa h l1 l2).objs.size]}
theorem xY(l1 l2:Addr)(xs ys:Array Value):Meets (Builtin.«zip.__new__» ⟨[.type "zip",.ref l1,.ref l2],[]⟩)
  (fun _ R s=>s.heap.IsTuple l1 xs/\s.heap.IsTuple l2 ys/\R (.ok (.ret (.ref (Pb s.heap l1 l2).objs.size))) {s with heap:=KL s.heap l1 l2}):=
 .of_wp fun prog w A R s h=>by
  obtain⟨hp,g,d,tk,os⟩:=s;obtain⟨BA,Ez,h⟩:=h;have IM:=sub_zip;have MU:Heap.IsTuple (Shared.heap ⟨hp,g,d,tk,os⟩) l1 xs:=BA;have U8:Heap.IsTuple (Shared.heap ⟨hp.push {cls:=.type "tuple_iterator",data:=.fields #[.ref l1,.int 0 0]},g,d,tk,os⟩) l2 ys:=Ez.at fun o e=>aB _ e
  wp_walk using lI MU,lI U8
  exact⟨_,rfl,h⟩
section
variable {prog:Program}{w:World}{A:Around}{E:Value->Shared->Prop}{s:Shared}
theorem AK{l1 l2:Addr}{xs ys:Array Value}{Q:Value->Shared->Prop}(BA:s.heap.IsTuple l1 xs)(Ez:s.heap.IsTuple l2 ys)
  (h:∀h',IsZip h' (s.heap.objs.size+4) (s.heap.objs.size+2) (s.heap.objs.size+3) .none->IsPair h' (s.heap.objs.size+2) (.ref s.heap.objs.size) (.ref (s.heap.objs.size+1))->
   IsPair h' (s.heap.objs.size+3) .none .none->h'.IsTupleIter s.heap.objs.size l1 0->h'.IsTupleIter (s.heap.objs.size+1) l2 0->(∀c o,s.heap.get? c=some o->h'.get? c=some o)->Q (.ref (s.heap.objs.size+4)) {s with heap:=h'}):
  wpAny (model prog w) A (call (.type "zip") [.ref l1,.ref l2]) Q E s:=by
 refine callType_new F.called_zip (by decide) (F.typeCall_zip_2 _ _) (F.newCall_zip_2 _ _) (fun obj=>F.args_object_init_3 obj _ _) F.entry_zip_new (xY l1 l2 xs ys) ⟨BA,Ez,?_⟩;have z1:(O_ s.heap l1).objs.size=s.heap.objs.size+1:=fK ..;have z2:(O' s.heap l1 l2).objs.size=s.heap.objs.size+2:=by rw[fK,z1]
 have z3:(Pa s.heap l1 l2).objs.size=s.heap.objs.size+3:=by rw[fK,z2]
 have z4:(Pb s.heap l1 l2).objs.size=s.heap.objs.size+4:=by rw[fK,z3]
 have up:∀{h:Heap} {c:Addr} {o o':Obj},h.get? c=some o->(h.push o').get? c=some o:=fun e=>aB _ e;have g5:(KL s.heap l1 l2).get? (Pb s.heap l1 l2).objs.size=some _:=aT _ rfl;have g4:(KL s.heap l1 l2).get? (Pa s.heap l1 l2).objs.size=some _:=up (aT _ rfl);have g3:(KL s.heap l1 l2).get? (O' s.heap l1 l2).objs.size=some _:=up (up (aT _ rfl));have g2:(KL s.heap l1 l2).get? (O_ s.heap l1).objs.size=some _:=up (up (up (aT _ rfl)));have g1:(KL s.heap l1 l2).get? s.heap.objs.size=some _:=up (up (up (up (aT _ rfl))));show _/\_;rw[z2,z3,z4]at g5;rw[z1,z2]at g3;rw[z3]at g4;rw[z1]at g2;rw[z4];exact⟨⟨_,g5,rfl⟩,h _ g5 g3 g4 ⟨_,g1,rfl,rfl⟩ ⟨_,g2,rfl,rfl⟩ fun c o x=>up (up (up (up (up x))))⟩
end
end PySem
namespace L2
open PySem PySem.Spec PyProof.Rows
section
variable {X:Cx}{pins:List (Addr×Obj)}{σ:St}{H:Hp}{s:Shared}{h':Heap}
theorem gW.apart {a b:Addr}{xs:List V}(I:Inv X pins σ H s)(h:gW X.K H a xs)(f:ja X pins H b):a≠b:=by
 rcases h with(h|⟨o,h⟩)|⟨o,aV,n,hk,_⟩
 ·exact aL h f.1
 ·exact aL h f.1
 ·intro e;subst e;have hb:=I.ok.mod.Lh a o hk;rcases f.2.2.2.1 with q|q
  ·exact I.ok.Ag a o hb q
  ·exact absurd (bx (aw (I.ok.bs a o hb).1) q) (cA _)
theorem Inv.AL {ch:List Addr}{T:Addr}{o:HO}{t':Nat}(I:Inv X pins σ H s)(sk:∀b∈ch,ja X pins H b)(k:∀b o,b∉ch->s.heap.get? b=some o->h'.get? b=some o)(hT:s.heap.objs.size<=T)
  (new:bu X.prog X.w (upd H T o) h' T o):Inv X pins σ (upd H T o) {s with heap:=h',toks:=t'}:=by
 have GA:H T=none:=I.bN.fresh hT;have BJ:∀b u,H b=some u->b∉ch:=fun b u e m=>by rw[(sk b m).1]at e;cases e
 refine I.step (g':=s.gens) (d':=s.drawn) (ch:=ch) (fun b hb=>?_) (fun b o _ _ hc e _=>k b o hc e) (fun b o _ _ hc e _=>⟨o.slots,k b o hc e⟩) (fun b o _ e n=>?_) (fun b o hc e=>⟨o,k b o hc e⟩) (fun b xs e=>?_) (fun b o u e=>?_) (fun b ps e=>⟨#[],?_⟩) (fun m hm=>?_) (fun b u e=>?_) I.bare
 ·obtain⟨_,x1,_,x3,x4,x5⟩:=sk b hb;exact⟨x3,x1,x4,x5⟩
 ·rw[ah (aS (bx (aw e) hT))];exact n
 ·rw[ah (aL e GA)];exact e
 ·rw[ah (aL e GA)];exact e
 ·rw[ah (aL e GA),e];simp
 ·exact hm.at' fun o e=>k _ o (fun z=>(sk _ z).2.1 rfl) e
 ·by_cases hb:b=T
  ·subst hb;rw[aH]at e;cases e;exact new
  ·rw[ah hb]at e;refine(I.bN b u e).kE (fun c v hc q=>k c v ?_ q) (fun c q=>by rw[ah (aL q GA)];exact q) fun c xs q=>by rw[ah (aL q GA)];exact q
   rcases hc with rfl|hc
   ·exact BJ c u e
   ·exact BJ c _ hc
theorem Inv.AM {ch:List Addr}{t':Nat}(I:Inv X pins σ H s)(sk:∀b∈ch,ja X pins H b)(k:∀b o,b∉ch->s.heap.get? b=some o->h'.get? b=some o):Inv X pins σ H {s with heap:=h',toks:=t'}:=by
 have BJ:∀b u,H b=some u->b∉ch:=fun b u e m=>by rw[(sk b m).1]at e;cases e
 refine I.step (g':=s.gens) (d':=s.drawn) (ch:=ch) (fun b hb=>?_) (fun b o _ _ hc e _=>k b o hc e) (fun b o _ _ hc e _=>⟨o.slots,k b o hc e⟩) (fun b o _ e n=>n) (fun b o hc e=>⟨o,k b o hc e⟩) (fun b xs e=>e) (fun b o u e=>e) (fun b ps e=>⟨#[],by rw[e];simp⟩) (fun m hm=>?_) (fun b u e=>?_) I.bare
 ·obtain⟨_,x1,_,x3,x4,x5⟩:=sk b hb;exact⟨x3,x1,x4,x5⟩
 ·exact hm.at' fun o e=>k _ o (fun z=>(sk _ z).2.1 rfl) e
 ·refine(I.bN b u e).kE (fun c v hc q=>k c v ?_ q) (fun c q=>q) fun c xs q=>q;rcases hc with rfl|hc
  ·exact BJ c u e
  ·exact BJ c _ hc
end
def Rk(K:PySem.W.Frag)(a b:Addr):It:=
 ⟨fun i H=>∃xs ys x y,gW K H a xs/\gW K H b ys/\xs[i]?=some x/\ys[i]?=some y,
  fun i H v H'=>∃T x y,v=.ref T/\H T=none/\H'=upd H T (.tup [x,y])/\(∀xs,gW K H a xs->xs[i]?=some x)/\(∀ys,gW K H b ys->ys[i]?=some y),
  fun i H=>∃xs,gW K H a xs/\xs.length<=i⟩
theorem MV{G:Prop}(k:∀P:Prop,(G->P)->P):G:=k G id
theorem CJ{P:Program}{w:World}{K:PySem.W.Frag}{es:List Expr}{x1:Nat}{pos:Pos}{z TI TO i1 i2 a b:Addr}(D:ZA z TI TO i1 i2):
  Turn P w K (.Tuple es x1 pos) (Rk K a b) [z,TI,TO,i1,i2] z (fun i h=>IsZip h z TI TO .none/\IsPair h TI (.ref i1) (.ref i2)/\(∃p q,IsPair h TO p q)/\h.IsTupleIter i1 a i/\h.IsTupleIter i2 b i) where
 mem:=by simp
 obj:=fun i h st c hc=>by
  obtain⟨hz,xW,⟨p,q,AJ⟩,⟨o1,e1,c1,d1⟩,⟨o2,e2,c2,d2⟩⟩:=st;simp only[aP,eK,dh]at hc;rcases hc with rfl|rfl|rfl|rfl|rfl
  ·exact⟨_,hz,fun v e=>by cases(show Data.fields _=Data.cell v from e)⟩
  ·exact⟨_,xW,fun v e=>by cases(show Data.seq _ _=Data.cell v from e)⟩
  ·exact⟨_,AJ,fun v e=>by cases(show Data.seq _ _=Data.cell v from e)⟩
  ·exact⟨o1,e1,fun v e=>by rw[d1]at e;cases e⟩
  ·exact⟨o2,e2,fun v e=>by rw[d2]at e;cases e⟩
 keep:=fun i h h' st k=>by
  obtain⟨hz,xW,⟨p,q,AJ⟩,h1,h2⟩:=st;exact⟨k z (by repeat constructor) _ hz,k TI (by repeat constructor) _ xW,⟨p,q,k TO (by repeat constructor) _ AJ⟩,h1.at fun o e=>k i1 (by repeat constructor) o e,h2.at fun o e=>k i2 (by repeat constructor) o e⟩
 item:=by
  intro X hP hw hK hc i pins s σ H E I hf st hg;subst hP hw hK;refine MV fun P go=>?_
  obtain⟨xs,ys,x,y,KN,IP,hx,hy⟩:=hg;obtain⟨hz,xW,⟨p,q,AJ⟩,h1,h2⟩:=st;obtain⟨CK,Pc,p1,_⟩:=I.tuple KN;obtain⟨vC,BB,p2,_⟩:=I.tuple IP;obtain⟨u1,U9,U_⟩:=Pc.get hx;obtain⟨u2,U',Va⟩:=BB.get hy;have Pd:∀c∈[z,TI,TO,i1,i2],a≠c:=fun c m=>KN.apart I (hf c m);have Pe:∀c∈[z,TI,TO,i1,i2],b≠c:=fun c m=>IP.apart I (hf c m);refine go ?_
  refine AI D hz xW AJ h1 h2 (show s.heap.IsTuple a CK.toArray from p1) (show s.heap.IsTuple b vC.toArray from p2) ⟨Pd _ (by repeat constructor),Pd _ (by repeat constructor),Pd _ (by repeat constructor),Pd _ (by repeat constructor)⟩ ⟨Pe _ (by repeat constructor),Pe _ (by repeat constructor),Pe _ (by repeat constructor),Pe _ (by repeat constructor)⟩
   (x:=u1) (y:=u2) (by simpa using U9) (by simpa using U') fun di g1 g2 g3 g4 g5 kk=>?_
  refine⟨_,rfl,wpAny_letOwnedTupleGo_zip g1 fun mZ k1 sb=>?_⟩;have lt:∀{c:Addr} {o:Obj},s.heap.get? c=some o->s.heap.objs.size≠c:=fun e=>cp (aw e);have Vb:s.heap.objs.size≠z:=lt hz;have up:∀c o,c∉[z,TO,i1,i2]->s.heap.get? c=some o->mZ.get? c=some o:=fun c o m e=>by
   simp only[aP,eK,dh,not_or]at m;exact sb.extBut _ _ m.1 (kk c o m.1 m.2.1 m.2.2.1 m.2.2.2 e)
  have HX:IsPair mZ s.heap.objs.size u1 u2:=sb.extBut _ _ Vb g5;refine⟨.ref s.heap.objs.size,_,I.AL (t':=s.toks) (ch:=[z,TO,i1,i2]) (T:=s.heap.objs.size) (o:=.tup [x,y]) (fun c m=>hf c ?_) up (ar _) ⟨by show 2<=sizeLine;decide,[u1,u2],.cons U_ (.cons Va .nil),⟨_,HX,rfl,_,rfl,rfl⟩⟩,rfl,
   ⟨s.heap.objs.size,x,y,rfl,I.fresh,rfl,fun Vc h=>by rw[I.j_ h KN];exact hx,fun Xj h=>by rw[I.j_ h IP];exact hy⟩,
   ⟨k1,sb.extBut _ _ D.TIz (kk _ _ D.TIz D.TITO D.TIi1 D.TIi2 xW),⟨u1,u2,sb.extBut _ _ D.TOz g2⟩,g3.extBut sb.extBut D.i1z,g4.extBut sb.extBut D.i2z⟩,fun c m=>?_⟩
  ·simp only[aP,eK,dh]at m;rcases m with rfl|rfl|rfl|rfl<;>repeat constructor
  ·rw[ah ?_]
   ·exact(hf c m).1
   ·simp only[aP,eK,dh]at m;obtain⟨o1,e1,_⟩:=h1;obtain⟨o2,e2,_⟩:=h2;rcases m with rfl|rfl|rfl|rfl|rfl
    ·exact(lt hz).symm
    ·exact(lt xW).symm
    ·exact(lt AJ).symm
    ·exact(lt e1).symm
    ·exact(lt e2).symm
 done:=by
  intro X hP hw hK hc i pins s σ H E I hf st hg;subst hP hw hK;obtain⟨xs,KN,hx⟩:=hg;obtain⟨hz,xW,⟨p,q,AJ⟩,h1,h2⟩:=st;obtain⟨CK,Pc,p1,_⟩:=I.tuple KN;have hl:=Pc.length;refine CI (I.ok.hd hc) D hz xW AJ h1 (show s.heap.IsTuple a CK.toArray from p1) (KN.apart I (hf z (by repeat constructor))) (by simp;omega) fun h' kk=>⟨rfl,?_⟩;refine I.AM (t':=s.toks) (ch:=[z,i1]) (fun c m=>hf c ?_) fun c o m e=>?_
  ·simp only[aP,eK,dh]at m⊢;rcases m with h|h<;>simp[h]
  ·simp only[aP,eK,dh,not_or]at m;exact kk c o m.1 m.2 e
 self:=fun _ _ _ _ _ st h=>wpAny_pyIter_zip st.1 h
theorem IQ(n:Nat):ZA (n+4) (n+2) (n+3) n (n+1):=⟨aS (by omega),aS (by omega),aS (by omega),aS (by omega),aS (by omega),cp (by omega),cp (by omega),cp (by omega),cp (by omega),aS (by omega)⟩
def Rl(K:PySem.W.Frag)(ta:TA):TI:=fun σ H R=>ta σ H fun vs H1=>∃a b xs ys,vs=[.ref a,.ref b]/\gW K H1 a xs/\gW K H1 b ys/\R (Rk K a b) H1
theorem AN:bootBuiltins "zip"=some (.type "zip"):=by decide+kernel
theorem IS{X:Cx}{es:List Expr}{x1:Nat}{ug:Pos}{a b:Expr}{ta:TA}{p pos:Pos}(hg:Gl X "zip")(hm:X.mg "zip"=none)(ha:PA X [a,b] ta)(hs:starEach [a,b] X.env=[(false,eval a X.env),(false,eval b X.env)]:=by rfl) (To:starEach [b] X.env=[(false,eval b X.env)]:=by rfl):
  PI X (.Tuple es x1 ug) (.Call (.Name "zip" p) [a,b] [] pos) (Rl X.K ta):=by
 intro pins s σ H R I h;refine Call_ (kF I hg hm AN (oW (du (ha pos pins s σ H _ I h) fun us s1 ⟨vs,H1,I1,r1,q1⟩=>?_) (by rw[hs,To]) (by rw[To];rfl)));obtain⟨c,d,xs,ys,e,hc,hd,q⟩:=q1;subst e;obtain⟨u,v,rfl,ru,rv⟩:=vals2 r1;cases(show u=Value.ref c from ru);cases(show v=Value.ref d from rv);obtain⟨CK,Pc,p1,_⟩:=I1.tuple hc;obtain⟨vC,BB,p2,_⟩:=I1.tuple hd;refine AK (show s1.heap.IsTuple c CK.toArray from p1) (show s1.heap.IsTuple d vC.toArray from p2) fun h' hz xW AJ g1 g2 kk=>?_
 have I2:Inv X pins σ H1 {s1 with heap:=h'}:=I1.kept (t':=s1.toks) kk;refine wpAny_pyIter_zip hz ⟨s1.heap.objs.size+4,[s1.heap.objs.size+4,s1.heap.objs.size+2,s1.heap.objs.size+3,s1.heap.objs.size,s1.heap.objs.size+1],_,_,H1,rfl,I2,CJ (IQ _),⟨hz,xW,⟨_,_,AJ⟩,g1,g2⟩,fun b m=>?_,q⟩;have hb:s1.heap.objs.size<=b:=by
  simp only[aP,eK,dh]at m;rcases m with rfl|rfl|rfl|rfl|rfl
  ·exact jm _ 4
  ·exact jm _ 2
  ·exact jm _ 3
  ·exact ar _
  ·exact jm _ 1
 exact I1.vx hb (I1.bN.fresh hb)
end L2
namespace L2
open PySem PySem.Spec PyProof.Rows
def AO(us ws:List Tr):List Tr:=List.zipWith (fun a b=>.tup [a,b]) us ws
section
variable {X:Cx}{a b e:Expr}{pos p ug:Pos}{L:az->Rs (List Tr)}{es:List Expr}{x1:Nat}
theorem AQ{K:PySem.W.Frag}{B:bQ}{H:Hp}{a b:Addr}{vs ws:List V}{ts us:List Tr}(h:gW K (aN B H) a vs)(r:aJ K (aN B H) vs ts)(h2:gW K (aN B H) b ws)(r2:aJ K (aN B H) ws us)(hl:ts.length<=us.length):jK K B (Rk K a b) H (AO ts us) where
 go:=fun i B' H' hi s hb=>by
  have uz:i<ts.length:=by unfold AO at hi;rw[pA]at hi;omega
  have hv:i<vs.length:=by rw[r.length];exact uz
  have hw:i<ws.length:=by rw[r2.length];omega
  exact⟨vs,ws,vs[i],ws[i],au.tup aE (s.h.tup h),au.tup aE (s.h.tup h2),by simp[hv],by simp[hw]⟩
 yM:=fun i B' H' x ES hi s hb ⟨T,y,z,e1,e2,e3,q,q2⟩=>by
  subst e1 e3;obtain⟨t,et,rt⟩:=r.xH (q vs (au.tup aE (s.h.tup h)));obtain⟨u,eu,ru⟩:=r2.xH (q2 ws (au.tup aE (s.h.tup h2)));refine⟨au.upd e2,.tup [t,u],by unfold AO;rw[List.getElem?_zipWith,et,eu],.tup (hb.new e2) (.cons ((rt.same s).same (aZ (au.upd e2))) (.cons ((ru.same s).same (aZ (au.upd e2))) .nil))⟩
 stop:=fun B' H' s=>⟨vs,au.tup aE (s.h.tup h),by unfold AO;rw[pA,r.length];omega⟩
def Rm(l:Rs (List Tr)):Rs (List Tr):=l.bind fun ts=>match ts with
 |[.tup us,.tup ws]=>if us.length<=ws.length then .ok (AO us ws)else .bad
 |_=>.bad
theorem MW(hm:X.mg "zip"=none)(ha:PA X [a,b] (yV X L))(hg:Gl X "zip":=by rfl) (hs:ba [a,b]=true:=by rfl):PI X (.Tuple es x1 ug) (.Call (.Name "zip" p) [a,b] [] pos) (tI X fun ρ=>Rm (L ρ)):=
 (IS hg hm ha (by rw[aX _ _ (aG hs).1,aX _ _ (aG (aG hs).2).1];rfl) (by rw[aX _ _ (aG (aG hs).2).1];rfl)).weak fun σ H R ⟨B,ρ,hb,r,q⟩=>⟨B,ρ,hb,r,q.bind.mono fun ts qt vs H1 s1 r1=>by
  split at qt
  ·obtain⟨x,y,e,h1,h2⟩:=qE r1;obtain⟨_,_,rfl,h,rr⟩:=h1.cQ;obtain⟨_,_,rfl,h',vU⟩:=h2.cQ;split at qt
   ·rename_i hl;exact⟨_,_,_,_,e,au.tup aE h,au.tup aE h',qt _ H1 s1 (AQ h rr h' vU hl)⟩
   ·exact qt.elim
  ·exact qt.elim⟩
variable {F:az->Rs Tr}
def oo:List Tr->Rs (List String)
 |[]=>.ok []
 |.ty n::ts=>(oo ts).bind fun ns=>.ok (n::ns)
 |_::_=>.bad
theorem zg:∀{ts:List Tr} {ns:List String},oo ts=.ok ns->ts=ns.map Tr.ty
 |[],ns,h=>by cases h;rfl
 |t::ts,ns,h=>by
  cases t with
  |ty n=>
   cases e:oo ts with
   |ok ms=>
    rw[oo,e]at h;cases h;rw[zg e];rfl
   |exc c=>rw[oo,e]at h;cases h
   |bad=>rw[oo,e]at h;cases h
  |_=>cases h
theorem vY:∀{ts:List Tr} {c:Tr},oo ts≠ .exc c
 |[],c,h=>by cases h
 |t::ts,c,h=>by
  cases t with
  |ty n=>
   cases e:oo ts with
   |ok ms=>rw[oo,e]at h;cases h
   |exc c'=>exact vY e
   |bad=>rw[oo,e]at h;cases h
  |_=>cases h
theorem vZ{K:PySem.W.Frag}{H:Vw}:∀{ns:List String} {vs:List V},aJ K H vs (ns.map Tr.ty)->vs=ns.map V.ty
 |[],_,r=>by cases r;rfl
 |n::ns,_,r=>by
  cases r with
  |cons h r=>cases h;rw[vZ r];rfl
theorem zh(K:PySem.W.Frag)(a:String)(ha:a∈["NoneType","bool","int","str","tuple","list","dict"]):∀(cs:List String),(∀c∈cs,c∈kinds)->PySem.W.kitAny K (.type a) (cs.map Value.type)=some (cs.any fun c=>a==c||(a=="bool"&&c=="int"))
 |[],_=>rfl
 |c::cs,h=>by
  have ih:=zh K a ha cs fun d m=>h d (aW _ m);have k1:=y_ K a ha c (h c (aM ..));rw[aA,PySem.W.kitAny,k1,ih,gw];cases(a==c||(a=="bool"&&c=="int"))<;>rfl
def GB:List Tr->Rs Tr
 |[t,.tup cs]=>(oo cs).bind fun ns=>if Ti t=true/\ns.all (fun c=>kinds.contains c)=true then .ok (.bl (ns.any (O7 t)))else .bad
 |_=>.bad
theorem MX{K:PySem.W.Frag}{W:Vw}{H:Hp}{x:V}{t:Tr}(r:Rep K W x t)(f:Ti t=true):qI t∈["NoneType","bool","int","str","tuple","list","dict"]/\Gi x=true/\l7 K H x (.type (qI t)):=by
 cases r with
 |cg=>exact⟨.head _,rfl,.cg⟩
 |bl b=>exact⟨.tail _ (.head _),rfl,.bl b⟩
 |int i=>exact⟨.tail _ (.tail _ (.head _)),rfl,.int i⟩
 |str z _=>exact⟨.tail _ (.tail _ (.tail _ (.head _))),rfl,.str z⟩
 |_=>cases f
theorem IT:iC X (.builtin "isinstance") GB:=by
 intro pins s σ H xs us Q I rv ⟨B,ts,hb,r,q⟩;unfold GB at q;split at q
 ·rename_i t cs;obtain⟨x1,x2,rfl,h1,h2⟩:=qE r;obtain⟨a,vs,rfl,h,rr⟩:=h2.cQ;cases e:oo cs with
  |exc c=>exact(vY e).elim
  |bad=>rw[e]at q;exact(show False from q).elim
  |ok ns=>
   rw[e]at q;have f:=fi q;have ec:=zg e;subst ec;have ev:=vZ rr;subst ev;have mem:∀c∈ns,c∈kinds:=fun c m=>by
    have:=bF.mp f.1.2 c m;simpa using this
   obtain⟨ha,fx,tx⟩:=MX (H:=H) h1 f.1.1;refine Ar pins s σ H _ us Q I rv ⟨_,_,ns,.type (qI t),_,rfl,fx,h.up,tx,zh X.K _ ha ns mem,?_⟩;have e2:(ns.any fun c=>qI t==c||(qI t=="bool"&&c=="int"))=ns.any (O7 t):=rfl;rw[e2];exact f.2 _ H (au.refl H) (.bl _)
 ·exact(show False from q).elim
end
end L2
namespace L2
open PySem PySem.Spec PySem.Calls PyProof.Rows
section
variable {X:Cx}
variable {l:Expr}{p1 p2 IU IV:Pos}{F:az->Rs Tr}
end
end L2
namespace PySem.SeqAt
open PySem PySem.Spec PySem.Calls PyProof.Rows PySem.MeetsSeq
theorem AR{M:Model}{A:Around}{E:Value->Shared->Prop}{s:Shared}{β:Type}(f:Nat->β->Sem (ForInStep β))(I:List Nat->β->Shared->Prop)(Q:β->Shared->Prop)
  (turn:∀x rest b s,I (x::rest) b s->wpAny M A (f x b) (fun r s'=>match r with|.yield b'=>I rest b' s'|.done b'=>Q b' s') E s)
  (fin:∀b s,I [] b s->Q b s) (n:Nat) (b:β) (h:I (List.range' 0 n) b s):wpAny M A (forIn [:n] b f) Q E s:=by
 rw[Std.Legacy.Range.forIn_eq_forIn_range'];simp only[Std.Legacy.Range.size,lY,Nat.add_sub_cancel,Nat.div_one];exact ig f I Q turn fin _ b h
theorem sf(l:Addr)(items:Array Value)(n:Nat)(dd:Option Addr)(sl:Array (Option Value))(x:Value)(e:Value->Bool)(j:Nat)(hj:j<items.size)(hit:e items[j]=true)(Vd:∀m (hm:m<items.size),m<j->e items[m]=false):
  Meets (Builtin.«tuple.index» ⟨[.ref l,x],[]⟩)
   (fun A R s=>s.heap.get? l=some {cls:=.type "tuple",dict:=dd,data:=.seq items n,slots:=sl}/\(∀y,y∈items->EqAt A.in1 s y x (e y))/\R (.ok (.ret (.int j s.toks))) {s with toks:=s.toks+1}):=
 .of_wp fun prog w A R s h=>by
  obtain⟨hp,g,d,tk,os⟩:=s;obtain⟨hl,he,h⟩:=h
  wp_walk using wpAny_loadPart' hl,AR _ (fun rest (b:Option _×Unit) s'=>b.1=none/\s'=⟨hp,g,d,tk,os⟩/\∃i,rest=List.range' i (items.size - i)/\i<=j) _
  case turn=>
   rintro y rest b s' ⟨hb,rfl,i,hr,hi⟩
   have dX:i<items.size:=Nat.lt_of_le_of_lt hi hj;obtain⟨rfl,B7⟩:y=i/\rest=List.range' (i+1) (items.size - (i+1)):=by
    have e:items.size - i=(items.size - (i+1))+1:=by omega
    rw[e,pQ]at hr;injection hr with h1 h2
    exact⟨h1,h2⟩
   rw[cH dX];refine aa (he _ (Array.getElem_mem dX) prog w _ _ ?_);by_cases z:y=j
   ·subst z;rw[hit]
    wp_walk
    exact⟨_,rfl,h⟩
   ·rw[Vd y dX (by omega)]
    wp_walk
    exact⟨rfl,rfl,y+1,B7,by omega⟩
  case fin=>
   rintro b s' ⟨hb,rfl,i,hr,hi⟩
   have e:items.size - i=(items.size - (i+1))+1:=by omega
   rw[e,pQ]at hr;exact nomatch hr
  case h=>exact⟨rfl,rfl,0,by rw[Nat.min_self,lY],bG _⟩
end PySem.SeqAt
namespace L2
open PySem PySem.Spec PySem.Calls PyProof.Rows
section
variable {X:Cx}{o e:Expr}{es:List Expr}{p pos ug apos dg:Pos}{F G:az->Rs Tr}{L:az->Rs (List Tr)}
theorem Rn{B:bQ}{ρ:az}{H H1:Hp}{k:Tr->Prop}(s1:au H H1)(q:Fi X H (G ρ) k):Fi X H1 (ag (G ρ) (.ok [])) fun zs=>∃x,zs=[x]/\k x:=by
 have q2:=Fi.same q s1;cases eg:G ρ with
 |ok x=>rw[eg]at q2;exact⟨x,rfl,q2⟩
 |exc c=>rw[eg]at q2;exact q2
 |bad=>rw[eg]at q2;exact q2
variable {c m:Str}{st:Stmt}{ps:List Str}{f:Addr}{fd:FuncData}{k:Nat}{h:List Tr->Rs Tr}
end
end L2
namespace L2
open PySem PySem.Spec PyProof.Rows
inductive Ao where
 |lst (ts:List Tr)|jI (aC:List (Key×Tr))|ins (x:Str) (fs:List (Str×Tr))|bf (aC:List (List Key×Tr))|Fj (x:Str)|tb (x q:Str)
abbrev Ab:=List Ao
def mj(K:PySem.W.Frag)(B:bQ)(H:Hp)(a:Addr):Ao->Prop
 |.lst ts=>B.hd a=true/\∃vs,H a=some (.lst vs)/\aJ K (aN B H) vs ts
 |.jI aC=>B.hd a=true/\∃av,H a=some (.dK av)/\Ax K (aN B H) av aC
 |.bf aC=>B.hd a=true/\∃av,H a=some (.dT av)/\av.map (·.1)=aC.map (·.1)/\aJ K (aN B H) (av.map (·.2)) (aC.map (·.2))
 |.ins x fs=>B.hd a=true/\∃dx vc,H a=some (.ins (clsAt K x) dx vc)/\H dx=some (.own a)/\B.ix dx=none/\vc.map (·.1)=fs.map (·.1)/\aJ K (aN B H) (vc.map (·.2)) (fs.map (·.2))
 |.tb x q=>B.hd a=true/\(∃c,PySem.W.tabIn K x=some (c,a))/\H a=some (.vb #[.str q 0])
 |.Fj x=>B.hd a=true/\∃oe:Obj,H a=some (.ext fun h=>h.get? a=some oe)/\oe.cls=.ref (clsAt K x)
structure HA(K:PySem.W.Frag)(B:bQ)(A:Ab)(H:Hp):Prop where
 hb:HB B H
 ob:∀i o,A[i]?=some o->∃a,B.ix a=some i/\mj K B H a o
 inj:∀a b i,B.ix a=some i->B.ix b=some i->a=b
 lt:∀a i,B.ix a=some i->i<A.length
structure Grows(B:bQ)(H:Hp)(B':bQ)(H':Hp):Prop where
 fY:cv (aN B H) (aN B' H')
 kp:∀b o,B.ix b=none->H b=some o->H' b=some o
 hd:∀b,B.ix b=none->B.hd b=true->B'.hd b=true
 nw:∀b i,B'.ix b=some i->B.ix b=none->H b=none
section
variable {K:PySem.W.Frag}{B B' B1 B2:bQ}{H H' H1 H2:Hp}{A:Ab}
theorem mj.same {a:Addr}{o:Ao}(h:mj K B H a o)(s:au H H'):mj K B H' a o:=by
 cases o with
 |lst ts=>obtain⟨h0,vs,h1,h2⟩:=h;exact⟨h0,vs,s _ _ h1,h2.same (aZ s)⟩
 |jI aC=>obtain⟨h0,vs,h1,h2⟩:=h;exact⟨h0,vs,s _ _ h1,h2.same (aZ s)⟩
 |bf aC=>obtain⟨h0,vs,h1,h2,h3⟩:=h;exact⟨h0,vs,s _ _ h1,h2,h3.same (aZ s)⟩
 |Fj x=>obtain⟨h0,oe,h1,h2⟩:=h;exact⟨h0,oe,s _ _ h1,h2⟩
 |tb x q=>obtain⟨h0,h1,h2⟩:=h;exact⟨h0,h1,s _ _ h2⟩
 |ins c fs=>obtain⟨h0,dx,vc,h1,h2,h3,h4,h5⟩:=h;exact⟨h0,dx,vc,s _ _ h1,s _ _ h2,h3,h4,h5.same (aZ s)⟩
theorem mj.hd {a:Addr}{o:Ao}(h:mj K B H a o):B.hd a=true:=by cases o<;>exact h.1
theorem mj.mem {a:Addr}{o:Ao}(h:mj K B H a o):∃x,H a=some x/\(∀vs,x≠ .tup vs)/\∀ob u,x≠ .fP ob u:=by
 cases o with
 |lst ts=>obtain⟨h0,vs,h1,h2⟩:=h;exact⟨_,h1,(fun _ e=>by cases e),(fun _ _ e=>by cases e)⟩
 |jI aC=>obtain⟨h0,vs,h1,h2⟩:=h;exact⟨_,h1,(fun _ e=>by cases e),(fun _ _ e=>by cases e)⟩
 |bf aC=>obtain⟨h0,vs,h1,h2⟩:=h;exact⟨_,h1,(fun _ e=>by cases e),(fun _ _ e=>by cases e)⟩
 |Fj x=>obtain⟨h0,oe,h1,h2⟩:=h;exact⟨_,h1,(fun _ e=>by cases e),(fun _ _ e=>by cases e)⟩
 |tb x q=>obtain⟨h0,h1,h2⟩:=h;exact⟨_,h2,(fun _ e=>by cases e),(fun _ _ e=>by cases e)⟩
 |ins c fs=>obtain⟨h0,dx,vc,h1,h2⟩:=h;exact⟨_,h1,(fun _ e=>by cases e),(fun _ _ e=>by cases e)⟩
theorem HA.same (h:HA K B A H)(s:au H H'):HA K B A H':=
 ⟨h.hb.same s,fun i o e=>by obtain⟨a,h1,h2⟩:=h.ob i o e;exact⟨a,h1,h2.same s⟩,h.inj,h.lt⟩
theorem HA.get (h:HA K B A H){a:Addr}{i:Nat}{o:Ao}(e:B.ix a=some i)(q:A[i]?=some o):mj K B H a o:=by
 obtain⟨b,h1,h2⟩:=h.ob i o q;rw[h.inj a b i e h1];exact h2
theorem HA.ex (h:HA K B A H){a:Addr}{i:Nat}(e:B.ix a=some i):∃o,A[i]?=some o/\mj K B H a o:=by
 have l:=h.lt a i e;exact⟨A[i],aF l,h.get e (aF l)⟩
theorem HA.free (h:HA K B A H){p:Addr}(hp:H p=none):B.ix p=none:=by
 cases e:B.ix p with
 |none=>rfl
 |some i=>
  obtain⟨o,_,q⟩:=h.ex e;obtain⟨x,e2,_⟩:=q.mem;rw[hp]at e2;cases e2
theorem Grows.of (s:au H H'):Grows B H B H':=⟨aZ s,fun b o _ e=>s b o e,fun _ _ e=>e,fun b i e n=>by rw[n]at e;cases e⟩
theorem Grows.refl:Grows B H B H:=.of (au.refl H)
theorem Grows.trans (hb:HB B H)(a:Grows B H B1 H1)(b:Grows B1 H1 B2 H2):Grows B H B2 H2:=by
 have key:∀c,B.ix c=none->(∃o,H c=some o)->B1.ix c=none:=fun c n ⟨o,e⟩=>by
  cases q:B1.ix c with
  |none=>rfl
  |some i=>have:=a.nw c i q n;rw[e]at this;cases this
 refine⟨a.fY.trans b.fY,fun c o n e=>b.kp c o (key c n ⟨o,e⟩) (a.kp c o n e),fun c n e=>?_,fun c i e n=>?_⟩
 ·exact b.hd c (key c n (let⟨o,q,_⟩:=hb c e;⟨o,q⟩)) (a.hd c n e)
 ·cases q:B1.ix c with
  |none=>
   have:=b.nw c i e q;cases q2:H c with
   |none=>rfl
   |some o=>rw[a.kp c o n q2]at this;cases this
  |some j=>exact a.nw c j q n
def ml(B:bQ)(p:Addr)(i:Nat):bQ:=⟨fun b=>B.hd b||b==p,fun b=>if b=p then some i else B.ix b⟩
theorem oK{p:Addr}{i:Nat}:(ml B p i).hd p=true:=by show(B.hd p||p==p)=true;rw[bz,Bool.or_true]
theorem gY{p:Addr}{i:Nat}:(ml B p i).ix p=some i:=ab rfl
theorem fH{p b:Addr}{i:Nat}(h:b≠p):(ml B p i).ix b=B.ix b:=ae h
theorem jQ{p b:Addr}{i:Nat}(h:b≠p):(ml B p i).hd b=B.hd b:=by show(B.hd b||b==p)=_;rw[dP h,lS]
theorem CL{p:Addr}{i:Nat}(hp:H p=none)(hx:B.ix p=none)(s:au H H'):cv (aN B H) (aN (ml B p i) H'):=⟨fun b u e=>by
 have e1:=aE b u e;have fb:b≠p:=aL e1 hp;have hB:B.hd b=false:=by
  cases q:B.hd b with
  |false=>rfl
  |true=>
   have e2:(if B.hd b=true then none else H b)=some u:=e;rw[q,ab rfl]at e2;cases e2
 rw[cC (by rw[jQ fb];exact hB)];exact s b u e1,fun b j e=>by
 have fb:b≠p:=fun z=>by rw[z]at e;rw[show(aN B H).ix p=B.ix p from rfl,hx]at e;cases e
 show(ml B p i).ix b=some j;rw[fH fb];exact e⟩
theorem HA.push {p:Addr}{o:Ao}(h:HA K B A H)(hp:H p=none)(s:au H H')(ho:mj K (ml B p A.length) H' p o):Grows B H (ml B p A.length) H'/\HA K (ml B p A.length) (A++[o]) H':=by
 have hx:=h.free hp;have fY:cv (aN B H) (aN (ml B p A.length) H'):=CL hp hx s;have up:∀{a:Addr} {u:Ao},a≠p->mj K B H a u->mj K (ml B p A.length) H' a u:=fun{a u} fb q=>by
  have e0:(ml B p A.length).hd a=true:=by rw[jQ fb];exact q.hd
  cases u with
  |lst ts=>obtain⟨h0,vs,h1,h2⟩:=q;exact⟨e0,vs,s _ _ h1,h2.same fY⟩
  |jI aC=>obtain⟨h0,vs,h1,h2⟩:=q;exact⟨e0,vs,s _ _ h1,h2.same fY⟩
  |bf aC=>obtain⟨h0,vs,h1,h2,h3⟩:=q;exact⟨e0,vs,s _ _ h1,h2,h3.same fY⟩
  |Fj x=>obtain⟨h0,oe,h1,h2⟩:=q;exact⟨e0,oe,s _ _ h1,h2⟩
  |tb x q=>obtain⟨h0,h1,h2⟩:=q;exact⟨e0,h1,s _ _ h2⟩
  |ins c fs=>
   obtain⟨h0,dx,vc,h1,h2,h3,h4,h5⟩:=q;exact⟨e0,dx,vc,s _ _ h1,s _ _ h2,by rw[fH (aL h2 hp)];exact h3,h4,h5.same fY⟩
 refine⟨⟨fY,fun b u _ e=>s b u e,fun b _ e=>?_,fun b i e n=>?_⟩,⟨fun b e=>?_,fun i u e=>?_,fun a b i e1 e2=>?_,fun a i e=>?_⟩⟩
 ·show(B.hd b||b==p)=true;rw[e,jt]
 ·by_cases q:b=p
  ·rw[q];exact hp
  ·rw[fH q,n]at e;cases e
 ·by_cases q:b=p
  ·rw[q];obtain⟨x,e2,n,_⟩:=ho.mem;exact⟨x,e2,n⟩
  ·rw[jQ q]at e;obtain⟨x,e2,n⟩:=h.hb b e;exact⟨x,s _ _ e2,n⟩
 ·by_cases q:i<A.length
  ·rw[ck q]at e;obtain⟨a,e1,e2⟩:=h.ob i u e;have fb:a≠p:=fun z=>by rw[z,hx]at e1;cases e1
   exact⟨a,by rw[fH fb];exact e1,up fb e2⟩
  ·rw[d_ (pP q)]at e;have hi:i - A.length=0:=by
    cases z:i - A.length with
    |zero=>rfl
    |succ k=>rw[z]at e;cases e
   rw[hi]at e;cases e;have:i=A.length:=by omega
   subst this;exact⟨p,gY,ho⟩
 ·by_cases q1:a=p
  ·by_cases q2:b=p
   ·rw[q1,q2]
   ·rw[q1,gY]at e1;cases e1;rw[fH q2]at e2;exact absurd (h.lt b _ e2) (cA _)
  ·by_cases q2:b=p
   ·rw[q2,gY]at e2;cases e2;rw[fH q1]at e1;exact absurd (h.lt a _ e1) (cA _)
   ·rw[fH q1]at e1;rw[fH q2]at e2;exact h.inj a b i e1 e2
 ·rw[bj,j6];by_cases q:a=p
  ·rw[q,gY]at e;cases e;exact jn _
  ·rw[fH q]at e;exact h9 (h.lt a i e)
theorem kc{a:Addr}{u:HO}(h:B.hd a=true):aN B (upd H a u)=aN B H:=by
 unfold aN;congr 1;funext b;by_cases q:b=a
 ·subst q;rw[ab h,ab h]
 ·rw[ah q]
theorem HA.write {a:Addr}{i:Nat}{o:Ao}{u:HO}(h:HA K B A H)(e:B.ix a=some i)(ho:mj K B (upd H a u) a o):Grows B H B (upd H a u)/\HA K B (A.set i o) (upd H a u):=by
 have hd:B.hd a=true:=ho.hd;have hv:aN B (upd H a u)=aN B H:=kc hd;refine⟨⟨by rw[hv];exact cv.refl _,fun b x n q=>?_,fun _ _ q=>q,fun b j q n=>by rw[n]at q;cases q⟩,⟨fun b q=>?_,fun j x q=>?_,h.inj,fun b j q=>by rw[gs];exact h.lt b j q⟩⟩
 ·have fb:b≠a:=fun z=>by rw[z,e]at n;cases n
  rw[ah fb];exact q
 ·by_cases z:b=a
  ·subst z;obtain⟨x,e2,n,_⟩:=ho.mem;exact⟨x,e2,n⟩
  ·rw[ah z];exact h.hb b q
 ·rcases gj q with⟨rfl,_,rfl⟩|⟨rQ,q⟩
  ·exact⟨a,e,ho⟩
  ·obtain⟨b,e1,e2⟩:=h.ob j x q;have fb:b≠a:=fun z=>by rw[z,e]at e1;cases e1;exact rQ rfl
   refine⟨b,e1,?_⟩;cases x with
   |lst ts=>obtain⟨h0,vs,h1,h2⟩:=e2;exact⟨h0,vs,by rw[ah fb];exact h1,by rw[hv];exact h2⟩
   |jI aC=>obtain⟨h0,vs,h1,h2⟩:=e2;exact⟨h0,vs,by rw[ah fb];exact h1,by rw[hv];exact h2⟩
   |bf aC=>obtain⟨h0,vs,h1,h2,h3⟩:=e2;exact⟨h0,vs,by rw[ah fb];exact h1,h2,by rw[hv];exact h3⟩
   |Fj x=>obtain⟨h0,oe,h1,h2⟩:=e2;exact⟨h0,oe,by rw[ah fb];exact h1,h2⟩
   |tb x q=>obtain⟨h0,h1,h2⟩:=e2;exact⟨h0,h1,by rw[ah fb];exact h2⟩
   |ins c fs=>
    obtain⟨h0,dx,vc,h1,h2,h3,h4,h5⟩:=e2;have Ve:dx≠a:=fun z=>by rw[z,e]at h3;cases h3
    exact⟨h0,dx,vc,by rw[ah fb];exact h1,by rw[ah Ve];exact h2,h3,h4,by rw[hv];exact h5⟩
end
mutual
def gQ:Tr->Bool
 |.at _=>false
 |.tup ts=>cD ts
 |.lst ts=>cD ts
 |.jI aC=>zi aC
 |.bf aC=>sN aC
 |.ob _ fs=>zj fs
 |_=>true
def cD:List Tr->Bool
 |[]=>true
 |t::ts=>gQ t&&cD ts
def zi:List (Key×Tr)->Bool
 |[]=>true
 |p::r=>GC p&&zi r
def GC:Key×Tr->Bool
 |(_,t)=>gQ t
def sN:List (List Key×Tr)->Bool
 |[]=>true
 |p::r=>GD p&&sN r
def GD:List Key×Tr->Bool
 |(_,t)=>gQ t
def zj:List (Str×Tr)->Bool
 |[]=>true
 |p::r=>GF p&&zj r
def GF:Str×Tr->Bool
 |(_,t)=>gQ t
end
theorem sO:∀(aC:List (Key×Tr)),zi aC=cD (aC.map (·.2))
 |[]=>rfl
 |(k,t)::r=>by rw[zi,GC,aA,cD,sO r]
theorem sP:∀(aC:List (List Key×Tr)),sN aC=cD (aC.map (·.2))
 |[]=>rfl
 |(k,t)::r=>by rw[sN,GD,aA,cD,sP r]
theorem sQ:∀(aC:List (Str×Tr)),zj aC=cD (aC.map (·.2))
 |[]=>rfl
 |(k,t)::r=>by rw[zj,GF,aA,cD,sQ r]
mutual
def v3:Tr->Bool
 |.cg=>true
 |.bl _=>true
 |.int _=>true
 |.str _=>true
 |.ty _=>true
 |.at _=>true
 |.tup ts=>f6 ts
 |_=>false
def f6:List Tr->Bool
 |[]=>true
 |t::ts=>v3 t&&f6 ts
end
def bT:Nat->Ab->Tr->Tr
 |0,_,t=>t
 |n+1,A,.at i=>match A[i]? with
  |some (.lst ts)=>.lst (ts.map (bT n A))
  |some (.jI aC)=>.jI (aC.map fun p=>(p.1,bT n A p.2))
  |some (.bf aC)=>.bf (aC.map fun p=>(p.1,bT n A p.2))
  |some (.ins c fs)=>.ob c (fs.map fun p=>(p.1,bT n A p.2))
  |some (.Fj x)=>.yU x
  |some (.tb _ _)=>.at i
  |none=>.at i
 |_+1,_,t=>t
def bQ.un (B:bQ):bQ:=⟨fun b=>B.hd b&&(B.ix b).isNone,B.ix⟩
section
variable {K:PySem.W.Frag}{B B':bQ}{H H':Hp}{A:Ab}
theorem GG:nO B.un B:=⟨fun b e=>by
 have e':(B.hd b&&(B.ix b).isNone)=true:=e;rw[aK]at e';exact e'.1,fun _ _ e=>e⟩
theorem fv:cv (aN B H) (aN B.un H):=qA GG
theorem zk(h:HB B H):HB B.un H:=fun b e=>h b (GG.hd b e)
theorem v5{a:Addr}{i:Nat}(e:B.ix a=some i):(aN B.un H).H a=H a:=cC (by show(B.hd a&&(B.ix a).isNone)=false;rw[e];exact lP _)
theorem iJ{W W':Vw}{f:Tr->Tr}(h:∀{v t},Rep K W v t->Rep K W' v (f t)):∀{vs:List V} {ts:List Tr},aJ K W vs ts->aJ K W' vs (ts.map f)
 |[],_,r=>by cases r;exact .nil
 |_::_,_,r=>by cases r with|cons h1 r=>exact .cons (h h1) (iJ h r)
theorem gI(ha:HA K B A H):∀(n:Nat) {v:V} {t:Tr},Rep K (aN B H) v t->Rep K (aN B.un H) v (bT n A t)
 |0,v,t,r=>by rw[bT];exact r.same fv
 |n+1,v,t,r=>by
  cases r with
  |@«at» a i h=>
   have e:B.ix a=some i:=h;obtain⟨o,q,ao⟩:=ha.ex e;rw[bT,q];cases o with
   |lst ts=>
    obtain⟨h0,vs,h1,h2⟩:=ao;exact .lst (by rw[v5 e];exact h1) (iJ (fun r=>gI ha n r) h2)
   |jI aC=>
    obtain⟨h0,av,h1,h2⟩:=ao;refine .jI (.inl (by rw[v5 e];exact h1)) (by rw[h2.keys,bq];rfl) ?_
    have:=iJ (fun r=>gI ha n r) h2.vals;rw[bq]at this⊢;exact this
   |Fj x=>obtain⟨h0,oe,h1,h2⟩:=ao;exact .yU (by rw[v5 e];exact h1) h2
   |tb x q=>exact .at e
   |bf aC=>
    obtain⟨h0,av,h1,h2,h3⟩:=ao;refine .bf (.inl (by rw[v5 e];exact h1)) (by rw[h2,bq];rfl) ?_
    have:=iJ (fun r=>gI ha n r) h3;rw[bq]at this⊢;exact this
   |ins c fs=>
    obtain⟨h0,dx,vc,h1,h2,h3,h4,h5⟩:=ao;refine .ob (by rw[v5 e];exact h1) (by rw[h4,bq];rfl) ?_
    have:=iJ (fun r=>gI ha n r) h5;rw[bq]at this⊢;exact this
  |cg=>exact .cg
  |bl b=>exact .bl b
  |int i=>exact .int i
  |str z h=>exact .str z h
  |ty m=>exact .ty m
  |jd h=>exact .jd (fv.h.seq h)
  |tup h r=>exact .tup (fv.h _ _ h) (r.same fv)
  |lst h r=>exact .lst (fv.h _ _ h) (r.same fv)
  |jI h e r=>exact .jI (h.same fv.h) e (r.same fv)
  |bf h e r=>exact .bf (Rd.same fv.h h) e (r.same fv)
  |ob h e r=>exact .ob (fv.h _ _ h) e (r.same fv)
  |yU h c=>exact .yU (fv.h _ _ h) c
theorem IW(ha:HA K B A H){a:Addr}{x:HO}(e:(aN B.un H).H a=some x)(hx:(∃vs,x=.tup vs)\/∃o u,x=.fP o u):(aN B H).H a=some x:=by
 have e1:=aE a x e;cases q:B.hd a with
 |false=>rw[cC q];exact e1
 |true=>
  cases z:B.ix a with
  |none=>
   have e2:(if B.un.hd a=true then none else H a)=some x:=e;rw[show B.un.hd a=(B.hd a&&(B.ix a).isNone)from rfl,q,z]at e2;cases e2
  |some i=>
   obtain⟨o,_,ao⟩:=ha.ex z;obtain⟨y,e3,n1,n2⟩:=ao.mem;rw[e1]at e3;cases e3;rcases hx with⟨vs,rfl⟩|⟨o,u,rfl⟩
   ·exact absurd rfl (n1 vs)
   ·exact absurd rfl (n2 o u)
structure gJ(W W':Vw):Prop where
 h:∀a x,W.H a=some x->((∃vs,x=.tup vs)\/∃o u,x=.fP o u)->W'.H a=some x
 x:∀a i,W.ix a=some i->W'.ix a=some i
theorem gJ.un (ha:HA K B A H):gJ (aN B.un H) (aN B H):=⟨fun a x e hx=>IW ha e hx,fun _ _ e=>e⟩
theorem gJ.trans {W W1 W2:Vw}(a:gJ W W1)(b:gJ W1 W2):gJ W W2:=⟨fun c x e hx=>b.h c x (a.h c x e hx) hx,fun c i e=>b.x c i (a.x c i e)⟩
theorem gJ.new {p:Addr}{i:Nat}{x:HO}(hx:B.ix p=none)(hp:H p=some x)(n1:∀vs,x≠ .tup vs)(n2:∀o u,x≠ .fP o u):gJ (aN B H) (aN (ml B p i) H):=⟨fun a y e hy=>by
 have e1:=aE a y e;have fb:a≠p:=fun z=>by
  rw[z,hp]at e1;cases e1;rcases hy with⟨vs,z⟩|⟨o,u,z⟩
  ·exact n1 vs z
  ·exact n2 o u z
 have hB:B.hd a=false:=by
  cases q:B.hd a with
  |false=>rfl
  |true=>
   have e2:(if B.hd a=true then none else H a)=some y:=e;rw[q,ab rfl]at e2;cases e2
 rw[cC (by rw[jQ fb];exact hB)];exact e1,fun a j e=>by
 have fb:a≠p:=fun z=>by rw[z]at e;rw[show(aN B H).ix p=B.ix p from rfl,hx]at e;cases e
 show(ml B p i).ix a=some j;rw[fH fb];exact e⟩
theorem uE{W W':Vw}(s:gJ W W'){v:V}{t:Tr}(h:Rep K W v t):v3 t=true->Rep K W' v t:=by
 refine Rep.rec (motive_1:=fun v t _=>v3 t=true->Rep K W' v t) (motive_2:=fun vs ts _=>f6 ts=true->aJ K W' vs ts) ?_ ?_ ?_ ?_ ?_ ?_ ?_ ?_ ?_ ?_ ?_ ?_ ?_ ?_ ?_ h
 ·exact fun _=>.cg
 ·exact fun b _=>.bl b
 ·exact fun i _=>.int i
 ·exact fun z h _=>.str z h
 ·exact fun n _=>.ty n
 ·exact fun h f=>nomatch f
 ·intro a vs ts h _ ih f;refine .tup ?_ (ih f)
  exact s.h _ _ h (.inl ⟨_,rfl⟩)
 ·exact fun h _ _ f=>nomatch f
 ·exact fun h _ _ _ f=>nomatch f
 ·exact fun h _=>.at (s.x _ _ h)
 ·exact fun h _ _ _ f=>nomatch f
 ·exact fun h _ _ _ f=>nomatch f
 ·exact fun h c f=>nomatch f
 ·exact fun _=>.nil
 ·intro v t vs ts _ _ Ro MY f;rw[f6,aK]at f;exact .cons (Ro f.1) (MY f.2)
theorem mm{W W':Vw}(s:gJ W W'):∀{vs:List V} {ts:List Tr},aJ K W vs ts->f6 ts=true->aJ K W' vs ts
 |[],_,r,_=>by cases r;exact .nil
 |_::_,_,r,f=>by
  cases r with
  |cons h r=>
   rw[f6,aK]at f;exact .cons (uE s h f.1) (mm s r f.2)
theorem sR(ha:HA K B A H){v:V}{t:Tr}(h:Rep K (aN B.un H) v t)(f:v3 t=true):Rep K (aN B H) v t:=uE (.un ha) h f
theorem Rep.CM {W W':Vw}(s:au W.H W'.H){v:V}{t:Tr}(h:Rep K W v t):gQ t=true->Rep K W' v t:=by
 refine Rep.rec (motive_1:=fun v t _=>gQ t=true->Rep K W' v t) (motive_2:=fun vs ts _=>cD ts=true->aJ K W' vs ts) ?_ ?_ ?_ ?_ ?_ ?_ ?_ ?_ ?_ ?_ ?_ ?_ ?_ ?_ ?_ h
 ·exact fun _=>.cg
 ·exact fun b _=>.bl b
 ·exact fun i _=>.int i
 ·exact fun z h _=>.str z h
 ·exact fun n _=>.ty n
 ·exact fun h _=>.jd (s.seq h)
 ·exact fun h _ ih f=>.tup (s _ _ h) (ih f)
 ·exact fun h _ ih f=>.lst (s _ _ h) (ih f)
 ·intro a av aC h e _ ih f;refine .jI (Rd.same s h) e (ih ?_);rw[gQ,sO]at f;exact f
 ·exact fun h f=>nomatch f
 ·intro a av aC h e _ ih f;refine .bf (Rd.same s h) e (ih ?_);rw[gQ,sP]at f;exact f
 ·intro a c dx vc fs h e _ ih f;refine .ob (s _ _ h) e (ih ?_);rw[gQ,sQ]at f;exact f
 ·exact fun h c _=>.yU (s _ _ h) c
 ·exact fun _=>.nil
 ·intro v t vs ts _ _ Ro MY f;rw[cD,aK]at f;exact .cons (Ro f.1) (MY f.2)
theorem aJ.CM {W W':Vw}(s:au W.H W'.H):∀{vs:List V} {ts:List Tr},aJ K W vs ts->cD ts=true->aJ K W' vs ts
 |[],_,r,_=>by cases r;exact .nil
 |_::_,_,r,f=>by
  cases r with
  |cons h r=>
   rw[cD,aK]at f;exact .cons (h.CM s f.1) (aJ.CM s r f.2)
end
def MZ(A:Ab):Cell->Cell
 |.sh t=>.sh (bT 5 A t)
 |c=>c
def bb(A:Ab)(ρ:az):az:=ρ.map (MZ A)
theorem bg.IX {K:PySem.W.Frag}{B:bQ}{H:Hp}{A:Ab}{σ:St}{ρ:az}(ha:HA K B A H)(n:dE ρ)(h:bg K B H σ ρ):bg K B.un H σ (bb A ρ):=by
 have no:∀i ts,(bb A ρ)[i]? ≠some (Cell.ow ts):=fun i ts e=>by
  unfold bb at e;rw[aU]at e;cases q:ρ[i]? with
  |none=>rw[q]at e;cases e
  |some c=>
   rw[q]at e;cases c with
   |no=>cases e
   |sh t=>cases e
   |ow us=>exact n i us q
 refine⟨by unfold bb;rw[ai];exact h.len,fun i t e=>?_,fun i ts e=>absurd e (no i ts),fun i j ts us D _ e=>absurd e (no i ts)⟩;unfold bb at e;rw[aU]at e;cases q:ρ[i]? with
 |none=>rw[q]at e;cases e
 |some c=>
  rw[q]at e;cases c with
  |no=>cases e
  |ow us=>exact absurd q (n i us)
  |sh u=>
   obtain⟨v,e1,r⟩:=h.sh i u q;have e2:bT 5 A u=t:=by
    have e3:=Option.some.inj e;exact(Cell.sh.inj e3)
   rw[<-e2];exact⟨v,e1,gI ha 5 r⟩
theorem bg.grow {K:PySem.W.Frag}{B B':bQ}{H H':Hp}{σ:St}{ρ:az}(h:bg K B H σ ρ)(n:dE ρ)(g:Grows B H B' H'):bg K B' H' σ ρ:=
 ⟨h.len,fun i t e=>by obtain⟨v,e1,r⟩:=h.sh i t e;exact⟨v,e1,r.same g.fY⟩,fun i ts e=>absurd e (n i ts),fun i j ts us D _ e=>absurd e (n i ts)⟩
end L2
namespace L2
open PySem PySem.Spec PyProof.Rows
theorem bu.get {P:Program}{w:World}{H:Hp}{h:Heap}{a:Addr}{o:HO}(x:bu P w H h a o):∃u,h.get? a=some u:=by
 cases o with
 |lst xs=>obtain⟨_,_,_,_,e⟩:=x;exact⟨_,e⟩
 |tup xs=>obtain⟨_,_,_,o,e,_⟩:=x;exact⟨o,e⟩
 |dK av=>obtain⟨_,_,_,_,o,_,_,e,_⟩:=x;exact⟨o,e⟩
 |dT av=>obtain⟨_,_,_,_,o,_,_,e,_⟩:=x;exact⟨o,e⟩
 |set S n=>obtain⟨o,_,_,_,e,_⟩:=x;exact⟨o,e⟩
 |ins C dx fs=>obtain⟨_,_,_,e,_⟩:=x;exact⟨_,e⟩
 |own y=>exact x
 |xd fs=>obtain⟨_,⟨_,_,_,e,_⟩,_⟩:=x;exact⟨_,e⟩
 |OL lo hi=>obtain⟨_,_,_,e⟩:=x;exact⟨_,e⟩
 |fP ob u=>obtain⟨e,_⟩:=x;exact⟨_,e⟩
 |vb ps=>obtain⟨qs,e,_⟩:=x;exact⟨_,e⟩
 |met f y=>exact⟨_,(show h.get? a=some _ from x)⟩
 |ext φ=>obtain⟨_,e,_⟩:=x;exact e
structure M0(h0:Heap)(H:Hp)(h:Heap)(a:Addr)(cls:Value):Prop where
 ob:∃oe vs a0,h.get? a=some oe/\oe.cls=cls/\oe.data=.fields vs/\vs[0]?=some a0/\
  (vs[1]?=some .none\/∃T oT ts,vs[1]?=some (.ref T)/\T≠a/\h0.get? T=none/\H T=none/\h.get? T=some oT/\oT.data=.fields ts/\ts[3]?=some .none)
 fr:H a=none
 nw:h0.get? a=none
def XS(X:Cx)(H:Hp)(cls e:Value)(s:Shared):Prop:=∃a pins σ h0,e=.ref a/\Inv X pins σ H s/\M0 h0 H s.heap a cls/\(∀b,h0.get? b=none->X.eP.heap.get? b=none)/\(∀p∈X.pn,∃o,h0.get? p.1=some o)/\∀b,s.heap.get? b=none->h0.get? b=none
def EX(X:Cx):XK:=fun cls _ H=>∀e s,XS X H cls e s->X.xe e s
def oM(P:Program)(w:World):xA:=fun outer H s E e s'=>∃a cls H',e=.ref a/\s'.os=s.os/\AllBare s'.gens/\Un (l4 outer) [] H H' s.heap s'.heap/\kr P w H' s'.heap/\M0 s.heap H' s'.heap a cls/\E cls none H'
theorem M0.M3 {h0 h1 h:Heap}{H:Hp}{a:Addr}{cls:Value}(u:M0 h1 H h a cls)(k:∀b,h1.get? b=none->h0.get? b=none):M0 h0 H h a cls:=by
 obtain⟨⟨oe,vs,a0,e1,e2,e3,e4,e5⟩,f,n⟩:=u;refine⟨⟨oe,vs,a0,e1,e2,e3,e4,?_⟩,f,k a n⟩;rcases e5 with e5|⟨T,oT,ts,q1,q2,q3,q4⟩
 ·exact .inl e5
 ·exact .inr ⟨T,oT,ts,q1,q2,k T q3,q4⟩
theorem Inv.CN {X:Cx}{pins:List (Addr×Obj)}{σ:St}{H:Hp}{s:Shared}(I:Inv X pins σ H s)(hx:X.ex=[]){b:Addr}(n:s.heap.get? b=none):X.eP.heap.get? b=none:=by
 cases q:X.eP.heap.get? b with
 |none=>rfl
 |some o=>
  obtain⟨o',e⟩:=I.base.there b o q (by rw[hx];simp);rw[n]at e;cases e
theorem AS{X:Cx}(hx:X.ex=[]):Passes (oM X.prog X.w) X (EX X):=by
 intro pins σ H s e s' I z;obtain⟨a,cls,H',rfl,os,bare,un,bN,Rp,q⟩:=z;have ce:CE X.stack X.prog X.w H s (fun _ H2=>H2=H') .none s':=⟨.cg,H',os,bare,un,bN,rfl,rfl⟩;obtain⟨v,H2,I2,_,rfl⟩:=I.after ce;exact q (.ref a) s' ⟨a,pins,σ,s.heap,rfl,I2,Rp,fun b n=>I.CN hx n,fun p hp=>⟨_,(I.pin p (jf _ hp)).1⟩,fun b n=>by
  cases z:s.heap.get? b with
  |none=>rfl
  |some o=>obtain⟨o',e⟩:=un.there b o z (by simp);rw[n]at e;cases e⟩
section
variable {P:Program}{w:World}{K:PySem.W.Frag}{mg:Str->Option Value}{base:Heap}{N:List Str}{qual:Str}{scope:Scope}{f:Addr}{cd:Value}{A:Around}{outer:List Env}{s:Shared}{H:Hp}{E:XK}
theorem v7{H':Hp}{cls e:Value}{s':Shared}(x:XS (jb (oM P w) P w K mg base N qual scope f cd A outer s H E) H' cls e s')(q:E cls none H'):(jb (oM P w) P w K mg base N qual scope f cd A outer s H E).xe e s':=by
 obtain⟨a,pins,σ,Xk,rfl,I,Rq,old,_,_⟩:=x;have Rp:=Rq.M3 (h0:=s.heap) old;obtain⟨⟨oe,vs,a0,he,Eg,hd,h0,h1⟩,fr,nw⟩:=Rp
 let env:=envOfC qual scope s.heap.objs.size f cd
 have KO:(A.deeper env).frames=some (env::outer):=I.ok.frames;have hk:s'.heap.FunFrames base (env::outer):=I.stack;have Pf:∀L∈l4 (env::outer),H' L=none/\∃o,s'.heap.get? L=some o/\∀ws,o.data≠ .fields ws:=fun L hL=>⟨I.uc L hL,(hk.mem hL).2⟩;have Xl:a∉l4 (env::outer):=fun m=>by
  obtain⟨_,o,e1,e2⟩:=Pf a m;rw[he]at e1;cases e1;exact e2 vs hd
 have fin:∀(hs:List Addr) (h':Heap),(∀b∈hs,H' b=none/\(b∈l4 (env::outer)\/s.heap.get? b=none))->(∀b∈l4 (env::outer),b∈hs)->a∈hs->(∀b∈hs,b∈l4 (env::outer)\/b=a\/H' b=none)->
   Heap.LeftW (PySem.W.hideAll s'.heap hs) (env::outer) a cls a0 s'.heap h'->oM P w outer H s E (.ref a) {s' with heap:=h'}:=by
  intro hs h' hh IM Vf _ ⟨k1,k2,k3,k4⟩;have kp:∀b o,b∉hs->s'.heap.get? b=some o->h'.get? b=some o:=fun b o nb e=>k1 b o (lD _ e nb);have old:∀b o,s.heap.get? b=some o->b∉l4 outer->b∉hs:=fun b o e nf m=>by
   rcases(hh b m).2 with z|z
   ·unfold l4 at z;rw[j9]at z;have z':b∈s.heap.objs.size::l4 outer:=z;rcases aP.mp z' with z'|z'
    ·exact absurd (aw e) (by rw[z'];exact cA _)
    ·exact nf z'
   ·rw[e]at z;cases z
  have sl:∀b o,s'.heap.get? b=some o->b∈l4 outer->∃sl,h'.get? b=some {o with slots:=sl}:=fun b o e m=>by
   obtain⟨_,o2,e2,nf⟩:=Pf b (by unfold l4 at m⊢;rw[j9];exact aW _ m);rw[e]at e2;cases e2;exact k4 b o e nf
  have U:Un (l4 outer) [] H H' s.heap s'.heap:=I.base;refine⟨a,cls,H',rfl,I.os,I.bare,⟨fun b o e n nf nx=>?_,fun b o e n m nx=>?_,U.free,fun b o e nx=>?_,U.kg,U.i_,U.jA⟩,fun b o e=>?_,⟨?_,fr,nw⟩,q⟩
  ·exact kp b o (old b o e nf) (U.keep b o e n nf nx)
  ·obtain⟨s1,e1⟩:=U.slot b o e n m nx;obtain⟨s2,e2⟩:=sl b _ e1 m;exact⟨s2,e2⟩
  ·obtain⟨o1,e1⟩:=U.there b o e nx;by_cases m:b∈l4 outer
   ·obtain⟨s2,e2⟩:=sl b o1 e1 m;exact⟨_,e2⟩
   ·exact⟨o1,kp b o1 (old b o e m) e1⟩
  ·refine(I.bN b o e).kE (fun c u hc z=>kp c u (fun m=>?_) z) (fun _ z=>z) fun _ _ z=>z;have n:=(hh c m).1;rcases hc with rfl|hc
   ·rw[n]at e;cases e
   ·rw[n]at hc;cases hc
  ·obtain⟨Vg,Vh,T,oT,ts,q1,⟨q2,q3⟩,q4,q5,q6,q7,q8,q9,Vi⟩:=k3;refine⟨Vg,Vh,a0,q1,q2,q4,q3,.inr ⟨T,oT,ts,q5,q7,?_,?_,q8,q9,Vi⟩⟩
   ·by_cases m:T∈hs
    ·rcases(hh T m).2 with z|z
     ·obtain⟨o3,e3,n3⟩:=(k2.mem z).2;rw[q8]at e3;cases e3;exact absurd q9 (n3 ts)
     ·exact z
    ·cases z:s.heap.get? T with
     |none=>rfl
     |some o=>
      obtain⟨o1,e1⟩:=U.there T o z (by simp);rw[lD _ e1 m]at q6;cases q6
   ·by_cases m:T∈hs
    ·exact(hh T m).1
    ·cases z:H' T with
     |none=>rfl
     |some o=>
      obtain⟨u,e1⟩:∃u,s'.heap.get? T=some u:=(I.bN T o z).get;rw[lD _ e1 m]at q6;cases q6
 have l_:∀e∈(env::outer),∀b,e.frame=some b->b∈l4 (env::outer):=fun e he b hb=>ji.mpr ⟨e,he,hb⟩;show wpAny (model P w) (A.deeper env) (leaving env (.ref a)) (fun _ D_=>oM P w outer H s E (.ref a) D_) _ s';rcases h1 with h1|⟨T,oT,ts,h1,Vj,Vk,GA,hT,Vl,h3⟩
 ·let hs:=a::l4 (env::outer)
  refine wpAny_leaving_firstW (base:=PySem.W.hideAll s'.heap hs) KO (PySem.W.funFrames_hide hk fun e he b hb=>aW _ (l_ e he b hb)) rfl he (fun b o z=>pC _ z) (lC _ (aM ..)) hd h1 h0 fun h' hL=>?_
  rw[Eg]at hL;refine fin hs h' (fun b m=>?_) (fun b m=>aW _ m) (aM ..) (fun b m=>?_) hL
  ·rcases aP.mp m with rfl|m
   ·exact⟨fr,.inr nw⟩
   ·exact⟨(Pf b m).1,.inl m⟩
  ·rcases aP.mp m with rfl|m
   ·exact .inr (.inl rfl)
   ·exact .inl m
 ·let hs:=a::T::l4 (env::outer)
  refine wpAny_leaving_nextW (base:=PySem.W.hideAll s'.heap hs) (cls:=cls) (a0:=a0) KO (PySem.W.funFrames_hide hk fun e he b hb=>aW _ (aW _ (l_ e he b hb))) rfl
   ⟨oe,vs,T,oT,ts,he,⟨Eg,h0⟩,hd,h1,lC _ (aW _ (aM ..)),Vj,hT,Vl,h3⟩ (fun b o z=>pC _ z) (lC _ (aM ..)) fun h' hL=>?_
  refine fin hs h' (fun b m=>?_) (fun b m=>aW _ (aW _ m)) (aM ..) (fun b m=>?_) hL
  ·rcases aP.mp m with rfl|m
   ·exact⟨fr,.inr nw⟩
   ·rcases aP.mp m with rfl|m
    ·exact⟨GA,.inr Vk⟩
    ·exact⟨(Pf b m).1,.inl m⟩
  ·rcases aP.mp m with rfl|m
   ·exact .inr (.inl rfl)
   ·rcases aP.mp m with rfl|m
    ·exact .inr (.inr GA)
    ·exact .inl m
end
end L2
namespace L2
open PySem PySem.Spec PyProof.Rows
inductive Rz(α:Type) where
 |bad|ok (a:α) (A:Ab)|exc (c:Tr) (A:Ab)
def Rz.bind {α β:Type}(r:Rz α)(f:α->Ab->Rz β):Rz β:=match r with
 |.ok a A=>f a A
 |.exc c A=>.exc c A
 |.bad=>.bad
def dH(xc:Tr->Ab->Prop){α:Type}(r:Rz α)(k:α->Ab->Prop):Prop:=match r with
 |.ok a A=>k a A
 |.exc c A=>xc c A
 |.bad=>False
section
variable {α β:Type}{r:Rz α}{k k':α->Ab->Prop}{xc L7:Tr->Ab->Prop}
theorem dH.mono (h:dH xc r k)(w:∀a A,k a A->k' a A):dH xc r k':=by
 cases r with
 |ok a A=>exact w a A h
 |exc c A=>exact h
 |bad=>exact h
theorem dH.imp (h:dH xc r k)(w:∀c A,xc c A->L7 c A):dH L7 r k:=by
 cases r with
 |ok a A=>exact h
 |exc c A=>exact w c A h
 |bad=>exact h
theorem dH.bind {f:α->Ab->Rz β}{k:β->Ab->Prop}(h:dH xc (r.bind f) k):dH xc r fun a A=>dH xc (f a A) k:=by
 cases r with
 |ok a A=>exact h
 |exc c A=>exact h
 |bad=>exact h
end
def aq{α:Type}(r:Rs α)(A:Ab):Rz α:=match r with
 |.ok a=>.ok a A
 |_=>.bad
theorem gK{X:Cx}{H:Hp}{α:Type}{xc:Tr->Ab->Prop}{r:Rs α}{A:Ab}{k:α->Ab->Prop}(q:dH xc (aq r A) k):Fi X H r fun a=>k a A:=by
 cases r with
 |ok a=>exact q
 |exc c=>exact(show False from q).elim
 |bad=>exact q
def M4(K:PySem.W.Frag):Tr->Value
 |.str x=>.ref (clsAt K x)
 |_=>.none
def XE(X:Cx)(B:bQ)(H:Hp):Tr->Ab->Prop:=fun c A=>∀B' H',Grows B H B' H'->HA X.K B' A H'->EX X (M4 X.K c) none H'
theorem XE.grow {X:Cx}{B B':bQ}{H H':Hp}{c:Tr}{A:Ab}(hb:HB B H)(h:XE X B H c A)(g:Grows B H B' H'):XE X B' H' c A:=fun B2 H2 g2 ha=>h B2 H2 (g.trans hb g2) ha
inductive tE(X:Cx)(F:az->Ab->Rz Tr)(σ:St)(H:Hp)(Q:VK):Prop
 |mk (B:bQ) (A:Ab) (ρ:az):HA X.K B A H->bg X.K B H σ ρ->dE ρ->(dH (XE X B H) (F ρ A) fun t A'=>∀v B' H',Grows B H B' H'->HA X.K B' A' H'->Rep X.K (aN B' H') v t->Q v H')->tE X F σ H Q
inductive Ed(X:Cx)(F:az->Ab->Rz Bool)(σ:St)(H:Hp)(Q:Bool->Hp->Prop):Prop
 |mk (B:bQ) (A:Ab) (ρ:az):HA X.K B A H->bg X.K B H σ ρ->dE ρ->(dH (XE X B H) (F ρ A) fun b A'=>∀B' H',Grows B H B' H'->HA X.K B' A' H'->Q b H')->Ed X F σ H Q
inductive Fl(X:Cx)(F:az->Ab->Rz (List Tr))(σ:St)(H:Hp)(Q:List V->Hp->Prop):Prop
 |mk (B:bQ) (A:Ab) (ρ:az):HA X.K B A H->bg X.K B H σ ρ->dE ρ->(dH (XE X B H) (F ρ A) fun ts A'=>∀vs B' H',Grows B H B' H'->HA X.K B' A' H'->aJ X.K (aN B' H') vs ts->Q vs H')->Fl X F σ H Q
def IY(H H':Hp)(p:Addr):Prop:=H p=none/\∀o u,H' p≠some (.fP o u)
theorem IY.lst {K:PySem.W.Frag}{B:bQ}{H H':Hp}{p:Addr}{ts:List Tr}(h:H p=none)(r:Rep K (aN B H') (.ref p) (.lst ts)):IY H H' p:=by
 cases r with
 |lst e _=>exact⟨h,fun o u z=>by rw[aE _ _ e]at z;cases z⟩
theorem IY.upd {H H1:Hp}{p:Addr}{x:HO}(h:H p=none)(hx:∀o u,x≠ .fP o u):IY H (L2.upd H1 p x) p:=⟨h,fun o u z=>by rw[aH]at z;cases z;exact hx _ _ rfl⟩
inductive tF(X:Cx)(F:az->Rs Tr)(σ:St)(H:Hp)(Q:VK):Prop
 |mk (B:bQ) (ρ:az):HB B H->bg X.K B H σ ρ->(Fi X H (F ρ) fun t=>∀v H',au H H'->Rep X.K (aN B H') v t->(∀p,v=.ref p->IY H H' p)->Q v H')->tF X F σ H Q
def v8(r:Rs Tr)(A:Ab):Rz Tr:=match r with
 |.ok t=>if v3 t=true then .ok t A else .bad
 |_=>.bad
def ff(r:Rs Tr)(A:Ab):Rz Tr:=match r with
 |.ok (.lst ts)=>if f6 ts=true then .ok (.at A.length) (A++[.lst ts])else .bad
 |.ok (.jI aC)=>if f6 (aC.map (·.2))=true then .ok (.at A.length) (A++[.jI aC])else .bad
 |.ok (.bf aC)=>if f6 (aC.map (·.2))=true then .ok (.at A.length) (A++[.bf aC])else .bad
 |_=>.bad
section
variable {X:Cx}{e:Expr}{es:List Expr}{F:az->Rs Tr}{P:az->Rs Bool}{L:az->Rs (List Tr)}{FZ GZ:az->Ab->Rz Tr}{LZ:az->Ab->Rz (List Tr)}
theorem Vm(h:PE X e (tF X F)):PE X e (tP X F):=h.weak fun σ H Q ⟨B,ρ,hb,r,q⟩=>⟨B,ρ,hb,r,q.mono fun t k v H' s rv _=>k v H' s rv⟩
theorem v9{σ:St}{H:Hp}{Q:VK}(q:tE X (fun ρ A=>aq (F ρ) A) σ H Q):tP X F σ H Q:=by
 obtain⟨B,A,ρ,ha,r,_,q⟩:=q;exact⟨B,ρ,ha.hb,r,(gK q).mono fun t qt v H' s rv=>qt v B H' (.of s) (ha.same s) rv⟩
theorem IZ(h:PE X e (tP X F)):PE X e (tE X fun ρ A=>aq (F ρ) A):=h.weak fun σ H Q q=>v9 q
theorem Fm(h:PT X e (tQ X P)):PT X e (Ed X fun ρ A=>aq (P ρ) A):=
 h.weak fun σ H Q ⟨B,A,ρ,ha,r,_,q⟩=>⟨B,ρ,ha.hb,r,(gK q).mono fun t qt H' s=>qt B H' (.of s) (ha.same s)⟩
theorem I0(h:PE X e (tP X F)):PE X e (tE X fun ρ A=>v8 (F (bb A ρ)) A):=
 h.weak fun σ H Q ⟨B,A,ρ,ha,r,n,q⟩=>⟨B.un,bb A ρ,zk ha.hb,r.IX ha n,by
   have q:dH (XE X B H) (v8 (F (bb A ρ)) A) _:=q;cases e:F (bb A ρ)with
   |bad=>rw[e]at q;exact q
   |exc c=>rw[e]at q;exact(show False from q).elim
   |ok t=>
    rw[e]at q;intro v H' s rv;by_cases f:v3 t=true
    ·have q':dH _ (if v3 t=true then Rz.ok t A else .bad) _:=q;rw[ab f]at q';exact q' v B H' (.of s) (ha.same s) (sR (ha.same s) rv f)
    ·have q':dH _ (if v3 t=true then Rz.ok t A else .bad) _:=q;rw[ae f]at q';exact(show False from q').elim⟩
theorem Fo(h:PT X e (tQ X P)):PT X e (Ed X fun ρ A=>aq (P (bb A ρ)) A):=
 h.weak fun σ H Q ⟨B,A,ρ,ha,r,n,q⟩=>⟨B.un,bb A ρ,zk ha.hb,r.IX ha n,(gK q).mono fun t qt H' s=>qt B H' (.of s) (ha.same s)⟩
theorem mn{c:Prop}[Decidable c]{α:Type}{xc:Tr->Ab->Prop}{r:Rz α}{k:α->Ab->Prop}(h:dH xc (if c then r else .bad) k):c/\dH xc r k:=by
 by_cases q:c
 ·rw[ab q]at h;exact⟨q,h⟩
 ·rw[ae q]at h;exact(show False from h).elim
theorem kO{σ:St}{H:Hp}{Q:VK}(q:tE X (fun ρ A=>ff (F (bb A ρ)) A) σ H Q):tF X F σ H Q:=by
  obtain⟨B,A,ρ,ha,r,n,q⟩:=q;refine⟨B.un,bb A ρ,zk ha.hb,r.IX ha n,?_⟩;have q:dH (XE X B H) (ff (F (bb A ρ)) A) _:=q;cases e:F (bb A ρ)with
  |bad=>rw[e]at q;exact q
  |exc c=>rw[e]at q;exact(show False from q).elim
  |ok t=>
   rw[e]at q;intro v H' s rv fr;have d0:=ha.same s;cases rv with
   |@lst p vs ts h rr=>
    have hp:=(fr p rfl).1;obtain⟨f,q'⟩:=mn q;have h1:H' p=some (.lst vs):=aE _ _ h;obtain⟨g,h2⟩:=ha.push (o:=.lst ts) hp s ⟨oK,vs,h1,mm ((gJ.un d0).trans (.new (ha.free hp) h1 (fun _ z=>by cases z) fun _ _ z=>by cases z)) rr f⟩;exact q' _ _ H' g h2 (.at gY)
   |@jI p av aC h ek rr=>
    have hp:=(fr p rfl).1;obtain⟨f,q'⟩:=mn q;have h1:H' p=some (.dK av):=by
     rcases h.same aE with h|⟨o,h⟩
     ·exact h
     ·exact((fr p rfl).2 _ _ h).elim
    obtain⟨g,h2⟩:=ha.push (o:=.jI aC) hp s ⟨oK,av,h1,ek,mm ((gJ.un d0).trans (.new (ha.free hp) h1 (fun _ z=>by cases z) fun _ _ z=>by cases z)) rr f⟩;exact q' _ _ H' g h2 (.at gY)
   |@bf p av aC h ek rr=>
    have hp:=(fr p rfl).1;obtain⟨f,q'⟩:=mn q;have h1:H' p=some (.dT av):=by
     rcases h.same aE with h|⟨o,h⟩
     ·exact h
     ·exact((fr p rfl).2 _ _ h).elim
    obtain⟨g,h2⟩:=ha.push (o:=.bf aC) hp s ⟨oK,av,h1,ek,mm ((gJ.un d0).trans (.new (ha.free hp) h1 (fun _ z=>by cases z) fun _ _ z=>by cases z)) rr f⟩;exact q' _ _ H' g h2 (.at gY)
   |_=>exact(show False from q).elim
theorem M5(h:PE X e (tF X F)):PE X e (tE X fun ρ A=>ff (F (bb A ρ)) A):=h.weak fun σ H Q q=>kO q
end
end L2
set_option maxRecDepth 6000
namespace L2
open PySem PySem.Spec PySem.Calls PyProof.Rows
def jR:List Tr->Option (List Int)
 |[]=>some []
 |.int i::ts=>(jR ts).map fun r=>i::r
 |_=>none
theorem sS{K:PySem.W.Frag}{W:Vw}:∀{vs:List V} {ts:List Tr} {ns:List Int},aJ K W vs ts->jR ts=some ns->vs=ns.map V.int
 |[],[],ns,_,e=>by cases e;rfl
 |[],_::_,_,h,_=>by cases h
 |v::vs,ts,ns,h,e=>by
  cases h with
  |cons h r=>
   cases h with
   |int i=>
    rename_i ts;have e':(jR ts).map (fun r=>i::r)=some ns:=e;cases q:jR ts with
    |none=>rw[q]at e';cases e'
    |some rs=>
     rw[q]at e';cases e';rw[sS r q];rfl
   |_=>cases e
end L2
namespace L2
open PySem PySem.Spec PySem.Calls PyProof.Rows
def uF:Heap:={}
theorem jS(b:Addr):uF.get? b=none:=by
 cases e:uF.get? b with
 |none=>rfl
 |some o=>exact absurd (aw e) (pV _)
def xZ(h:Heap)(L:Addr):List (Addr×Obj):=(List.range h.objs.size).filterMap fun b=>if b=L then none else(h.get? b).map fun o=>(b,o)
theorem x6{h:Heap}{L b:Addr}{o:Obj}:(b,o)∈xZ h L↔b≠L/\h.get? b=some o:=by
 unfold xZ;rw[ji];constructor
 ·rintro ⟨c,_,e⟩
  by_cases z:c=L
  ·rw[ab z]at e;cases e
  ·rw[ae z]at e;cases q:h.get? c with
   |none=>rw[q]at e;cases e
   |some u=>rw[q]at e;cases e;exact⟨z,q⟩
 ·rintro ⟨n,e⟩
  exact⟨b,cN.mpr (aw e),by rw[ae n,e];rfl⟩
section
variable {X:Cx}{pins:List (Addr×Obj)}{σ:St}{H:Hp}{s:Shared}
theorem Inv.CO {m:Str->Option Value}{h':Heap}{tk:Nat}(I:Inv X pins σ H s)(Vn:s.heap.Ns X.env.locals m)(hn:h'.Ns X.env.locals m)(kp:∀b o,b≠X.env.locals->s.heap.get? b=some o->h'.get? b=some o):Inv X pins σ H {s with heap:=h',toks:=tk}:=by
 obtain⟨m0,Vo,hl⟩:=id I.loc;have BH:=I.BH;have lo:∀{b:Addr} {o:Obj},X.eP.heap.get? b=some o->b≠X.env.locals:=fun{b o} e=>aS (bx (aw e) I.ok.above);have em:m0=m:=by
  obtain⟨o1,sT,Xm,a1,b1,_,d1⟩:=Vo;obtain⟨o2,I_,Xn,a2,b2,_,d2⟩:=Vn;rw[a1]at a2;cases a2;rw[b1]at b2;cases b2;funext x;rw[<-d1 x,<-d2 x]
 subst em;refine⟨I.ok,I.os,I.bare,⟨fun b o e n hb hx=>kp b o (lo e) (I.base.keep b o e n hb hx),fun b o e n hb hx=>?_,I.base.free,fun b o e hx=>?_,I.base.kg,I.base.i_,I.base.jA⟩,⟨m0,hn,fun j y v' e1 e2 e3=>?_⟩,fun y c e=>?_,I.free,I.f7,fun p hp=>?_,fun b u e=>?_,I.len⟩
 ·obtain⟨sl,e1⟩:=I.base.slot b o e n hb hx;exact⟨sl,kp b _ (lo e) e1⟩
 ·obtain⟨o',e1⟩:=I.base.there b o e hx;exact⟨o',kp b o' (lo e) e1⟩
 ·obtain⟨u',r',q⟩:=hl j y v' e1 e2 e3;refine⟨u',r',?_⟩;rcases q with⟨k,e⟩|⟨k,c,e,z⟩
  ·exact .inl ⟨k,e⟩
  ·obtain⟨oc,e5,e6⟩:=id z;exact .inr ⟨k,c,e,oc,kp c oc (BH y c e) e5,e6⟩
 ·obtain⟨w',z⟩:=I.cell y c e;obtain⟨oc,e5,e6⟩:=id z;exact⟨w',oc,kp c oc (BH y c e) e5,e6⟩
 ·obtain⟨e,n,ne,nf,d⟩:=I.pin p hp;exact⟨kp p.1 p.2 ne e,n,ne,nf,d⟩
 ·refine(I.bN b u e).kE (fun c w' hc q=>kp c w' ?_ q) (fun _ q=>q) fun _ _ q=>q
  rintro rfl
  rcases hc with rfl|hc
  ·rw[I.free]at e;cases e
  ·rw[I.free]at hc;cases hc
end
def iK:List Tr->Rs Tr
 |[.jI aC]=>.ok (.int aC.length)
 |ts=>E_ ts
theorem kP{X:Cx}:iC X (.builtin "len") iK:=by
 intro pins s σ H xs us Q I rv ⟨B,ts,hb,r,q⟩;by_cases z:∃aC,ts=[.jI aC]
 ·obtain⟨aC,rfl⟩:=z;cases r with
  |cons h r=>
   cases r;cases h with
   |@jI a av _ h ek rr=>
    obtain⟨u,rfl,ru⟩:=vals1 rv;cases ru;have hl:av.length=aC.length:=by have:=bB List.length ek;rw[ai,ai]at this;exact this
    exact LO I (h.same aE) fun t s' I'=>⟨.int av.length,H,I',⟨t,rfl⟩,(show∀v H',au H H'->Rep X.K (aN B H') v (.int aC.length)->Q v H' from q) _ H (au.refl H) (by rw[hl];exact .int _)⟩
 ·have e:iK ts=E_ ts:=by
   unfold iK;split
   ·exact absurd ⟨_,rfl⟩ z
   ·rfl
  rw[e]at q;exact MD pins s σ H xs us Q I rv ⟨B,ts,hb,r,q⟩
end L2
namespace L2
open PySem PySem.Spec PyProof.Rows
def kB(X:Cx)(D:Ends)(B0:bQ)(H0:Hp):Out->Ab->Prop
 |.nx ρ,A=>∀bP B' H',Grows B0 H0 B' H'->HA X.K B' A H'->bg X.K B' H' bP ρ->dE ρ->D.nx bP H'
 |.ret t,A=>∀v B' H',Grows B0 H0 B' H'->HA X.K B' A H'->Rep X.K (aN B' H') v t->D.rt v H'
 |.bk ρ,A=>∀bP B' H',Grows B0 H0 B' H'->HA X.K B' A H'->bg X.K B' H' bP ρ->dE ρ->D.bk bP H'
 |.ct ρ,A=>∀bP B' H',Grows B0 H0 B' H'->HA X.K B' A H'->bg X.K B' H' bP ρ->dE ρ->D.ct bP H'
inductive tZ(X:Cx)(G:az->Ab->Rz Out)(D:Ends)(σ:St)(H:Hp):Prop
 |mk (B0:bQ) (H0:Hp) (B:bQ) (A:Ab) (ρ:az):HB B0 H0->Grows B0 H0 B H->HA X.K B A H->bg X.K B H σ ρ->dE ρ->dH (XE X B0 H0) (G ρ A) (kB X D B0 H0)->tZ X G D σ H
section
variable {X:Cx}{a b c e:Expr}{pos:Pos}{F:az->Ab->Rz Tr}{G G':az->Ab->Rz Out}{P:az->Ab->Rz Bool}{st:Stmt}{rest Mm:List Stmt}
def bw(r:Rz Out)(G:az->Ab->Rz Out):Rz Out:=r.bind fun o A=>match o with
 |.nx ρ=>G ρ A
 |.ret t=>.ok (.ret t) A
 |.bk ρ=>.ok (.bk ρ) A
 |.ct ρ=>.ok (.ct ρ) A
theorem M6:jB X [] (tZ X fun ρ A=>.ok (.nx ρ) A):=yK.weak fun D σ H ⟨B0,H0,B,A,ρ,hb,g,ha,r,n,q⟩=>q σ B H g ha r n
theorem Ja(h1:PS X st (tZ X G))(h2:jB X rest (tZ X G')):jB X (st::rest) (tZ X fun ρ A=>bw (G ρ A) G'):=
 (vw h1 h2).weak fun D σ H ⟨B0,H0,B,A,ρ,hb,g,ha,r,n,q⟩=>⟨B0,H0,B,A,ρ,hb,g,ha,r,n,q.bind.mono fun o A1 qo=>by
  cases o with
  |nx fh=>exact fun bP B' H' g' d0 r' n'=>⟨B0,H0,B',A1,fh,hb,g',d0,r',n',qo⟩
  |ret t=>exact qo
  |bk fh=>exact qo
  |ct fh=>exact qo⟩
theorem M7(h1:PS X st (tZ X G)):jB X [st] (tZ X G):=yL h1
theorem i7{B0 B:bQ}{H0 H:Hp}{A:Ab}{σ:St}{ρ:az}{k:Tr->Ab->Prop}(hb:HB B0 H0)(g:Grows B0 H0 B H)(ha:HA X.K B A H)(r:bg X.K B H σ ρ)(n:dE ρ)(q:dH (XE X B0 H0) (F ρ A) k){Q:VK}
  (hq:∀t A' v B' H',k t A'->Grows B0 H0 B' H'->HA X.K B' A' H'->bg X.K B' H' σ ρ->Rep X.K (aN B' H') v t->Grows B H B' H'->Q v H'):tE X F σ H Q:=
 ⟨B,A,ρ,ha,r,n,(q.imp fun c A' x=>x.grow hb g).mono fun t A' qp v B' H' g' d0 rv=>hq t A' v B' H' qp (g.trans hb g') d0 (r.grow n g') rv g'⟩
theorem CQ{B0 B:bQ}{H0 H:Hp}{A:Ab}{σ:St}{ρ:az}{k:Bool->Ab->Prop}(hb:HB B0 H0)(g:Grows B0 H0 B H)(ha:HA X.K B A H)(r:bg X.K B H σ ρ)(n:dE ρ)(q:dH (XE X B0 H0) (P ρ A) k){Q:Bool->Hp->Prop}
  (hq:∀t A' B' H',k t A'->Grows B0 H0 B' H'->HA X.K B' A' H'->bg X.K B' H' σ ρ->Q t H'):Ed X P σ H Q:=
 ⟨B,A,ρ,ha,r,n,(q.imp fun c A' x=>x.grow hb g).mono fun t A' qp B' H' g' d0=>hq t A' B' H' qp (g.trans hb g') d0 (r.grow n g')⟩
def cy(i:Nat)(r:Rz Tr)(ρ:az):Rz Out:=r.bind fun t A=>.ok (.nx (ρ.set i (.sh t))) A
theorem M8{i:Nat}{x:Str}{pos':Pos}(he:PE X e (tE X F))(hN:X.N.Nodup:=by assumption) (hi:X.N[i]?=some x:=by rfl) (hx:Loc X.env.scope x:=by first|exact Or.inl rfl|exact Or.inr rfl) (hs:kK e=false:=by rfl) (hf:X.fn x=true\/X.env.scope.names.lookup x=some .local:=by first|exact .inl rfl|exact .inr rfl|assumption):
  PS X (.Assign [.Name x pos'] e pos) (tZ X fun ρ A=>cy i (F ρ A) ρ):=
 (BQ hN hi hx he (qB hs) hf).weak fun D σ H ⟨B0,H0,B,A,ρ,hb,g,ha,r,n,q⟩=>i7 hb g ha r n q.bind fun t A' v B' H' qt g' d0 r' rv _=>qt _ B' H' g' d0 (r'.set i rv) (n.set i t)
def kQ(r:Rz Tr):Rz Out:=r.bind fun t A=>.ok (.ret t) A
theorem M9(he:PE X e (tE X F)):PS X (.Return (some e) pos) (tZ X fun ρ A=>kQ (F ρ A)):=
 (BN he).weak fun D σ H ⟨B0,H0,B,A,ρ,hb,g,ha,r,n,q⟩=>i7 hb g ha r n q.bind fun t A' v B' H' qt g' d0 r' rv _=>qt v B' H' g' d0 rv
def fj(r:Rz Tr)(ρ:az):Rz Out:=r.bind fun _ A=>.ok (.nx ρ) A
theorem Jb(he:PE X e (tE X F))(hs:kK e=false:=by rfl):PS X (.Expr e pos) (tZ X fun ρ A=>fj (F ρ A) ρ):=
 (Ej he (qB hs)).weak fun D σ H ⟨B0,H0,B,A,ρ,hb,g,ha,r,n,q⟩=>i7 hb g ha r n q.bind fun t A' v B' H' qt g' d0 r' rv _=>qt _ B' H' g' d0 r' n
def AU(c:Rz Bool)(a b:Ab->Rz Out):Rz Out:=c.bind fun k A=>if k then a A else b A
theorem Rr{ys ns:List Stmt}(hc:PT X c (Ed X P))(h1:jB X ys (tZ X G))(h2:jB X ns (tZ X G')):PS X (.If c ys ns pos) (tZ X fun ρ A=>AU (P ρ A) (G ρ) (G' ρ)):=
 (F_ hc h1 h2).weak fun D σ H ⟨B0,H0,B,A,ρ,hb,g,ha,r,n,q⟩=>CQ hb g ha r n q.bind fun k A' B' H' qk g' d0 r'=>by
  cases k with
  |true=>exact Ii ⟨B0,H0,B',A',ρ,hb,g',d0,r',n,qk⟩
  |false=>exact Ih ⟨B0,H0,B',A',ρ,hb,g',d0,r',n,qk⟩
theorem CT{T:kL}{B0 B:bQ}{H0 H:Hp}{A:Ab}{σ:St}{ρ:az}{v:V}{t:Tr}{k:az->Ab->Prop}(hT:iG T)(hb:HB B0 H0)(g:Grows B0 H0 B H)(ha:HA X.K B A H)(r:bg X.K B H σ ρ)(n:dE ρ)(rv:Rep X.K (aN B H) v t){xc:Tr->Ab->Prop}(q:dH xc (aq (T t ρ) A) k){Q:St->Hp->Prop}
  (hq:∀fh bP H',k fh A->Grows B0 H0 B H'->HA X.K B A H'->bg X.K B H' bP fh->dE fh->au H H'->Q bP H'):tG X T v σ H Q:=by
 refine⟨B,ρ,t,ha.hb,r,rv,?_⟩;cases e:T t ρ with
 |ok fh=>rw[e]at q;exact fun bP H' s r'=>hq fh bP H' q (g.trans hb (.of s)) (ha.same s) r' (hT t ρ fh n e) s
 |exc c=>rw[e]at q;exact(show False from q).elim
 |bad=>rw[e]at q;exact q
def iY(T:kL)(G:az->Ab->Rz Out):List Tr->az->Ab->Rz Out
 |[],ρ,A=>.ok (.nx ρ) A
 |t::ts,ρ,A=>(aq (T t ρ) A).bind fun ρ1 A=>(G ρ1 A).bind fun o A=>match o with
  |.nx ρ2=>iY T G ts ρ2 A
  |.ct ρ2=>iY T G ts ρ2 A
  |.bk ρ2=>.ok (.nx ρ2) A
  |.ret t=>.ok (.ret t) A
def i8(T:kL)(G:az->Ab->Rz Out)(l:Rz (List Tr))(ρ:az):Rz Out:=l.bind fun ts A=>iY T G ts ρ A
theorem M_{tg iter:Expr}{body:List Stmt}{W:az->Rs (List Tr)}{T:kL}(hi:PI X tg iter (tI X W))(hg:PG X tg (tG X T))(hT:iG T)(hb:jB X body (tZ X G))(hp:PassesOwn (model X.prog X.w) X.A X.env X.xe:=by first|exact ik|exact ie) (hc:X.calm=true:=by rfl)
  (hs:isSet iter=false:=by rfl):PS X (.For tg iter body [] pos) (tZ X fun ρ A=>i8 T G (aq (W ρ) A) ρ):=
 (xu hp hc hi hg hb (dY hs)).weak fun D σ H ⟨B0,H0,B,A,ρ,rS,g,ha,r,n,q⟩=>⟨B,ρ,ha.hb,r,(gK (dH.bind q)).mono fun ts qt J H1 s1 gt=>by
  have g1:Grows B0 H0 B H1:=g.trans rS (.of s1);have x8:HB B H1:=ha.hb.same s1;refine⟨fun i m bP H'=>m=ts.length - i/\i<=ts.length/\∃B' A' fh,Grows B H1 B' H'/\HA X.K B' A' H'/\bg X.K B' H' bP fh/\dE fh/\dH (XE X B0 H0) (iY T G (ts.drop i) fh A') (kB X D B0 H0),⟨_,rfl,bG _,B,A,ρ,.refl,ha.same s1,r.same s1,n,qt⟩,?_⟩
  rintro i m bP H' ⟨rfl,hi,B',A',fh,g',d0,r',n',q'⟩
  by_cases dX:i<ts.length
  ·rw[lh dX]at q';refine .inr ⟨gt.go i B' H' dX g'.fY d0.hb,fun rX H2=>∃B2 A2 ρ2,Grows B H1 B2 H2/\HA X.K B2 A2 H2/\bg X.K B2 H2 rX ρ2/\dE ρ2/\dH (XE X B0 H0) (iY T G (ts.drop (i+1)) ρ2 A2) (kB X D B0 H0),
    fun rX H2 x=>⟨ts.length - (i+1),by omega,rfl,dX,x⟩,fun x H2 hx=>?_⟩
   obtain⟨s2,t,et,rt⟩:=gt.yM i B' H' x H2 dX g'.fY d0.hb hx;have Mw:ts[i]=t:=by rw[aF dX]at et;exact Option.some.inj et
   rw[Mw]at q';have g2:Grows B H1 B' H2:=g'.trans x8 (.of s2);refine CT hT x8 g2 (d0.same s2) (r'.same s2) n' rt (dH.bind q') fun ρ1 xq H3 q1 g3 AV r3 n3 _=>?_
   refine⟨B,H1,B',A',ρ1,x8,g3,AV,r3,n3,((dH.bind q1).imp fun c Tp x=>x.grow rS g1).mono fun o A4 qo=>?_⟩;cases o with
   |nx ρ2=>exact fun AW B4 H4 g4 ng r4 n4=>⟨B4,A4,ρ2,g4,ng,r4,n4,qo⟩
   |ct ρ2=>exact fun AW B4 H4 g4 ng r4 n4=>⟨B4,A4,ρ2,g4,ng,r4,n4,qo⟩
   |bk ρ2=>exact fun AW B4 H4 g4 ng r4 n4=>qo AW B4 H4 (g1.trans rS g4) ng r4 n4
   |ret t=>exact fun v B4 H4 g4 ng r4=>qo v B4 H4 (g1.trans rS g4) ng r4
  ·have e:i=ts.length:=by omega
   subst e;rw[jl]at q';exact .inl ⟨gt.stop B' H' g'.fY,q' bP B' H' (g1.trans rS g') d0 r' n'⟩⟩
def eS(P:az->Ab->Rz Bool)(G:az->Ab->Rz Out):Nat->az->Ab->Rz Out
 |0,_,_=>.bad
 |m+1,ρ,A=>(P ρ A).bind fun k A=>if k then(G ρ A).bind fun o A=>match o with
   |.nx ρ2=>eS P G m ρ2 A
   |.ct ρ2=>eS P G m ρ2 A
   |.bk ρ2=>.ok (.nx ρ2) A
   |.ret t=>.ok (.ret t) A
  else .ok (.nx ρ) A
theorem Fp(m:Nat){body:List Stmt}(hc:PT X c (Ed X P))(hb:jB X body (tZ X G))(hp:PassesOwn (model X.prog X.w) X.A X.env X.xe:=by first|exact ik|exact ie):PS X (.While c body [] pos) (tZ X fun ρ A=>eS P G m ρ A):=
 (BR hp hc hb).weak fun D σ H ⟨B0,H0,B,A,ρ,rS,g,ha,r,n,q⟩=>by
  refine⟨fun k bP H'=>∃B' A' fh,Grows B0 H0 B' H'/\HA X.K B' A' H'/\bg X.K B' H' bP fh/\dE fh/\dH (XE X B0 H0) (eS P G k fh A') (kB X D B0 H0),⟨m,B,A,ρ,g,ha,r,n,q⟩,?_⟩
  rintro k Ga H1 ⟨B1,A1,ρ1,g1,jT,r1,n1,q1⟩
  cases k with
  |zero=>exact(show False from q1).elim
  |succ k=>
   refine CQ rS g1 jT r1 n1 (dH.bind q1) fun t A2 B2 H2 q2 g2 CU r2=>?_
   cases t with
   |false=>
    rw[ae cz]at q2⊢;exact q2 Ga B2 H2 g2 CU r2 n1
   |true=>
    rw[ab rfl]at q2⊢;refine⟨fun bP H'=>∃B' A' fh,Grows B0 H0 B' H'/\HA X.K B' A' H'/\bg X.K B' H' bP fh/\dE fh/\dH (XE X B0 H0) (eS P G k fh A') (kB X D B0 H0),fun bP H' h=>⟨k,jn k,h⟩,?_⟩;refine⟨B0,H0,B2,A2,ρ1,rS,g2,CU,r2,n1,(dH.bind q2).mono fun o A4 qo=>?_⟩;cases o with
    |nx ρ2=>exact fun AW B4 H4 g4 ng r4 n4=>⟨B4,A4,ρ2,g4,ng,r4,n4,qo⟩
    |ct ρ2=>exact fun AW B4 H4 g4 ng r4 n4=>⟨B4,A4,ρ2,g4,ng,r4,n4,qo⟩
    |bk ρ2=>exact qo
    |ret t=>exact qo
end
section
variable {X:Cx}{a e o:Expr}{es:List Expr}{F:az->Ab->Rz Tr}{L:az->Ab->Rz (List Tr)}{name:Str}{apos dg:Pos}{id:String}
def bX(r:Rz Tr)(l:Ab->Rz (List Tr)):Rz (List Tr):=r.bind fun x A=>(l A).bind fun xs A=>.ok (x::xs) A
theorem CV:PA X [] (Fl X fun _ A=>.ok [] A):=kG.weak fun σ H Q ⟨B,A,ρ,ha,r,n,q⟩=>q [] B H .refl ha .nil
theorem zl(h1:PE X a (tE X F))(hr:PA X es (Fl X L))(hs:isStar a=false:=by rfl):PA X (a::es) (Fl X fun ρ A=>bX (F ρ A) (L ρ)):=
 (iS h1 hr (aX _ _ hs)).weak fun σ H Q ⟨B,A,ρ,ha,r,n,q⟩=>⟨B,A,ρ,ha,r,n,q.bind.mono fun x A1 qx v B1 H1 g1 jT r1=>⟨B1,A1,ρ,jT,r.grow n g1,n,((dH.bind qx).imp fun c A' x=>x.grow ha.hb g1).mono fun xs A2 qs vs B2 H2 g2 CU r2=>qs _ B2 H2 (g1.trans ha.hb g2) CU (.cons (r1.same g2.fY) r2)⟩⟩
def Pg(X:Cx)(r:V->List V->Hp->VK->Prop)(h:Nat->List Tr->Ab->Rz Tr):Prop:=
 ∀(B:bQ) (A:Ab) (H:Hp) (a:Addr) (i:Nat) (xs:List V) (ts:List Tr) (Q:VK),HA X.K B A H->B.ix a=some i->aJ X.K (aN B H) xs ts->
  dH (XE X B H) (h i ts A) (fun t A'=>∀v B' H',Grows B H B' H'->HA X.K B' A' H'->Rep X.K (aN B' H') v t->Q v H')->r (.ref a) xs H Q
def AX(A:Ab)(i:Nat):Bool:=match A[i]? with
 |some (.lst _)=>true
 |_=>false
theorem Jc{K:PySem.W.Frag}{B:bQ}{A:Ab}{H:Hp}{a:Addr}{i:Nat}(ha:HA K B A H)(e:B.ix a=some i)(h:AX A i=true):∃xs,H a=some (.lst xs):=by
 obtain⟨o,eo,ao⟩:=ha.ex e;unfold AX at h;rw[eo]at h;cases o with
 |lst ts=>obtain⟨_,vs,h1,_⟩:=ao;exact⟨vs,h1⟩
 |jI _=>cases h
 |bf _=>cases h
 |Fj _=>cases h
 |tb _ _=>cases h
 |ins _ _=>cases h
def v_(h:Nat->List Tr->Ab->Rz Tr)(r:Rz Tr)(l:Ab->Rz (List Tr)):Rz Tr:=r.bind fun t A=>match t with
 |.at i=>if AX A i=true then(l A).bind fun ts A=>h i ts A else .bad
 |_=>.bad
variable {r:V->List V->Hp->VK->Prop}{h:Nat->List Tr->Ab->Rz Tr}
theorem M'(slot:Slot "list" name id)(LJ:typeOf (.builtin id)=pure (.type "method_descriptor"))(hm:OV X id r)(hz:Pg X r h)(ho:PE X o (tE X F))(ha:PA X (e::es) (Fl X L))(pa:PlainAttrs "list":=by exact PySem.F.plainAttrs_list)
  (ql:isCall o=false:=by rfl) (cZ:ba (e::es)=true:=by rfl) (hn:(e::es).length<30:=by decide) (qm:(apos.endLine==dg.line)=true:=by rfl):
  PE X (.Call (.Attribute o name apos) (e::es) [] dg) (tE X fun ρ A=>v_ h (F ρ A) (L ρ)):=
 (LI pa slot LJ hm ho ha (uq ql) (by rw[md cZ,bA (show(e::es).length+([]:List Keyword).length+(if([]:List Keyword).isEmpty then 0 else 1)<30 from hn)];rfl) qm (aX _ _ (aG cZ).1) (cb (aG cZ).2)).weak fun σ H Q ⟨B,A,ρ,ha,r,n,q⟩=>⟨B,A,ρ,ha,r,n,q.bind.mono fun t A1 qt v B1 H1 g1 jT rv=>by
  split at qt
  ·rename_i i;obtain⟨a,rfl,sU⟩:=rv.uu;obtain⟨hl,q2⟩:=mn qt;obtain⟨xs,Vp⟩:=Jc jT sU hl;exact⟨.inl ⟨rfl,xs,iw.of Vp⟩,B1,A1,ρ,jT,r.grow n g1,n,((dH.bind q2).imp fun c A' x=>x.grow ha.hb g1).mono fun ts A2 qs vs B2 H2 g2 CU rs=>hz B2 A2 H2 a i vs ts Q CU (g2.fY.x _ _ sU) rs ((qs.imp fun c A' x=>x.grow ha.hb (g1.trans ha.hb g2)).mono fun t A3 qt v B3 H3 g3 AV r3=>qt v B3 H3 ((g1.trans ha.hb g2).trans ha.hb g3) AV r3)⟩
  ·exact qt.elim⟩
def fw(i:Nat):List Tr->Ab->Rz Tr
 |[t],A=>match A[i]? with
  |some (.lst ts)=>if ts.length<i3 then .ok .cg (A.set i (.lst (ts++[t])))else .bad
  |_=>.bad
 |_,_=>.bad
theorem nh:Pg X yQ fw:=by
 intro B A H a i xs ts Q ha sU rs q;unfold fw at q;split at q
 ·obtain⟨y,rfl,r1⟩:=f_ rs;split at q
  ·rename_i eo;obtain⟨hz,q⟩:=mn q;obtain⟨hd,vs,h1,h2⟩:=ha.get sU eo;obtain⟨g,h3⟩:=ha.write (o:=.lst (_++[_])) (u:=.lst (vs++[y])) sU ⟨hd,_,aH,by rw[kc hd];exact h2.append (.cons r1 .nil)⟩;exact⟨a,vs,y,rfl,rfl,h1,by rw[h2.length,<-g_];exact hz,q .cg B _ g h3 .cg⟩
  ·exact q.elim
 ·exact q.elim
def AY(i:Nat):List Tr->Ab->Rz Tr
 |[.int k],A=>match A[i]? with
  |some (.lst ts)=>if-9223372036854775808<=k/\k<9223372036854775808 then match seqIndex? k ts.length with
   |some j=>match ts[j]? with
    |some t=>.ok t (A.set i (.lst (ts.eraseIdx j)))
    |none=>.bad
   |none=>.bad
   else .bad
  |_=>.bad
 |_,_=>.bad
theorem aJ.erase {K:PySem.W.Frag}{W:Vw}:∀{vs:List V} {ts:List Tr} (j:Nat),aJ K W vs ts->aJ K W (vs.eraseIdx j) (ts.eraseIdx j)
 |[],_,_,r=>by cases r;exact .nil
 |_::_,_,0,r=>by cases r with|cons h r=>exact r
 |_::_,_,j+1,r=>by cases r with|cons h r=>exact .cons h (aJ.erase j r)
theorem Jd:Pg X B_ AY:=by
 intro B A H a i xs ts Q ha sU rs q;unfold AY at q;split at q
 ·obtain⟨y,rfl,r1⟩:=f_ rs;cases r1.int_inv;split at q
  ·rename_i eo;obtain⟨⟨k1,k2⟩,q⟩:=mn q;obtain⟨hd,vs,h1,h2⟩:=ha.get sU eo;split at q
   ·rename_i j ej;split at q
    ·rename_i eu;obtain⟨y,ey,ry⟩:=h2.get eu;obtain⟨g,h3⟩:=ha.write (o:=.lst (List.eraseIdx _ j)) (u:=.lst (vs.eraseIdx j)) sU ⟨hd,_,aH,by rw[kc hd];exact h2.erase j⟩;exact⟨a,vs,_,j,y,rfl,rfl,h1,k1,k2,by rw[h2.length];exact ej,ey,q y B _ g h3 (by rw[kc hd];exact ry)⟩
    ·exact q.elim
   ·exact q.elim
  ·exact q.elim
 ·exact q.elim
end
def fk(r:Rz Out):Rs Tr:=match r with
 |.ok (.nx _) _=>.ok .cg
 |.ok (.ret t) A=>if gQ (bT 3 A t)=true then .ok (bT 3 A t)else .bad
 |_=>.bad
theorem kR{n:Nat}{ts:List Tr}:dE (startT n ts):=fun i us e=>by
 rcases ka e with q|⟨u,_,q⟩<;>cases q
theorem r9.Vq {P:Program}{w:World}{K:PySem.W.Frag}{mg:Str->Option Value}{base:Heap}{x qual:Str}{st:Stmt}{f:Addr}{fd:FuncData}{N ps:List Str}{k:Nat}{h:List Tr->Rs Tr}(Fn:r9 K x qual st f fd)(S:dD N ps (aD st))(len:∀ts t,h ts=.ok t->ts.length=ps.length)
  (gG:∀(cO:Value) (A:Around) (outer:List Env) (s:Shared) (H:Hp) (E:XK),de k (A.deeper (envOfC qual (aD st) s.heap.objs.size f cO))->
   ∃G,jB (jb kX P w K mg base N qual (aD st) f cO A outer s H E).Bz (cP st) (tZ (jb kX P w K mg base N qual (aD st) f cO A outer s H E).Bz G)/\∀ts t,h ts=.ok t->cD ts=true/\fk (G (startT N.length ts) [])=.ok t):fQ P w K mg base kX (k+1) f fd ps (spT K h):=by
 refine Fn.ok S (fun vs H Q E q=>?_) (fun cO A outer s H vs Q E hr q=>?_)
 ·obtain⟨B,ts,hb,r,t,e,_⟩:=q;rw[r.length];exact len ts t e
 ·obtain⟨B,ts,hb,r,t,e,q⟩:=q;obtain⟨G,hG,hE⟩:=gG cO A outer s H E hr;obtain⟨na,e1⟩:=hE ts t e
  let B0:bQ:=⟨B.hd,fun _=>none⟩
  have rS:HB B0 H:=hb;have Vr:HA K B0 [] H:=⟨rS,fun i o z=>by simp at z,(fun a b i z=>by cases(show(none:Option Nat)=some i from z)),(fun a i z=>by cases(show(none:Option Nat)=some i from z))⟩;have r0:aJ K (aN B0 H) vs ts:=aJ.CM (W:=aN B H) (W':=aN B0 H) (fun _ _ e=>e) r na;have sm:∀{B':bQ} {H':Hp},Grows B0 H B' H'->au H H':=fun g b o z=>g.kp b o rfl z;refine⟨_,hG,B0,H,B0,[],startT N.length ts,rS,.refl,Vr,bg.start r0,kR,?_⟩;cases eo:G (startT N.length ts) []with
  |ok o A1=>
   rw[eo]at e1;cases o with
   |nx ρ=>cases e1;exact fun bP B' H' g ha r' n'=>q .cg H' (sm g) .cg
   |ret u=>
    have e2:(if gQ (bT 3 A1 u)=true then Rs.ok (bT 3 A1 u)else .bad)=.ok t:=e1;by_cases z:gQ (bT 3 A1 u)=true
    ·rw[ab z]at e2;cases e2;intro v B' H' g ha r';refine q v H' (sm g) (Rep.CM (fun b o z=>?_) (gI ha 3 r') z);have z1:=aE b o z;cases hB:B.hd b with
     |false=>rw[cC hB];exact z1
     |true=>
      have h2:B'.hd b=true:=g.hd b rfl hB;have h3:B'.ix b=none:=by
       cases h4:B'.ix b with
       |none=>rfl
       |some i=>have h5:=g.nw b i h4 rfl;obtain⟨o2,h6,_⟩:=hb b hB;rw[h5]at h6;cases h6
      have z2:(if B'.un.hd b=true then none else H' b)=some o:=z;rw[show B'.un.hd b=(B'.hd b&&(B'.ix b).isNone)from rfl,h2,h3]at z2;cases z2
    ·rw[ae z]at e2;cases e2
   |bk ρ=>cases e1
   |ct ρ=>cases e1
  |exc c A1=>rw[eo]at e1;cases e1
  |bad=>rw[eo]at e1;cases e1
def sg(n m:Nat)(G:az->Ab->Rz Out)(ts:List Tr):Rs Tr:=if ts.length=n/\cD ts=true then fk (G (startT m ts) [])else .bad
theorem CW{n m:Nat}{G:az->Ab->Rz Out}{ts:List Tr}{t:Tr}(h:sg n m G ts=.ok t):ts.length=n:=by
 unfold sg at h;split at h
 ·rename_i z;exact z.1
 ·cases h
theorem Fq{n m:Nat}{G:az->Ab->Rz Out}{ts:List Tr}{t:Tr}(h:sg n m G ts=.ok t):cD ts=true/\fk (G (startT m ts) [])=.ok t:=by
 unfold sg at h;split at h
 ·rename_i z;exact⟨z.2,h⟩
 ·cases h
end L2
namespace L2
open PySem PySem.Spec PyProof.Rows
section
variable {X:Cx}{a b e:Expr}{es:List Expr}{pos:Pos}{F G:az->Rs Tr}{L:az->Rs (List Tr)}{A:az->Rs Bool}
theorem Na(h:PA X es (yV X L)):PE X (.List es pos) (tF X fun ρ=>xI (L ρ)):=
 (BY h).weak fun σ H Q ⟨B,ρ,hb,r,q⟩=>⟨B,ρ,hb,r,q.bind.mono fun ts qt vs H1 s1 r1=>by
  by_cases hz:ts.length<=i3
  ·rw[ab hz]at qt;refine⟨by rw[r1.length,<-g_];exact hz,fun p hp=>qt (.ref p) _ (s1.Io (s1.free hp)) (.lst ((hb.same s1).new hp) (r1.same (aZ (au.upd hp)))) fun p' e=>by cases e;exact .upd (s1.free hp) (fun _ _ z=>by cases z)⟩
  ·rw[ae hz]at qt;exact qt.elim⟩
theorem Je:PE X (.Dict [] [] pos) (tF X fun _=>.ok (.bf [])):=
 Cd.weak fun σ H Q ⟨B,ρ,hb,r,q⟩ p hp=>q (.ref p) _ (au.upd hp) (.bf (.inl (hb.new hp)) rfl .nil) fun p' e=>by cases e;exact .upd hp (fun _ _ z=>by cases z)
variable {scope:Scope}{N':List Str}{ix:List (Option Nat)}{elt iter tg:Expr}{ifs:List Expr}{T:kL}{W:az->Rs (List Tr)}
theorem AZ{σ:St}{H:Hp}{Q:VK}(hT:iG T)(q:tF X (fun ρ=>gX ix T A F (W ρ) ρ) σ H Q):KC (tI X W) ix (Gs X.K T) (Gr X.K A) (Gq X.K F) σ H Q:=by
 obtain⟨B,ρ,hb,r,q⟩:=q;refine⟨B,ρ,hb,r,q.bind.mono fun ts qt J H1 s1 gt D hD=>?_⟩;by_cases hz:ts.length<=i3
 ·rw[ab hz]at qt;exact oJ hT (oH ix ρ) (hb.same s1) gt hz ((r.same s1).comp ix (iE hD)) hD (Fi.bind qt) fun ys H' k s' rp=>k _ H' (s1.trans s') rp fun p e=>by cases e;exact .lst (s1.free hD) rp
 ·rw[ae hz]at qt;exact qt.elim
theorem Fs{i:Nat}{x:Str}{px ma:Pos}(Lk:fR X N' ix scope)(hit:PI X tg iter (tI X W))(l_:IG X scope N' tg elt ifs T A F)(hT:iG T)(hN:X.N.Nodup:=by assumption) (hc:X.calm=true:=by rfl) (hi:X.N[i]?=some x:=by rfl) (hx:Loc X.env.scope x:=by first|exact Or.inl rfl|exact Or.inr rfl)
  (EI:swapsWith (.ListComp elt [⟨tg,iter,ifs,0⟩] scope pos) (some (.Name x px)) ma.line X.env=pure true:=by rfl) (hs:isSet iter=false:=by rfl) (hf:X.fn x=true\/X.env.scope.names.lookup x=some .local:=by first|exact .inl rfl|exact .inr rfl|assumption):
  PS X (.Assign [.Name x px] (.ListComp elt [⟨tg,iter,ifs,0⟩] scope pos) ma) (tZ X fun ρ A'=>cy i (ff (gX ix T A F (W (bb A' ρ)) (bb A' ρ)) A') ρ):=
 (vI Lk hc hN hi hx hit l_.O6 EI (dY hs) hf).weak fun D σ H ⟨B0,H0,B,A',ρ,hb,g,ha,r,n,q⟩=>AZ hT (kO (F:=fun ρ=>gX ix T A F (W ρ) ρ) (i7 (F:=fun ρ A'=>ff (gX ix T A F (W (bb A' ρ)) (bb A' ρ)) A') hb g ha r n q.bind fun t A2 v B' H' qt g' d0 r' rv _=>qt _ B' H' g' d0 (r'.set i rv) (n.set i t)))
inductive rF(X:Cx)(h:List Tr->Rs Tr)(xs:List V)(H:Hp)(Q:VK):Prop
 |mk (B:bQ) (ts:List Tr):HB B H->aJ X.K (aN B H) xs ts->(Fi X H (h ts) fun t=>∀v H',au H H'->Rep X.K (aN B H') v t->(∀p,v=.ref p->IY H H' p)->Q v H')->rF X h xs H Q
theorem CY{T:String}{x:Str}{p:Pos}{e:Expr}{h:List Tr->Rs Tr}(hc:gE X (.type T) (rF X h))(hm:X.mg x=none)(ha:PA X (e::es) (yV X L))(hv:bootBuiltins x=some (.type T):=by rfl) (hg:Gl X x:=by rfl) (hn:x≠"__name__":=by decide) (iT:(x==("__debug__":Str))=false:=by decide)
  (cZ:ba (e::es)=true:=by rfl):PE X (.Call (.Name x p) (e::es) [] pos) (tF X fun ρ=>aI h (L ρ)):=
 (iz hc hg hm hv ha hn iT (aX _ _ (aG cZ).1) (cb (aG cZ).2)).weak fun σ H Q ⟨B,ρ,hb,r,q⟩=>⟨B,ρ,hb,r,q.bind.mono fun ts qt vs H1 s1 r1=>⟨B,ts,hb.same s1,r1,(qt.same s1).mono fun t qt v H2 s2 r2 fr=>qt v H2 (s1.trans s2) r2 fun p e=>⟨s1.free (fr p e).1,(fr p e).2⟩⟩⟩
theorem Ft:gE X (.type "list") (rF X y9):=by
 intro pins s σ H xs us Q I rv ⟨B,ts,hb,r,q⟩;unfold y9 at q;split at q
 ·obtain⟨x,e,r1⟩:=f_ r;obtain⟨a,vs,rfl,h,rr⟩:=r1.cQ;exact l8 pins s σ H _ us Q I rv ⟨_,_,e,.inr h.up,fun p hp=>q _ _ (au.upd hp) (.xO hb hp rr) fun p' e=>by cases e;exact .upd hp (fun _ _ z=>by cases z)⟩
 ·obtain⟨x,e,r1⟩:=f_ r;obtain⟨a,vs,rfl,h,rr⟩:=r1.lst_inv;exact l8 pins s σ H _ us Q I rv ⟨_,_,e,.inl (.of (fq h)),fun p hp=>q _ _ (au.upd hp) (.xO hb hp rr) fun p' e=>by cases e;exact .upd hp (fun _ _ z=>by cases z)⟩
 ·exact q.elim
end
end L2
namespace L2
open PySem PySem.Spec PyProof.Rows
def Ph(K:PySem.W.Frag)(B:bQ)(H:Hp)(E:XK):Tr->Ab->Prop:=fun c A=>∀B' H',Grows B H B' H'->HA K B' A H'->E (M4 K c) none H'
inductive uG(K:PySem.W.Frag)(f:List Tr->Ab->Rz Tr)(vs:List V)(H:Hp)(Q:VK)(E:XK):Prop
 |mk (B:bQ) (A:Ab) (ts:List Tr):HA K B A H->aJ K (aN B H) vs ts->(dH (Ph K B H E) (f ts A) fun t A'=>∀v B' H',Grows B H B' H'->HA K B' A' H'->Rep K (aN B' H') v t->Q v H')->uG K f vs H Q E
theorem fQ.Rt {P:Program}{w:World}{K:PySem.W.Frag}{mg:Str->Option Value}{base:Heap}{k:Nat}{f:Addr}{fd:FuncData}{ps:List Str}{h:List Tr->Rs Tr}(F:fQ P w K mg base kX k f fd ps (spT K h)):fQ P w K mg base (oM P w) k f fd ps (uG K fun ts A=>aq (h ts) A):=by
 have key:∀{vs:List V} {H:Hp} {Q:VK} {E:XK},uG K (fun ts A=>aq (h ts) A) vs H Q E->∀E',spT K h vs H Q E':=fun{vs H Q E} ⟨B,A,ts,ha,r,q⟩ E'=>by
  have q:dH (Ph K B H E) (aq (h ts) A) _:=q;cases e:h ts with
  |ok t=>rw[e]at q;exact⟨B,ts,ha.hb,r,t,e,fun v H' s rv=>q v B H' (.of s) (ha.same s) rv⟩
  |exc c=>rw[e]at q;exact(show False from q).elim
  |bad=>rw[e]at q;exact(show False from q).elim
 refine⟨fun vs H Q E q=>F.len vs H Q E (key q E),fun A outer s H args us vs Q E hr e0 hb hv q=>?_⟩;refine fM (F.run A outer s H args us vs Q E hr e0 hb hv (key q E)) fun r s' z=>?_
 cases r with
 |error e=>exact(show False from z).elim
 |ok fl=>
  cases fl with
  |ret u=>exact z
  |next=>exact z
  |brk=>exact z
  |cont=>exact z
def g0(r:Rz Out):Rz Tr:=r.bind fun o A=>match o with
 |.nx _=>.ok .cg A
 |.ret t=>.ok t A
 |_=>.bad
theorem r9.oN {P:Program}{w:World}{K:PySem.W.Frag}{mg:Str->Option Value}{base:Heap}{x qual:Str}{st:Stmt}{f:Addr}{fd:FuncData}{N ps:List Str}{k:Nat}{h:List Tr->Ab->Rz Tr}(Fn:r9 K x qual st f fd)(S:dD N ps (aD st))(len:∀ts A,h ts A≠ .bad->ts.length=ps.length)
  (gG:∀(cO:Value) (A:Around) (outer:List Env) (s:Shared) (H:Hp) (E:XK),de k (A.deeper (envOfC qual (aD st) s.heap.objs.size f cO))->
   ∃G,jB (jb (oM P w) P w K mg base N qual (aD st) f cO A outer s H E) (cP st) (tZ (jb (oM P w) P w K mg base N qual (aD st) f cO A outer s H E) G)/\∀ts A,h ts A≠ .bad->h ts A=g0 (G (startT N.length ts) A)):fQ P w K mg base (oM P w) (k+1) f fd ps (uG K h):=by
 obtain⟨oc,od,kV,doc,pm,an,cO,ct,yO,rfl,lk,n6⟩:=Fn.ex;have nb:∀{B:bQ} {A:Ab} {H:Hp} {E:XK} {ts:List Tr} {k:Tr->Ab->Prop},dH (Ph K B H E) (h ts A) k->h ts A≠ .bad:=fun{B A H E ts k} q z=>by rw[z]at q;exact q
 refine BZ lk n6 S (fun vs H Q E ⟨B,A,ts,ha,r,q⟩=>by rw[r.length];exact len ts A (nb q)) fun A outer s H vs Q E hr ⟨B,A1,ts,ha,r,q⟩=>?_
 obtain⟨G,hG,hE⟩:=gG cO A outer s H E hr;refine⟨_,hG,B,H,B,A1,startT N.length ts,ha.hb,.refl,ha,bg.start r,kR,?_⟩;rw[hE ts A1 (nb q)]at q;refine(dH.bind q).imp (fun c A2 z B' H' g d0 e s x=>v7 x (z B' H' g d0))|>.mono fun o A2 z=>?_
 cases o with
 |nx ρ=>exact fun bP B' H' g d0 r' n'=>z .cg B' H' g d0 .cg
 |ret t=>exact fun v B' H' g d0 r'=>z v B' H' g d0 r'
 |bk ρ=>exact(show False from z).elim
 |ct ρ=>exact(show False from z).elim
def ni(n m:Nat)(G:az->Ab->Rz Out)(ts:List Tr)(A:Ab):Rz Tr:=if ts.length=n then g0 (G (startT m ts) A)else .bad
theorem qO{n m:Nat}{G:az->Ab->Rz Out}{ts:List Tr}{A:Ab}(h:ni n m G ts A≠ .bad):ts.length=n:=by
 unfold ni at h;by_cases z:ts.length=n
 ·exact z
 ·rw[ae z]at h;exact absurd rfl h
theorem zm{n m:Nat}{G:az->Ab->Rz Out}{ts:List Tr}{A:Ab}(h:ni n m G ts A≠ .bad):ni n m G ts A=g0 (G (startT m ts) A):=by
 unfold ni;rw[ab (qO h)]
section
variable {X:Cx}{o e:Expr}{es:List Expr}{p pos apos:Pos}{F:az->Ab->Rz Tr}{L:az->Ab->Rz (List Tr)}{h:List Tr->Ab->Rz Tr}{x:Str}{st:Stmt}{ps:List Str}{f:Addr}{fd:FuncData}{k:Nat}
theorem Jf{B B1:bQ}{H H1:Hp}{A1:Ab}{vs:List V}{ts:List Tr}{Q:VK}(hb:HB B H)(g:Grows B H B1 H1)(ha:HA X.K B1 A1 H1)(r:aJ X.K (aN B1 H1) vs ts)(q:dH (XE X B H) (h ts A1) fun t A'=>∀v B' H',Grows B H B' H'->HA X.K B' A' H'->Rep X.K (aN B' H') v t->Q v H'):uG X.K h vs H1 Q (EX X):=
 ⟨B1,A1,ts,ha,r,(q.imp fun c A' z=>z.grow hb g).mono fun t A' z v B' H' g' d0 rv=>z v B' H' (g.trans hb g') d0 rv⟩
theorem Nb(D:sG X.K X.mg x st ps f fd)(G:fQ X.prog X.w X.K X.mg X.base (oM X.prog X.w) k f fd ps (uG X.K h))(hr:de k X.A)(ha:PA X (e::es) (Fl X L))(hx:X.ex=[]:=by rfl) (hg:Gl X x:=by rfl) (iT:(x==("__debug__":Str))=false:=by decide) (cZ:ba (e::es)=true:=by rfl):
  PE X (.Call (.Name x p) (e::es) [] pos) (tE X fun ρ A=>(L ρ A).bind h):=
 (yN (p:=p) (pos:=pos) G hr hg D.mg D.fn.kp D.bd .nil (AS hx) ha (iT:=iT) (he:=aX _ _ (aG cZ).1) (n8:=cb (aG cZ).2)).weak fun σ H Q ⟨B,A,ρ,ha,r,n,q⟩=>⟨B,A,ρ,ha,r,n,q.bind.mono fun ts A1 qt vs B1 H1 g1 jT r1=>by
  show uG X.K h (vs++[]) H1 Q (EX X);rw[dw];exact Jf ha.hb g1 jT r1 qt⟩
variable {c m:Str}
end
end L2
namespace L2
open PySem PySem.Spec PyProof.Rows
abbrev Tq:List Value:=[.type "ValueError",.type "Exception",.type "BaseException",.type "object"]
structure Nc(K:PySem.W.Frag)(mg:Str->Option Value)(x:Str):Prop where
 mg:mg x=some (.ref (clsAt K x))
 ex:PySem.W.excIn K (clsAt K x) Tq "ValueError.__new__"=true
theorem A5{e o i:Expr}{p:Pos}{n:Nat}{env:Env}:swapsWith e (some (.Subscript o i p)) n env=pure false:=by cases e<;>rfl
structure Nd(K:PySem.W.Frag)(xs:List Str)(f:Str):Prop where
 all:∀x∈xs,Kv K (clsAt K x)/\HG K (clsAt K x) f
end L2
namespace L2
open PySem PySem.Spec PyProof.Rows
theorem Fu{X:Cx}{H:Hp}{xc:Tr->Ab->Prop}{r:Rs Tr}{A:Ab}{k:Tr->Ab->Prop}(q:dH xc (v8 r A) k):Fi X H r fun t=>v3 t=true/\k t A:=by
 cases r with
 |ok t=>exact mn q
 |exc c=>exact(show False from q).elim
 |bad=>exact q
section
variable {X:Cx}{a b o i e value:Expr}{es:List Expr}{pos pos' p apos dg:Pos}{F G E:az->Ab->Rz Tr}{L:az->Ab->Rz (List Tr)}{h:Tr->Tr->Rs Tr}
def wa(h:List Tr->Rs Tr)(l:Rz (List Tr)):Rz Tr:=l.bind fun ts A=>v8 (h (ts.map (bT 1 A))) A
theorem x9{h:List Tr->Rs Tr}{σ:St}{H:Hp}{Q:VK}(q:tE X (fun ρ A=>wa h (L ρ A)) σ H Q):OT (rC X h) (Fl X L) σ H Q:=by
 obtain⟨B,A,ρ,ha,r,n,q⟩:=q;refine⟨B,A,ρ,ha,r,n,q.bind.mono fun ts A1 qt vs B1 H1 g1 jT rs=>?_⟩;exact⟨B1.un,ts.map (bT 1 A1),zk jT.hb,iJ (fun r=>gI jT 1 r) rs,(Fu qt).mono fun t ⟨ft,k⟩ w H3 s3 kh=>k w B1 H3 (g1.trans ha.hb (.of s3)) (jT.same s3) (sR (jT.same s3) kh ft)⟩
theorem C0{T:String}{x:Str}{h:List Tr->Rs Tr}(hc:iC X (.type T) h)(hm:X.mg x=none)(ha:PA X (e::es) (Fl X L))(hv:bootBuiltins x=some (.type T):=by rfl) (hg:Gl X x:=by rfl) (hn:x≠"__name__":=by decide) (iT:(x==("__debug__":Str))=false:=by decide)
  (cZ:ba (e::es)=true:=by rfl):PE X (.Call (.Name x p) (e::es) [] pos) (tE X fun ρ A=>wa h (L ρ A)):=
 (iz hc hg hm hv ha hn iT (aX _ _ (aG cZ).1) (cb (aG cZ).2)).weak fun _ _ _ q=>x9 q
theorem Ax.length {K:PySem.W.Frag}{W:Vw}{av:List (Key×V)}{aC:List (Key×Tr)}(h:Ax K W av aC):av.length=aC.length:=by
 have e:=bB List.length h.keys;rw[ai,ai]at e;exact e
end
end L2
namespace L2
open PySem PySem.Spec PyProof.Rows
theorem bg.none {K:PySem.W.Frag}{B:bQ}{H:Hp}{σ:St}:bg K B H σ (List.replicate σ.length .no):=by
 have no:∀(i:Nat) (c:Cell),(List.replicate σ.length Cell.no)[i]?=some c->c=.no:=fun i c e=>by
  rw[ly]at e;split at e
  ·exact(Option.some.inj e).symm
  ·cases e
 exact⟨lB,(fun i t e=>by cases no i _ e),(fun i ts e=>by cases no i _ e),(fun i j ts us D _ e=>by cases no i _ e)⟩
end L2
namespace L2
open PySem PySem.Spec PyProof.Rows
structure zo(K:PySem.W.Frag)(mg:Str->Option Value)(c:Str)(xs:List Str):Prop where
 mg:mg c=some (.ref (clsAt K c))
 all:∀x∈xs,PySem.W.exmOne K (.ref (clsAt K x)) (.ref (clsAt K c))=some true
section
variable {X:Cx}{c n:Str}{tp hp pos:Pos}{xs:List Str}{i:Nat}{body GH:List Stmt}{Nf:Stmt}{G G2:az->Ab->Rz Out}
end
end L2
namespace L2
open PySem PySem.Spec PyProof.Rows
section
variable {X:Cx}{a b e:Expr}{es:List Expr}{pos:Pos}{F G:az->Rs Tr}{L:az->Rs (List Tr)}{A:az->Rs Bool}{scope:Scope}{N':List Str}{ix:List (Option Nat)}{elt iter tg:Expr}{ifs:List Expr}{T:kL}{W:az->Rs (List Tr)}
theorem x_{σ:St}{H:Hp}{Q:VK}(hT:iG T)(q:tF X (fun ρ=>gX ix T A F (W ρ) ρ) σ H Q):KC (tJ X W) ix (Gs X.K T) (Gr X.K A) (Gq X.K F) σ H (fun v H'=>fS X H' (Q v)):=by
 obtain⟨B,ρ,hb,r,q⟩:=q;refine⟨B,ρ,hb,r,q.bind.mono fun ts qt J H1 tf gt D hD=>?_⟩;by_cases hz:ts.length<=i3
 ·rw[ab hz]at qt;exact oJ hT (oH ix ρ) (tf.hb hb) gt hz ((tf.xR r).comp ix (iE hD)) hD (Fi.bind qt) fun ys H' k s' rp=>by
   obtain⟨Hu,su,ru,ku⟩:=tf.Gu hb s';exact ku _ (k _ Hu su (ru rp) fun p e=>by cases e;exact .lst (tf.free hD) (ru rp))
 ·rw[ae hz]at qt;exact qt.elim
theorem C1{i:Nat}{x:Str}{px ma:Pos}(Lk:fR X N' ix scope)(hit:PI X tg iter (tJ X W))(l_:IG X scope N' tg elt ifs T A F)(hT:iG T)(hN:X.N.Nodup:=by assumption) (hc:X.calm=true:=by rfl) (hi:X.N[i]?=some x:=by rfl) (hx:Loc X.env.scope x:=by first|exact Or.inl rfl|exact Or.inr rfl)
  (EI:swapsWith (.ListComp elt [⟨tg,iter,ifs,0⟩] scope pos) (some (.Name x px)) ma.line X.env=pure true:=by rfl) (hs:isSet iter=false:=by rfl) (hf:X.fn x=true\/X.env.scope.names.lookup x=some .local:=by first|exact .inl rfl|exact .inr rfl|assumption):
  PS X (.Assign [.Name x px] (.ListComp elt [⟨tg,iter,ifs,0⟩] scope pos) ma) (tZ X fun ρ A'=>cy i (ff (gX ix T A F (W (bb A' ρ)) (bb A' ρ)) A') ρ):=
 (vI Lk hc hN hi hx hit l_.O6 EI (dY hs) hf).IL.weak fun D σ H ⟨B0,H0,B,A',ρ,hb,g,ha,r,n,q⟩=>x_ (Q:=fun v H'=>D.nx (σ.set i (some v)) H') hT (kO (F:=fun ρ=>gX ix T A F (W ρ) ρ) (i7 (F:=fun ρ A'=>ff (gX ix T A F (W (bb A' ρ)) (bb A' ρ)) A') hb g ha r n q.bind fun t A2 v B' H' qt g' d0 r' rv _=>qt _ B' H' g' d0 (r'.set i rv) (n.set i t)))
end
end L2
namespace L2
open PySem PySem.Spec PyProof.Rows
section
variable {X:Cx}{a b e:Expr}{es:List Expr}{pos:Pos}{F:az->Ab->Rz Tr}{P:az->Ab->Rz Bool}{c n:Str}{tp hp:Pos}{xs:List Str}{i:Nat}{body GH:List Stmt}{Nf:Stmt}{G G2:az->Ab->Rz Out}
def ya(r:Rz Tr):Rz Bool:=r.bind fun t A=>aq (m5 t) A
theorem Jg(h:PE X a (tE X F))(he:iB a=true:=by rfl):PT X a (Ed X fun ρ A=>ya (F ρ A)):=
 (vz h (qC he)).weak fun σ H Q ⟨B,A,ρ,ha,r,n,q⟩=>⟨B,A,ρ,ha,r,n,q.bind.mono fun t A1 qt v B1 H1 g1 jT rv=>by
  obtain⟨b,h1,h2⟩:=qF (rv.same oF) (gK (X:=X) (H:=H1) qt);exact⟨b,h1,h2 B1 H1 g1 jT⟩⟩
def yb(r:Rz Bool):Rz Bool:=r.bind fun b A=>.ok (!b) A
theorem eq_not(h:PT X a (Ed X P)):PT X (.UnaryOp .Not a pos) (Ed X fun ρ A=>yb (P ρ A)):=
 (BL h).weak fun σ H Q ⟨B,A,ρ,ha,r,n,q⟩=>⟨B,A,ρ,ha,r,n,q.bind⟩
variable {st:Stmt}
end
end L2
namespace L2
open PySem PySem.Spec PySem.Calls PyProof.Rows PySem.W
structure Ng(K:Frag)(D:Addr):Prop where
 ga:findIn K (.ref D) "__getattribute__"=some (some (.builtin "BaseException.__getattribute__"))
 gh:findIn K (.ref D) "__getattr__"=some none
 cl:findIn K (.ref D) "__class__"=some (some (.builtin "object.__class__"))
 ob:mroIn K D (.type "object")=some true
 be:mroIn K D (.type "BaseException")=some true
structure GI(K:Frag)(u:Value)(tab:List (Str×Bool)):Prop where
 all:∀x b,tab.lookup x=some b->kitOne K (.ref (clsAt K x)) u=some b/\Ng K (clsAt K x)/\(clsIn K (clsAt K x)).isSome=true
end L2
namespace L2
open PySem PySem.Spec PySem.Calls PyProof.Rows
theorem A6:typeLookup (.type "list") "keys"=pure none:=by rw[lU,lE];kernel_rfl
section
variable {prog:Program}{w:World}{A:Around}{E:Value->Shared->Prop}{s:Shared}{a:Addr}{xs:Array Value}{k:Nat}{sl:Array (Option Value)}
theorem yc{Q:Option Value->Shared->Prop}(hx:s.heap.get? a=some {cls:=.type "list",dict:=none,data:=.seq xs k,slots:=sl}) (hA:A.handled=none)
  (h:∀h' tk,(∀b o,s.heap.get? b=some o->h'.get? b=some o)->Q none {s with heap:=h',toks:=tk}):wpAny (model prog w) A (getAttr? (.ref a) "keys") Q E s:=by
 obtain⟨hp,g,d,tk,os⟩:=s;have hT:∀oq,(⟨hp,g,d,oq,os⟩:Shared).TypeIs (.ref a) "list":=fun _=>⟨_,hx,rfl⟩;have f1:=sub_AttributeError;have f3:=pj.lookup;have f4:=pj.bind (.ref a);have f5:=am_list_getattr_none;unfold getAttr? getAttrBy? getAttrBy
 repeat(any_goals (first|assumption|exact hT _|((with_reducible show wpAny _ _ (call (Value.builtin "list.__getattribute__") _ _) _ _ _);refine gD pj (hT _) am_entry_list_getattribute (F.args_list_getattribute_2 _ _) (meets_getattribute_miss_list a xs k sl "keys" _ A6 (by decide+kernel) (by size_fits)) ⟨hx,hA,fun h' oq e AH=>?_⟩)|wp_step))
 obtain⟨t',u',he⟩:=AH.there;have Ru:∀oq,(⟨h',g,d,oq,os⟩:Shared).TypeIs (.ref e) "AttributeError":=fun _=>⟨_,he,rfl⟩;show wpAny _ _ (getattributeRaised _ _ _ _ _ _ _) _ _ _;unfold getattributeRaised
 repeat(any_goals (first|assumption|exact Ru _|wp_step))
 exact h h' oq AH.of.keeps
theorem sV:entryFor table "dict.update.loop"=some Builtin.«dict.update.loop»:=entryFor_of_tree (by kernel_rfl)
theorem iL:plainId "dict.update.loop"=true:=by decide+kernel
end
end L2
namespace L2
open PySem PySem.Spec PySem.Calls PyProof.Rows Builtin Builtin.ObjectAttr
structure Nh(K:PySem.W.Frag)(f:Addr):Prop where
 get:PySem.W.specialIn K (.ref f) "__get__"=some (some (.builtin "function.__get__"))
 tk:PySem.W.takesIn K (.ref f)=some false
end L2
namespace L2
open PySem PySem.Spec PySem.Calls PyProof.Rows
def cE{α:Type}(n:Nat)(lt:Nat->Nat->Bool):PySem.W.KasT α->Option α
 |.ret a=>some a
 |.ask i j k=>if i<n/\j<n/\i≠j then cE n lt (k (lt i j))else none
theorem nk{α:Type}{n:Nat}{lt:Nat->Nat->Bool}{cmp:Nat->Nat->(Bool->Shared->Prop)->Shared->Prop}{Q:α->Shared->Prop}{s:Shared}(hc:∀i j C,i<n->j<n->i≠j->C (lt i j) s->cmp i j C s):∀(t:PySem.W.KasT α) {a:α},cE n lt t=some a->Q a s->t.kasWp cmp Q s
 |.ret b,a,e,h=>by cases e;exact h
 |.ask i j k,a,e,h=>by
  unfold cE at e;by_cases z:i<n/\j<n/\i≠j
  ·rw[ab z]at e;exact hc i j _ z.1 z.2.1 z.2.2 (nk hc (k (lt i j)) e h)
  ·rw[ae z]at e;cases e
theorem Inv.adopt {X:Cx}{pins:List (Addr×Obj)}{σ:St}{H:Hp}{s:Shared}{b:Addr}{o:HO}(I:Inv X pins σ H s)(h0:X.eP.heap.objs.size<=b)(f:ja X pins H b)(new:bu X.prog X.w (upd H b o) s.heap b o):Inv X pins σ (upd H b o) s:=by
 obtain⟨hn,hL,_,_,hC,hP⟩:=f;refine⟨I.ok,I.os,I.bare,⟨I.base.keep,I.base.slot,fun c u e n hx=>?_,I.base.there,fun c xs e=>?_,fun c u v e=>?_,fun c ps e=>?_⟩,I.loc,I.cell,?_,fun x c e=>?_,fun p hp=>?_,fun c u e=>?_,I.len⟩
 ·rw[ah (aS (bx (aw e) h0))];exact I.base.free c u e n hx
 ·have q:=I.base.kg c xs e;rw[ah (aL q hn)];exact q
 ·have q:=I.base.i_ c u v e;rw[ah (aL q hn)];exact q
 ·obtain⟨more,q⟩:=I.base.jA c ps e;exact⟨more,by rw[ah (aL q hn)];exact q⟩
 ·rw[ah hL.symm];exact I.free
 ·rw[ah (hC x c e)];exact I.f7 x c e
 ·obtain⟨e,n,r⟩:=I.pin p hp;exact⟨e,by rw[ah (hP p hp)];exact n,r⟩
 ·by_cases z:c=b
  ·subst z;rw[aH]at e;cases e;exact new
  ·rw[ah z]at e;exact(I.bN c u e).kE (fun _ _ _ q=>q) (fun d q=>by rw[ah (aL q hn)];exact q) fun d xs q=>by rw[ah (aL q hn)];exact q
end L2
namespace L2
open PySem PySem.Spec PySem.Calls PyProof.Rows
section
variable {prog:Program}{w:World}{A:Around}{E:Value->Shared->Prop}{s:Shared}
theorem ou{a:Addr}{vs:List Value}{n:Nat}{P:PySem.Fin->Shared->Prop}(ho:s.heap.get? a=some (seqObj "list" vs.toArray n))(h2:vs.length<2)
  (h:∀h' c,(∀b o,b≠a->s.heap.get? b=some o->h'.get? b=some o)->h'.get? a=some (seqObj "list" vs.toArray c)->P (.done (.ret .none)) {s with heap:=h'}):
  wpAny (model prog w) A (Builtin.«list.sort» ⟨[.ref a],[]⟩) P E s:=by
 rw[list_sort_plain];have ha:a<s.heap.objs.size:=aw ho;refine aa (listItems_at ho rfl ?_);refine aa (ir ho rfl ?_ (by rw[bc,bS];omega) (bG _));obtain⟨e1,GJ⟩:∃e1,(s.heap.update a (Obj.mapSeq fun _=>#[])).get? a=some (seqObj "list" #[] e1):=⟨_,jw ho (fun _=>#[])⟩;refine aa (seqEpoch_at GJ rfl ?_);refine aa (lX ?_ (by rw[bS];simp;omega));refine aa (jx ?_ (bG _));refine cB ?_
 have Ts:(((s.heap.update a (Obj.mapSeq fun _=>#[])).push (seqObj "tuple" vs.toArray 0)).push (seqObj "list" #[] 0)).get? a=some (seqObj "list" #[] e1):=by
  rw[Heap.get?_push_ne _ _ _ (by rw[size_push',Heap.size_update];exact aS (h9 ha)),Heap.get?_push_ne _ _ _ (by rw[Heap.size_update];exact aS ha)];exact GJ
 show wpAny (model prog w) A _ P E {s with heap:=((s.heap.update a (Obj.mapSeq fun _=>#[])).push (seqObj "tuple" vs.toArray 0)).push (seqObj "list" #[] 0)};dsimp only;have Jh:vs.toArray.size<2:=by simpa using h2
 rw[ab Jh,ab Jh];refine aa (af ?_);rw[StateT.run_pure];refine aa (af ?_);dsimp only;refine aa (seqEpoch_at Ts rfl ?_);refine aa (ir Ts rfl ?_ (bG _) (by rw[Array.size_map];show(pairsOf vs).size<=_;rw[pairsOf_size,bS];omega));simp only[hZ,bV,bC];refine af ?_
 have eo:(vs.toArray.zip vs.toArray).map (·.2)=vs.toArray:=by
  apply Array.toList_inj.mp;simp only[Array.toList_map,Array.toList_zip];exact List.map_snd_zip (ar _)
 obtain⟨e,he⟩:=sortedHeap_at (out:=(vs.toArray.zip vs.toArray).map (·.2)) ho;refine h (sortedHeap s.heap a vs ((vs.toArray.zip vs.toArray).map (·.2))) e (fun b o hb q=>(sortedHeap_old hb (aw q)).trans q) ?_
 rw[he,eo]
end
def uH(h:Heap)(L D:Addr):List (Addr×Obj):=(xZ h L).filter fun p=>decide (p.1≠D)
theorem fT{h:Heap}{L D b:Addr}{o:Obj}:(b,o)∈uH h L D↔b≠L/\b≠D/\h.get? b=some o:=by
 unfold uH;rw[bR,x6,cK];exact⟨fun z=>⟨z.1.1,z.2,z.1.2⟩,fun z=>⟨⟨z.1,z.2.2⟩,z.2.1⟩⟩
section
variable {X:Cx}
variable {o:Expr}{p1 apos dg pos:Pos}{F:az->Rs Tr}
theorem uI{K:PySem.W.Frag}{W:Vw}{f:Nat->V}{g:Nat->Tr}:∀{p:List Nat},(∀i∈p,Rep K W (f i) (g i))->aJ K W (p.map f) (p.map g)
 |[],_=>.nil
 |i::p,h=>.cons (h i (aM ..)) (uI fun j m=>h j (aW _ m))
end
end L2
namespace L2
open PySem PySem.Spec PyProof.Rows PySem.W
theorem dZ{α β:Type}{n:Nat}{lt:Nat->Nat->Bool}{f:α->KasT β}:∀(t:KasT α),cE n lt (t.bind f)=(cE n lt t).bind fun a=>cE n lt (f a)
 |.ret a=>rfl
 |.ask i j k=>by
  show(if i<n/\j<n/\i≠j then cE n lt ((k (lt i j)).bind f)else none)=_;show _=Option.bind (if i<n/\j<n/\i≠j then cE n lt (k (lt i j))else none) _;by_cases z:i<n/\j<n/\i≠j
  ·rw[ab z,ab z];exact dZ _
  ·rw[ae z,ae z];rfl
structure A7(n:Nat)(lt:Nat->Nat->Bool):Prop where
 as:∀i j,i<n->j<n->i≠j->lt i j=!lt j i
 tr:∀i j k,i<n->j<n->k<n->lt i j=true->lt j k=true->lt i k=true
def Pn(n:Nat)(p:Array Nat):Prop:=p.toList.Perm (List.range n)
def ve(lt:Nat->Nat->Bool)(p:Array Nat)(a b:Nat):Prop:=lt (p.getD a 0) (p.getD b 0)=true
def dS(lt:Nat->Nat->Bool)(p:Array Nat)(k:Nat):Prop:=∀a b,a<b->b<k->ve lt p a b
def wb(lt:Nat->Nat->Bool)(p:Array Nat)(k:Nat):Prop:=∀a b,a<b->b<k->ve lt p b a
section
variable {n:Nat}{lt:Nat->Nat->Bool}{p:Array Nat}
theorem sW:∀{l:List Nat} {i j x:Nat},l.Nodup->l[i]?=some x->l[j]?=some x->i=j
 |[],_,_,_,_,h,_=>by simp at h
 |a::l,0,0,_,_,_,_=>rfl
 |a::l,0,j+1,x,nd,h1,h2=>by
  rw[dy]at nd;cases h1;exact absurd (bJ (show l[j]?=some a from h2)) nd.1
 |a::l,i+1,0,x,nd,h1,h2=>by
  rw[dy]at nd;cases h2;exact absurd (bJ (show l[i]?=some a from h1)) nd.1
 |a::l,i+1,j+1,x,nd,h1,h2=>by
  rw[dy]at nd;rw[sW nd.2 (show l[i]?=some x from h1) (show l[j]?=some x from h2)]
theorem Pn.size (h:Pn n p):p.size=n:=by
 have q:=List.Perm.length_eq h;rw[bK,gb]at q;exact q
theorem Pn.getD (h:Pn n p){a:Nat}(ha:a<n):p[a]?=some (p.getD a 0):=by
 rw[cj,cH (by rw[h.size];exact ha)];rfl
theorem Pn.lo (h:Pn n p){a:Nat}(ha:a<n):p.getD a 0<n:=by
 have e:=h.getD ha;rw[<-cI]at e;exact cN.mp ((List.Perm.mem_iff h).mp (bJ e))
theorem Pn.ne (h:Pn n p){a b:Nat}(ha:a<n)(hb:b<n)(se:a≠b):p.getD a 0≠p.getD b 0:=by
 intro e;have e1:=h.getD ha;have e2:=h.getD hb;rw[<-cI]at e1 e2;have nd:p.toList.Nodup:=(List.Perm.nodup_iff h).mpr pR;rw[<-e]at e2;exact se (sW nd e1 e2)
theorem A7.no (L:A7 n lt)(h:Pn n p){a b:Nat}(ha:a<n)(hb:b<n)(se:a≠b)(e:lt (p.getD a 0) (p.getD b 0)=false):ve lt p b a:=by
 have q:=L.as _ _ (h.lo ha) (h.lo hb) (h.ne ha hb se);rw[e]at q;unfold ve;cases z:lt (p.getD b 0) (p.getD a 0)with
 |true=>rfl
 |false=>rw[z]at q;cases q
theorem A7.trans (L:A7 n lt)(h:Pn n p){a b c:Nat}(ha:a<n)(hb:b<n)(hc:c<n)(e1:ve lt p a b)(e2:ve lt p b c):ve lt p a c:=L.tr _ _ _ (h.lo ha) (h.lo hb) (h.lo hc) e1 e2
theorem mq{α:Type}(h:Pn n p){a b:Nat}(ha:a<n)(hb:b<n)(se:a≠b){k:Bool->KasT α}:cE n lt (.ask (p.getD a 0) (p.getD b 0) k)=cE n lt (k (lt (p.getD a 0) (p.getD b 0))):=ab ⟨h.lo ha,h.lo hb,h.ne ha hb se⟩
theorem dS.succ (L:A7 n lt)(h:Pn n p){m:Nat}(h1:1<=m)(hm:m<n)(s:dS lt p m)(e:ve lt p (m - 1) m):dS lt p (m+1):=by
 intro a b se hb;by_cases z:b<m
 ·exact s a b se z
 ·have:b=m:=by omega
  subst this;by_cases za:a=b - 1
  ·rw[za];exact e
  ·exact L.trans h (by omega) (by omega) hm (s a (b - 1) (by omega) (by omega)) e
theorem wb.succ (L:A7 n lt)(h:Pn n p){m:Nat}(h1:1<=m)(hm:m<n)(s:wb lt p m)(e:ve lt p m (m - 1)):wb lt p (m+1):=by
 intro a b se hb;by_cases z:b<m
 ·exact s a b se z
 ·have:b=m:=by omega
  subst this;by_cases za:a=b - 1
  ·rw[za];exact e
  ·exact L.trans h hm (by omega) (by omega) e (s a (b - 1) (by omega) (by omega))
theorem uJ(L:A7 n lt)(h:Pn n p):∀(f m:Nat),1<=m->m+f<=n->dS lt p m->∃m',cE n lt (kas_asc p f m)=some m'/\m<=m'/\m'<=m+f/\dS lt p m'/\(m'<m+f->ve lt p m' (m' - 1))
 |0,m,h1,_,s=>⟨m,rfl,ar _,ar _,s,fun z=>absurd z (cA _)⟩
 |f+1,m,h1,hf,s=>by
  unfold kas_asc;rw[mq h (by omega) (by omega) (by omega)];cases e:lt (p.getD m 0) (p.getD (m - 1) 0)with
  |true=>exact⟨m,rfl,ar _,by omega,s,fun _=>e⟩
  |false=>
   obtain⟨m',q1,q2,q3,q4,q5⟩:=uJ L h f (m+1) (by omega) (by omega) (s.succ L h h1 (by omega) (L.no h (by omega) (by omega) (by omega) e));exact⟨m',q1,by omega,by omega,q4,fun z=>q5 (by omega)⟩
theorem wc(L:A7 n lt)(h:Pn n p):∀(f m:Nat),1<=m->m+f<=n->wb lt p m->∃m',cE n lt (kas_desc f p m 0)=some (p,m',0)/\m<=m'/\m'<=m+f/\wb lt p m'
 |0,m,h1,_,s=>⟨m,rfl,ar _,ar _,s⟩
 |f+1,m,h1,hf,s=>by
  unfold kas_desc;rw[mq h (by omega) (by omega) (by omega)];cases e:lt (p.getD m 0) (p.getD (m - 1) 0)with
  |true=>
   obtain⟨m',q1,q2,q3,q4⟩:=wc L h f (m+1) (by omega) (by omega) (s.succ L h h1 (by omega) e);exact⟨m',q1,by omega,by omega,q4⟩
  |false=>
   refine⟨m,?_,ar _,by omega,s⟩;show cE n lt (.ask (p.getD (m - 1) 0) (p.getD m 0) _)=_;rw[mq h (by omega) (by omega) (by omega),show lt (p.getD (m - 1) 0) (p.getD m 0)=true from L.no h (by omega) (by omega) (by omega) e]
   rfl
theorem rev_getD(h:Pn n p){m:Nat}(hm:m<=n)(k:Nat):(kas_rev p 0 m).getD k 0=if k<m then p.getD (m - 1 - k) 0 else p.getD k 0:=by
 unfold kas_rev;have e:=getElem?_mirror_all (xs:=p) (i:=0) (j:=m) (by rw[h.size];exact hm) k;rw[lY]at e;rw[cj,lY,e];by_cases z:k<m
 ·rw[ab ⟨bG _,z⟩,ab z,cj];congr 3;omega
 ·rw[ae (fun q=>z q.2),ae z,cj]
theorem Ji(h:Pn n p){m:Nat}:Pn n (kas_rev p 0 m):=by
 unfold kas_rev;exact(vn.mp (mirror_perm p 0 m _)).trans h
theorem A8(L:A7 n lt)(h:Pn n p)(h2:2<=n):∃m p',cE n lt (kas_count n p)=some (m,p')/\Pn n p'/\1<=m/\m<=n/\dS lt p' m:=by
 unfold kas_count;rw[dZ];obtain⟨m,q1,q2,q3,q4,q5⟩:=uJ L h (n - 1) 1 (ar _) (by omega) (fun a b _ hb=>by omega);rw[q1];show∃m' p',cE n lt (if(m==n)=true then _ else if m>1 then _ else _)=_/\_;by_cases z:m=n
 ·rw[ab (by rw[z];exact bz n)];exact⟨m,p,rfl,h,q2,by omega,q4⟩
 ·rw[ae (by simpa using z)];by_cases z1:m>1
  ·rw[ab z1,mq h (by omega) (by omega) (by omega),show lt (p.getD 0 0) (p.getD (m - 1) 0)=true from q4 0 (m - 1) (by omega) (by omega),ab rfl];exact⟨m,p,rfl,h,q2,by omega,q4⟩
  ·rw[ae z1];have hm:m=1:=by omega
   subst hm;have Vs:ve lt p 1 0:=q5 (by omega);unfold kas_descPart;rw[dZ];obtain⟨m',r1,r2,r3,r4⟩:=wc L h (n - (1+1)) (1+1) (by omega) (by omega) (fun a b se hb=>by
    have jc:b=1:=by omega
    have d0:a=0:=by omega
    rw[jc,d0];exact Vs)
   rw[r1];show∃Xo Xp,cE n lt (if 0>0 then _ else kas_tail3 m' n p)=_/\_;rw[ae (by omega)];unfold kas_tail3;rw[dZ];have hr:=Ji h (m:=m');obtain⟨m2,s1,s2,s3,s4,_⟩:=uJ L hr (n - m') m' (by omega) (by omega) (fun a b se hb=>by
    unfold ve;rw[rev_getD h (by omega),rev_getD h (by omega),ab (by omega),ab hb];exact r4 (m' - 1 - b) (m' - 1 - a) (by omega) (by omega))
   rw[s1];exact⟨m2,_,rfl,hr,by omega,by omega,s4⟩
theorem nq(L:A7 n lt)(h:Pn n p){k:Nat}(hk:k<n):∀(f l r:Nat),l<=r->r<=k->r - l<=f->(∀a,a<l->ve lt p a k)->(∀a,r<=a->a<k->ve lt p k a)->dS lt p k->∃l',cE n lt (kas_place p k f l r)=some l'/\l'<=k/\(∀a,a<l'->ve lt p a k)/\∀a,l'<=a->a<k->ve lt p k a
 |0,l,r,Vt,Tt,hf,h1,h2,s=>⟨l,rfl,by omega,h1,fun a ha KQ=>h2 a (by omega) KQ⟩
 |f+1,l,r,Vt,Tt,hf,h1,h2,s=>by
  unfold kas_place;by_cases z:l>=r
  ·rw[ab z];exact⟨l,rfl,by omega,h1,fun a ha KQ=>h2 a (by omega) KQ⟩
  ·rw[ae z,mq h hk (by omega) (by omega)];cases e:lt (p.getD k 0) (p.getD ((l+r)/2) 0)with
   |true=>
    refine nq L h hk f l ((l+r)/2) (by omega) (by omega) (by omega) h1 (fun a ha KQ=>?_) s;by_cases za:a=(l+r)/2
    ·rw[za];exact e
    ·exact L.trans h hk (by omega) (by omega) e (s _ a (by omega) KQ)
   |false=>
    have e':=L.no h hk (show(l+r)/2<n by omega) (by omega) e;refine nq L h hk f ((l+r)/2+1) r (by omega) Tt (by omega) (fun a ha=>?_) h2 s;by_cases za:a=(l+r)/2
    ·rw[za];exact e'
    ·exact L.trans h (by omega) (by omega) hk (s a _ (by omega) (by omega)) e'
theorem wd(h:Pn n p){k l:Nat}(hk:k<n)(hl:l<=k)(c:Nat):(bubble p k (k - l)).getD c 0=if c=l then p.getD k 0 else if l<c/\c<=k then p.getD (c - 1) 0 else p.getD c 0:=by
 have e:=getElem?_bubble (xs:=p) (src:=k) (by rw[h.size];exact hk) (k - l) (by omega) c;rw[cj,e];have KR:k - (k - l)=l:=by omega
 rw[KR];by_cases z:c=l
 ·rw[ab z,ab z,cj]
 ·rw[ae z,ae z];by_cases z2:l<c/\c<=k
  ·rw[ab z2,ab z2,cj]
  ·rw[ae z2,ae z2,cj]
theorem zp(L:A7 n lt):∀(f:Nat) (p:Array Nat) (k:Nat),Pn n p->1<=k->k+f=n->dS lt p k->∃p',cE n lt (kas_bin f p k)=some p'/\Pn n p'/\dS lt p' n
 |0,p,k,h,h1,hf,s=>⟨p,rfl,h,by rw[<-show k=n from hf];exact s⟩
 |f+1,p,k,h,h1,hf,s=>by
  unfold kas_bin;rw[dZ];have hk:k<n:=by omega
  obtain⟨l,q1,q2,q3,q4⟩:=nq L h hk k 0 k (by omega) (ar _) (by omega) (fun a ha=>by omega) (fun a ha KQ=>by omega) s;rw[q1];have Ni:Pn n (bubble p k (k - l)):=(vn.mp (bubble_perm p k (k - l))).trans h;refine zp L f _ (k+1) Ni (by omega) (by omega) fun a b se hb=>?_
  unfold ve;rw[wd h hk q2,wd h hk q2];by_cases zb:b=l
  ·rw[ab zb,ae (by omega),ae (by omega)];exact q3 a (by omega)
  ·rw[ae zb];by_cases za:a=l
   ·rw[ab za,ab (by omega)];exact q4 (b - 1) (by omega) (by omega)
   ·rw[ae za];by_cases z1:l<a/\a<=k
    ·rw[ab z1,ab (by omega)];exact s (a - 1) (b - 1) (by omega) (by omega)
    ·rw[ae z1];by_cases z2:l<b/\b<=k
     ·rw[ab z2];exact s a (b - 1) (by omega) (by omega)
     ·rw[ae z2];exact s a b se (by omega)
theorem we(L:A7 n lt)(h2:2<=n):∃p,cE n lt (kas_sort n)=some p/\Pn n p/\dS lt p n:=by
 unfold kas_sort;rw[dZ];have h:Pn n (List.toArray (List.range n)):=List.Perm.refl _;obtain⟨m,p',q1,q2,q3,q4,q5⟩:=A8 L h h2;rw[q1];show∃p,cE n lt (if m<n then _ else _)=_/\_;by_cases z:m<n
 ·rw[ab z,pW q3];exact zp L (n - m) p' m q2 q3 (by omega) q5
 ·rw[ae z];have:m=n:=by omega
  exact⟨p',rfl,q2,by rw[<-this];exact q5⟩
theorem A9(h:Pn n p)(s:dS lt p n):p.toList.Pairwise fun i j=>lt i j=true:=by
 rw[o4];intro i j hi hj rQ;have uz:i<n:=by rw[bK,h.size]at hi;exact hi
 have wg:j<n:=by rw[bK,h.size]at hj;exact hj
 have e:=s i j rQ wg;unfold ve at e;have e1:=h.getD uz;have e2:=h.getD wg;rw[<-cI,aF hi]at e1;rw[<-cI,aF hj]at e2;rw[Option.some.inj e1,Option.some.inj e2];exact e
end
end L2
namespace L2
open PySem PySem.Spec PyProof.Rows
structure QE(X:Cx)(e:Expr)(F:az->Rs Tr):Prop where
 h:PE X e (tP X F)
structure QT(X:Cx)(e:Expr)(F:az->Rs Bool):Prop where
 h:PT X e (tQ X F)
structure QW(X:Cx)(e:Expr)(F:az->Rs Bool):Prop where
 h:PW X e (tQ X F)
structure QA(X:Cx)(e:List Expr)(F:az->Rs (List Tr)):Prop where
 h:PA X e (yV X F)
structure QS(X:Cx)(e:Stmt)(F:az->Rs Out):Prop where
 h:PS X e (tS X F)
structure QB(X:Cx)(e:List Stmt)(F:az->Rs Out):Prop where
 h:jB X e (tS X F)
structure QG(X:Cx)(e:Expr)(F:kL):Prop where
 h:PG X e (tG X F)
structure Pj(X:Cx)(e:List Expr)(F:List Tr->az->Rs az):Prop where
 h:Ek X e (KD X F)
structure QI(X:Cx)(tg e:Expr)(F:az->Rs (List Tr)):Prop where
 h:PI X tg e (tI X F)
structure QJ(X:Cx)(tg e:Expr)(F:az->Rs (List Tr)):Prop where
 h:PI X tg e (tJ X F)
structure QF(X:Cx)(e:List Expr)(F:az->Rs Bool):Prop where
 h:PF X e (tQ X F)
structure ZE(X:Cx)(e:Expr)(F:az->Ab->Rz Tr):Prop where
 h:PE X e (tE X F)
structure ZO(X:Cx)(e:Expr)(F:az->Ab->Rz Tr):Prop where
 h:PE X e (tE X F)
theorem Fv{X:Cx}{e:Expr}{F:az->Ab->Rz Tr}(h:ZE X e F):ZO X e F:=⟨h.h⟩
structure NE(X:Cx)(e:Expr)(F:az->Rs Tr):Prop where
 h:PE X e (tF X F)
structure ZT(X:Cx)(e:Expr)(F:az->Ab->Rz Bool):Prop where
 h:PT X e (Ed X F)
structure ZL(X:Cx)(e:List Expr)(F:az->Ab->Rz (List Tr)):Prop where
 h:PA X e (Fl X F)
structure ZS(X:Cx)(e:Stmt)(F:az->Ab->Rz Out):Prop where
 h:PS X e (tZ X F)
structure ZB(X:Cx)(e:List Stmt)(F:az->Ab->Rz Out):Prop where
 h:jB X e (tZ X F)
structure A_(X:Cx)(scope:Scope)(N':List Str)(tg elt:Expr)(ifs:List Expr)(T:kL)(A:az->Rs Bool)(F:az->Rs Tr):Prop where
 all:∀s H ex,QG (kY X scope N' s H ex) tg T/\QF (kY X scope N' s H ex) ifs A/\QE (kY X scope N' s H ex) elt F
theorem A_.to {X:Cx}{scope:Scope}{N':List Str}{tg elt:Expr}{ifs:List Expr}{T:kL}{A:az->Rs Bool}{F:az->Rs Tr}(b:A_ X scope N' tg elt ifs T A F):IG X scope N' tg elt ifs T A F:=
 ⟨fun s H ex=>⟨(b.all s H ex).1.h,(b.all s H ex).2.1.h,(b.all s H ex).2.2.h⟩⟩
section
variable {X:Cx}{a b c:Expr}{pos:Pos}{F G E:az->Rs Tr}
theorem aj(i:Nat){x:Str}{pos:Pos}(hN:X.N[i]?=some x:=by rfl) (hv:Hn X.env.scope x:=by first|exact Or.inl rfl|exact Or.inr (Or.inl rfl)|exact Or.inr (Or.inr rfl)) (hd:(x==("__debug__":Str))=false:=by decide) (n6:(x==("__classdict__":Str))=false:=by decide):QE X (.Name x pos) (fun ρ=>ay ρ i):=⟨L8 i hN hv hd n6⟩
theorem bD{i:Int}{j pos}:QE X (.Constant (.int i) j pos) (fun _=>.ok (.int i)):=⟨L9⟩
theorem yd{b:Bool}{j pos}:QE X (.Constant (.bool b) j pos) (fun _=>.ok (.bl b)):=⟨Q7⟩
theorem GK{j pos}:QE X (.Constant .none j pos) (fun _=>.ok .cg):=⟨L_⟩
theorem wj{x:Str}{n:String}(hm:X.mg x=none)(hv:bootBuiltins x=some (.type n):=by rfl) (hg:Gl X x:=by rfl) (hn:x≠"__name__":=by decide) (hd:(x==("__debug__":Str))=false:=by decide):QE X (.Name x pos) (fun _=>.ok (.ty n)):=⟨Q8 hm hv hg hn hd⟩
theorem dI{op:Operator}{h:Tr->Tr->Rs Tr}(ho:xm X (binaryOp op) h)(ha:QE X a F)(hb:QE X b G):QE X (.BinOp a op b pos) (fun ρ=>cq h (F ρ) (G ρ)):=⟨Ma ho ha.h hb.h⟩
theorem C2{op:CmpOp}{h:Tr->Tr->Rs Tr}(ho:xm X (compareOp op) h)(ha:QE X a F)(hb:QE X b G)(hm:behindInMarks op b=false:=by first|exact uf _|rfl|with_unfolding_all rfl):QE X (.Compare a [op] [b] pos) (fun ρ=>cq h (F ρ) (G ρ)):=⟨Mb ho ha.h hb.h hm⟩
theorem fU{op:CmpOp}{h:Tr->Tr->Rs Tr}(ho:xm X (compareOp op) h)(ha:QE X a F)(hb:QE X b G)(hm:behindInMarks op b=false:=by first|exact uf _|rfl|with_unfolding_all rfl):QT X (.Compare a [op] [b] pos) (fun ρ=>gk (cq h (F ρ) (G ρ))):=⟨Mc ho ha.h hb.h hm⟩
theorem sX(ha:QE X a F)(he:iB a=true:=by rfl):QT X a (fun ρ=>(F ρ).bind m5):=⟨Md ha.h he⟩
end
section
variable {X:Cx}{a b c:Expr}{pos:Pos}{F G E:az->Rs Tr}{A B:az->Rs Bool}{rest:List Expr}
theorem Nj(ha:QT X a A):QT X (.UnaryOp .Not a pos) (fun ρ=>Me (A ρ)):=⟨Mf ha.h⟩
theorem Jj(ha:QT X a A):QW X (.BoolOp .And [a] pos) A:=⟨Ir ha.h⟩
theorem GL(ha:QT X a A):QW X (.BoolOp .Or [a] pos) A:=⟨Mg ha.h⟩
theorem Nk(ha:QT X a A)(hb:QW X (.BoolOp .And (b::rest) pos) B):QW X (.BoolOp .And (a::b::rest) pos) (fun ρ=>EO (A ρ) (B ρ)):=⟨w_and ha.h hb.h⟩
theorem Nl(ha:QT X a A)(hb:QW X (.BoolOp .Or (b::rest) pos) B):QW X (.BoolOp .Or (a::b::rest) pos) (fun ρ=>O4 (A ρ) (B ρ)):=⟨w_or ha.h hb.h⟩
theorem ye{op}{es:List Expr}(h:QW X (.BoolOp op es pos) A):QT X (.BoolOp op es pos) A:=⟨Iu h.h⟩
theorem C3(ha:QE X a F)(hb:QE X (.BoolOp .And (b::rest) pos) G):QE X (.BoolOp .And (a::b::rest) pos) (fun ρ=>Iv (F ρ) (G ρ)):=⟨Mh ha.h hb.h⟩
theorem GN{op}(h:QE X a F):QE X (.BoolOp op [a] pos) F:=⟨Mi h.h⟩
end
section
variable {X:Cx}{a b c:Expr}{pos:Pos}{F G E:az->Rs Tr}{A B:az->Rs Bool}{rest:List Expr}{es:List Expr}{L:az->Rs (List Tr)}
theorem aR:QA X [] (fun _=>.ok []):=⟨Gn⟩
theorem ak(ha:QE X a F)(hr:QA X es L)(hs:isStar a=false:=by rfl):QA X (a::es) (fun ρ=>ag (F ρ) (L ρ)):=⟨Cm ha.h hr.h hs⟩
theorem mr{x1}(h:QA X es L):QE X (.Tuple es x1 pos) (fun ρ=>iW (L ρ)):=⟨Mj h.h⟩
theorem cu{id:String}{x:Str}{p:Pos}{e:Expr}{h:List Tr->Rs Tr}(hc:iC X (.builtin id) h)(hm:X.mg x=none)(ha:QA X (e::es) L)(hv:bootBuiltins x=some (.builtin id):=by rfl) (hg:Gl X x:=by rfl) (hn:x≠"__name__":=by decide) (iT:(x==("__debug__":Str))=false:=by decide) (cZ:ba (e::es)=true:=by rfl):QE X (.Call (.Name x p) (e::es) [] pos) (fun ρ=>aI h (L ρ)):=⟨ER hc hm ha.h hv hg hn iT cZ⟩
theorem eU{T:String}{x:Str}{p:Pos}{e:Expr}{h:List Tr->Rs Tr}(hc:iC X (.type T) h)(hm:X.mg x=none)(ha:QA X (e::es) L)(hv:bootBuiltins x=some (.type T):=by rfl) (hg:Gl X x:=by rfl) (hn:x≠"__name__":=by decide) (iT:(x==("__debug__":Str))=false:=by decide) (cZ:ba (e::es)=true:=by rfl):QE X (.Call (.Name x p) (e::es) [] pos) (fun ρ=>aI h (L ρ)):=⟨Cn hc hm ha.h hv hg hn iT cZ⟩
theorem Nm{x:Str}{st:Stmt}{ps:List Str}{f:Addr}{fd:FuncData}{k:Nat}{h:List Tr->Rs Tr}{e:Expr}{p:Pos}(D:sG X.K X.mg x st ps f fd)(G:fQ X.prog X.w X.K X.mg X.base kX k f fd ps (spT X.K h))(hr:de k X.A)(ha:QA X (e::es) L)(hg:Gl X x:=by rfl) (iT:(x==("__debug__":Str))=false:=by decide) (cZ:ba (e::es)=true:=by rfl):QE X (.Call (.Name x p) (e::es) [] pos) (fun ρ=>aI h (L ρ)):=⟨Ml D G hr ha.h hg iT cZ⟩
end
section
variable {X:Cx}{a b c e:Expr}{pos:Pos}{F:az->Rs Tr}{G G':az->Rs Out}{A:az->Rs Bool}{st:Stmt}{rest Mm:List Stmt}
theorem wk:QB X [] (fun ρ=>.ok (.nx ρ)):=⟨Mn⟩
theorem nr(h1:QS X st G)(h2:QB X rest G'):QB X (st::rest) (fun ρ=>vM (G ρ) G'):=⟨Iw h1.h h2.h⟩
theorem mw(h1:QS X st G):QB X [st] G:=⟨Mo h1.h⟩
theorem Nn{i:Nat}{x:Str}{pos':Pos}(he:QE X e F)(hN:X.N.Nodup:=by assumption) (hi:X.N[i]?=some x:=by rfl) (hx:Loc X.env.scope x:=by first|exact Or.inl rfl|exact Or.inr rfl) (hs:kK e=false:=by rfl) (hf:X.fn x=true\/X.env.scope.names.lookup x=some .local:=by first|exact .inl rfl|exact .inr rfl|assumption):QS X (.Assign [.Name x pos'] e pos) (fun ρ=>Iy i (F ρ) ρ):=⟨Mq he.h hN hi hx hs hf⟩
theorem my(he:QE X e F):QS X (.Return (some e) pos) (fun ρ=>oa (F ρ)):=⟨Mr he.h⟩
theorem C4{ys ns:List Stmt}(hc:QT X c A)(ha:QB X ys G)(hb:QB X ns G'):QS X (.If c ys ns pos) (fun ρ=>Ms (A ρ) (G ρ) (G' ρ)):=⟨Q_ hc.h ha.h hb.h⟩
theorem dW(i:Nat){x:Str}(hN:X.N.Nodup:=by assumption) (hi:X.N[i]?=some x:=by rfl) (hx:Loc X.env.scope x:=by first|exact Or.inl rfl|exact Or.inr rfl) (hf:X.fn x=true\/X.env.scope.names.lookup x=some .local:=by first|exact .inl rfl|exact .inr rfl|assumption):QG X (.Name x pos) (gN i):=⟨IA i hN hi hx hf⟩
theorem C5:Pj X [] (xJ []):=⟨Mt⟩
theorem nu{es:List Expr}{i:Nat}{is:List Nat}{x:Str}(h2:Pj X es (xJ is))(hN:X.N.Nodup:=by assumption) (hi:X.N[i]?=some x:=by rfl) (hx:Loc X.env.scope x:=by first|exact Or.inl rfl|exact Or.inr rfl) (hf:X.fn x=true\/X.env.scope.names.lookup x=some .local:=by first|exact .inl rfl|exact .inr rfl|assumption) (hs:(assignEach (.Name x pos::es) X.env).map (·.2)=assign (.Name x pos) X.env::(assignEach es X.env).map (·.2):=by rfl):Pj X (.Name x pos::es) (xJ (i::is)):=⟨IB h2.h hN hi hx hf hs⟩
theorem C6{es:List Expr}{k:Nat}{is:List Nat}(h:Pj X es (xJ is))(hc:X.calm=true:=by rfl) (hn:(assignEach es X.env).length=is.length:=by rfl) (cZ:(assignEach es X.env).findIdx? (·.1)=none:=by rfl):QG X (.Tuple es k pos) (gT is):=⟨Mu h.h hc hn cZ⟩
theorem mz{tg l:Expr}(hl:QE X l F):QI X tg l (fun ρ=>iD (F ρ)):=⟨Mv hl.h⟩
end
section
variable {X:Cx}{a b c e:Expr}{pos:Pos}{F:az->Rs Tr}{G G':az->Rs Out}{A:az->Rs Bool}{st:Stmt}{rest Mm:List Stmt}{L:az->Rs (List Tr)}{tg:Expr}{p:Pos}
theorem qP(hm:X.mg "range"=none)(ha:QA X [a] L)(hg:Gl X "range":=by rfl) (hs:ba [a]=true:=by rfl):QI X tg (.Call (.Name "range" p) [a] [] pos) (fun ρ=>nQ (L ρ)):=⟨Co hm ha.h hg hs⟩
end
section
variable {X:Cx}{a b c e:Expr}{pos:Pos}{F:az->Rs Tr}{G G':az->Rs Out}{A:az->Rs Bool}{st:Stmt}{rest Mm:List Stmt}{L:az->Rs (List Tr)}{tg:Expr}{p:Pos}{scope:Scope}{N':List Str}{ix:List (Option Nat)}{elt iter:Expr}{ifs:List Expr}{T:kL}{W:az->Rs (List Tr)}
theorem zq{X:Cx}:QF X [] (fun _=>.ok true):=⟨My⟩
theorem sY{X:Cx}{c:Expr}{A:az->Rs Bool}(h:QT X c A):QF X [c] A:=⟨Mz h.h⟩
theorem yf(Lk:fR X N' ix scope)(hi:QI X tg iter W)(l_:A_ X scope N' tg elt ifs T A F)(hT:iG T)(hc:X.calm=true:=by rfl) (hs:isSet iter=false:=by rfl):QE X (.ListComp elt [⟨tg,iter,ifs,0⟩] scope pos) (fun ρ=>gX ix T A F (W ρ) ρ):=⟨Rc Lk hi.h l_.to hT hc hs⟩
end
section
variable {X:Cx}{a b e:Expr}{pos:Pos}{F G:az->Rs Tr}
theorem C7(hu:X.A.units+1<cLine)(ha:QE X a F)(hb:QE X b G)(hs:oD b:=by exact fun _ _=>rfl):QE X (.Subscript a b pos) (fun ρ=>cq Ec (F ρ) (G ρ)):=⟨Rh hu ha.h hb.h hs⟩
end
section
variable {X:Cx}{a b e:Expr}{pos p ug:Pos}{L:az->Rs (List Tr)}{es:List Expr}{x1:Nat}
theorem Np(hm:X.mg "zip"=none)(ha:QA X [a,b] L)(hg:Gl X "zip":=by rfl) (hs:ba [a,b]=true:=by rfl):QI X (.Tuple es x1 ug) (.Call (.Name "zip" p) [a,b] [] pos) (fun ρ=>Rm (L ρ)):=⟨MW hm ha.h hg hs⟩
end
section
variable {X:Cx}{pins:List (Addr×Obj)}{σ:St}{a b e:Expr}{es:List Expr}{pos:Pos}{F G:az->Rs Tr}{A:az->Rs Bool}{scope:Scope}{N':List Str}{ix:List (Option Nat)}{elt iter tg:Expr}{ifs:List Expr}{T:kL}{W:az->Rs (List Tr)}
theorem Nq(Lk:fR X N' ix scope)(hi:QJ X tg iter W)(l_:A_ X scope N' tg elt ifs T A F)(hT:iG T)(hc:X.calm=true:=by rfl) (hs:isSet iter=false:=by rfl):QE X (.ListComp elt [⟨tg,iter,ifs,0⟩] scope pos) (fun ρ=>gX ix T A F (W ρ) ρ):=⟨MH Lk hi.h l_.to hT hc hs⟩
end
section
variable {X:Cx}{e:Expr}{es:List Expr}{F:az->Rs Tr}{P:az->Rs Bool}{L:az->Rs (List Tr)}{FZ GZ:az->Ab->Rz Tr}{LZ:az->Ab->Rz (List Tr)}
theorem Vu(h:NE X e F):QE X e F:=⟨Vm h.h⟩
theorem a_(h:QE X e F):ZE X e (fun ρ A=>aq (F ρ) A):=⟨IZ h.h⟩
theorem ke(h:QT X e P):ZT X e (fun ρ A=>aq (P ρ) A):=⟨Fm h.h⟩
theorem yg(h:QE X e F):ZE X e (fun ρ A=>v8 (F (bb A ρ)) A):=⟨I0 h.h⟩
theorem uK(h:QT X e P):ZT X e (fun ρ A=>aq (P (bb A ρ)) A):=⟨Fo h.h⟩
theorem qQ(h:NE X e F):ZE X e (fun ρ A=>ff (F (bb A ρ)) A):=⟨M5 h.h⟩
end
section
variable {X:Cx}{a b c e:Expr}{pos:Pos}{F:az->Ab->Rz Tr}{G G':az->Ab->Rz Out}{P:az->Ab->Rz Bool}{st:Stmt}{rest Mm:List Stmt}
theorem nV:ZB X [] (fun ρ A=>.ok (.nx ρ) A):=⟨M6⟩
theorem bo(h1:ZS X st G)(h2:ZB X rest G'):ZB X (st::rest) (fun ρ A=>bw (G ρ A) G'):=⟨Ja h1.h h2.h⟩
theorem c0(h1:ZS X st G):ZB X [st] G:=⟨M7 h1.h⟩
theorem dJ{i:Nat}{x:Str}{pos':Pos}(he:ZE X e F)(hN:X.N.Nodup:=by assumption) (hi:X.N[i]?=some x:=by rfl) (hx:Loc X.env.scope x:=by first|exact Or.inl rfl|exact Or.inr rfl) (hs:kK e=false:=by rfl) (hf:X.fn x=true\/X.env.scope.names.lookup x=some .local:=by first|exact .inl rfl|exact .inr rfl|assumption):ZS X (.Assign [.Name x pos'] e pos) (fun ρ A=>cy i (F ρ A) ρ):=⟨M8 he.h hN hi hx hs hf⟩
theorem jU(he:ZE X e F):ZS X (.Return (some e) pos) (fun ρ A=>kQ (F ρ A)):=⟨M9 he.h⟩
theorem nv(he:ZE X e F)(hs:kK e=false:=by rfl):ZS X (.Expr e pos) (fun ρ A=>fj (F ρ A) ρ):=⟨Jb he.h hs⟩
theorem wm{ys ns:List Stmt}(hc:ZT X c P)(h1:ZB X ys G)(h2:ZB X ns G'):ZS X (.If c ys ns pos) (fun ρ A=>AU (P ρ A) (G ρ) (G' ρ)):=⟨Rr hc.h h1.h h2.h⟩
theorem wo{tg iter:Expr}{body:List Stmt}{W:az->Rs (List Tr)}{T:kL}(hi:QI X tg iter W)(hg:QG X tg T)(hT:iG T)(hb:ZB X body G)(hp:PassesOwn (model X.prog X.w) X.A X.env X.xe:=by first|exact ik|exact ie) (hc:X.calm=true:=by rfl) (hs:isSet iter=false:=by rfl):ZS X (.For tg iter body [] pos) (fun ρ A=>i8 T G (aq (W ρ) A) ρ):=⟨M_ hi.h hg.h hT hb.h hp hc hs⟩
theorem zr(m:Nat){body:List Stmt}(hc:ZT X c P)(hb:ZB X body G)(hp:PassesOwn (model X.prog X.w) X.A X.env X.xe:=by first|exact ik|exact ie):ZS X (.While c body [] pos) (fun ρ A=>eS P G m ρ A):=⟨Fp m hc.h hb.h hp⟩
end
section
variable {X:Cx}{a e o:Expr}{es:List Expr}{F:az->Ab->Rz Tr}{L:az->Ab->Rz (List Tr)}{name:Str}{apos dg:Pos}{id:String}
theorem fy:ZL X [] (fun _ A=>.ok [] A):=⟨CV⟩
theorem c_(h1:ZE X a F)(hr:ZL X es L)(hs:isStar a=false:=by rfl):ZL X (a::es) (fun ρ A=>bX (F ρ A) (L ρ)):=⟨zl h1.h hr.h hs⟩
end
section
variable {X:Cx}{a e o:Expr}{es:List Expr}{F:az->Ab->Rz Tr}{L:az->Ab->Rz (List Tr)}{name:Str}{apos dg:Pos}{id:String}{r:V->List V->Hp->VK->Prop}{h:Nat->List Tr->Ab->Rz Tr}
theorem qR(slot:Slot "list" name id)(LJ:typeOf (.builtin id)=pure (.type "method_descriptor"))(hm:OV X id r)(hz:Pg X r h)(ho:ZO X o F)(ha:ZL X (e::es) L)(pa:PlainAttrs "list":=by exact PySem.F.plainAttrs_list) (ql:isCall o=false:=by rfl) (cZ:ba (e::es)=true:=by rfl) (hn:(e::es).length<30:=by decide) (qm:(apos.endLine==dg.line)=true:=by rfl):ZE X (.Call (.Attribute o name apos) (e::es) [] dg) (fun ρ A=>v_ h (F ρ A) (L ρ)):=⟨M' slot LJ hm hz ho.h ha.h pa ql cZ hn qm⟩
end
section
variable {X:Cx}{a b e:Expr}{es:List Expr}{pos:Pos}{F G:az->Rs Tr}{L:az->Rs (List Tr)}{A:az->Rs Bool}
theorem zt(h:QA X es L):NE X (.List es pos) (fun ρ=>xI (L ρ)):=⟨Na h.h⟩
theorem Jk:NE X (.Dict [] [] pos) (fun _=>.ok (.bf [])):=⟨Je⟩
end
section
variable {X:Cx}{a b e:Expr}{es:List Expr}{pos:Pos}{F G:az->Rs Tr}{L:az->Rs (List Tr)}{A:az->Rs Bool}{scope:Scope}{N':List Str}{ix:List (Option Nat)}{elt iter tg:Expr}{ifs:List Expr}{T:kL}{W:az->Rs (List Tr)}
theorem Fw{i:Nat}{x:Str}{px ma:Pos}(Lk:fR X N' ix scope)(hit:QI X tg iter W)(l_:A_ X scope N' tg elt ifs T A F)(hT:iG T)(hN:X.N.Nodup:=by assumption) (hc:X.calm=true:=by rfl) (hi:X.N[i]?=some x:=by rfl) (hx:Loc X.env.scope x:=by first|exact Or.inl rfl|exact Or.inr rfl) (EI:swapsWith (.ListComp elt [⟨tg,iter,ifs,0⟩] scope pos) (some (.Name x px)) ma.line X.env=pure true:=by rfl) (hs:isSet iter=false:=by rfl) (hf:X.fn x=true\/X.env.scope.names.lookup x=some .local:=by first|exact .inl rfl|exact .inr rfl|assumption):ZS X (.Assign [.Name x px] (.ListComp elt [⟨tg,iter,ifs,0⟩] scope pos) ma) (fun ρ A'=>cy i (ff (gX ix T A F (W (bb A' ρ)) (bb A' ρ)) A') ρ):=⟨Fs Lk hit.h l_.to hT hN hc hi hx EI hs hf⟩
theorem qS{T:String}{x:Str}{p:Pos}{e:Expr}{h:List Tr->Rs Tr}(hc:gE X (.type T) (rF X h))(hm:X.mg x=none)(ha:QA X (e::es) L)(hv:bootBuiltins x=some (.type T):=by rfl) (hg:Gl X x:=by rfl) (hn:x≠"__name__":=by decide) (iT:(x==("__debug__":Str))=false:=by decide) (cZ:ba (e::es)=true:=by rfl):NE X (.Call (.Name x p) (e::es) [] pos) (fun ρ=>aI h (L ρ)):=⟨CY hc hm ha.h hv hg hn iT cZ⟩
end
section
variable {X:Cx}{o e:Expr}{es:List Expr}{p pos apos:Pos}{F:az->Ab->Rz Tr}{L:az->Ab->Rz (List Tr)}{h:List Tr->Ab->Rz Tr}{x:Str}{st:Stmt}{ps:List Str}{f:Addr}{fd:FuncData}{k:Nat}
theorem Nr(D:sG X.K X.mg x st ps f fd)(G:fQ X.prog X.w X.K X.mg X.base (oM X.prog X.w) k f fd ps (uG X.K h))(hr:de k X.A)(ha:ZL X (e::es) L)(hx:X.ex=[]:=by rfl) (hg:Gl X x:=by rfl) (iT:(x==("__debug__":Str))=false:=by decide) (cZ:ba (e::es)=true:=by rfl):ZE X (.Call (.Name x p) (e::es) [] pos) (fun ρ A=>(L ρ A).bind h):=⟨Nb D G hr ha.h hx hg iT cZ⟩
end
section
variable {X:Cx}{a b o i e value:Expr}{es:List Expr}{pos pos' p apos dg:Pos}{F G E:az->Ab->Rz Tr}{L:az->Ab->Rz (List Tr)}{h:Tr->Tr->Rs Tr}
theorem C8{T:String}{x:Str}{h:List Tr->Rs Tr}(hc:iC X (.type T) h)(hm:X.mg x=none)(ha:ZL X (e::es) L)(hv:bootBuiltins x=some (.type T):=by rfl) (hg:Gl X x:=by rfl) (hn:x≠"__name__":=by decide) (iT:(x==("__debug__":Str))=false:=by decide) (cZ:ba (e::es)=true:=by rfl):ZE X (.Call (.Name x p) (e::es) [] pos) (fun ρ A=>wa h (L ρ A)):=⟨C0 hc hm ha.h hv hg hn iT cZ⟩
end
section
variable {X:Cx}{a b e:Expr}{es:List Expr}{pos:Pos}{F G:az->Rs Tr}{L:az->Rs (List Tr)}{A:az->Rs Bool}{scope:Scope}{N':List Str}{ix:List (Option Nat)}{elt iter tg:Expr}{ifs:List Expr}{T:kL}{W:az->Rs (List Tr)}
theorem C9{i:Nat}{x:Str}{px ma:Pos}(Lk:fR X N' ix scope)(hit:QJ X tg iter W)(l_:A_ X scope N' tg elt ifs T A F)(hT:iG T)(hN:X.N.Nodup:=by assumption) (hc:X.calm=true:=by rfl) (hi:X.N[i]?=some x:=by rfl) (hx:Loc X.env.scope x:=by first|exact Or.inl rfl|exact Or.inr rfl) (EI:swapsWith (.ListComp elt [⟨tg,iter,ifs,0⟩] scope pos) (some (.Name x px)) ma.line X.env=pure true:=by rfl) (hs:isSet iter=false:=by rfl) (hf:X.fn x=true\/X.env.scope.names.lookup x=some .local:=by first|exact .inl rfl|exact .inr rfl|assumption):ZS X (.Assign [.Name x px] (.ListComp elt [⟨tg,iter,ifs,0⟩] scope pos) ma) (fun ρ A'=>cy i (ff (gX ix T A F (W (bb A' ρ)) (bb A' ρ)) A') ρ):=⟨C1 Lk hit.h l_.to hT hN hc hi hx EI hs hf⟩
end
section
variable {X:Cx}{a b e:Expr}{es:List Expr}{pos:Pos}{F:az->Ab->Rz Tr}{P:az->Ab->Rz Bool}{c n:Str}{tp hp:Pos}{xs:List Str}{i:Nat}{body GH:List Stmt}{Nf:Stmt}{G G2:az->Ab->Rz Out}
theorem Jl(h:ZE X a F)(he:iB a=true:=by rfl):ZT X a (fun ρ A=>ya (F ρ A)):=⟨Jg h.h he⟩
theorem Jm(h:ZT X a P):ZT X (.UnaryOp .Not a pos) (fun ρ A=>yb (P ρ A)):=⟨eq_not h.h⟩
end
theorem r9.Vv {P:Program}{w:World}{K:PySem.W.Frag}{mg:Str->Option Value}{base:Heap}{x qual:Str}{st:Stmt}{f:Addr}{fd:FuncData}{N ps:List Str}{k:Nat}{h:List Tr->Rs Tr}(Fn:r9 K x qual st f fd)(S:dD N ps (aD st))(len:∀ts t,h ts=.ok t->ts.length=ps.length)
  (gG:∀(cO:Value) (A:Around) (outer:List Env) (s:Shared) (H:Hp) (E:XK),de k (A.deeper (envOfC qual (aD st) s.heap.objs.size f cO))->
   ∃G,QB (jb kX P w K mg base N qual (aD st) f cO A outer s H E).Bz (cP st) G/\∀ts t,h ts=.ok t->i4 (G (startT N.length ts))=.ok t):fQ P w K mg base kX (k+1) f fd ps (spT K h):=
 Fn.U1 S len fun cO A outer s H E hr=>let⟨G,h,q⟩:=gG cO A outer s H E hr;⟨G,h.h,q⟩
theorem r9.Rv {P:Program}{w:World}{K:PySem.W.Frag}{mg:Str->Option Value}{base:Heap}{x qual:Str}{st:Stmt}{f:Addr}{fd:FuncData}{N ps:List Str}{k:Nat}{h:List Tr->Rs Tr}(Fn:r9 K x qual st f fd)(S:dD N ps (aD st))(len:∀ts t,h ts=.ok t->ts.length=ps.length)
  (gG:∀(cO:Value) (A:Around) (outer:List Env) (s:Shared) (H:Hp) (E:XK),de k (A.deeper (envOfC qual (aD st) s.heap.objs.size f cO))->
   ∃G,ZB (jb kX P w K mg base N qual (aD st) f cO A outer s H E).Bz (cP st) G/\∀ts t,h ts=.ok t->cD ts=true/\fk (G (startT N.length ts) [])=.ok t):fQ P w K mg base kX (k+1) f fd ps (spT K h):=
 Fn.Vq S len fun cO A outer s H E hr=>let⟨G,h,q⟩:=gG cO A outer s H E hr;⟨G,h.h,q⟩
theorem r9.Rw {P:Program}{w:World}{K:PySem.W.Frag}{mg:Str->Option Value}{base:Heap}{x qual:Str}{st:Stmt}{f:Addr}{fd:FuncData}{N ps:List Str}{k:Nat}{h:List Tr->Ab->Rz Tr}(Fn:r9 K x qual st f fd)(S:dD N ps (aD st))(len:∀ts A,h ts A≠ .bad->ts.length=ps.length)
  (gG:∀(cO:Value) (A:Around) (outer:List Env) (s:Shared) (H:Hp) (E:XK),de k (A.deeper (envOfC qual (aD st) s.heap.objs.size f cO))->
   ∃G,ZB (jb (oM P w) P w K mg base N qual (aD st) f cO A outer s H E) (cP st) G/\∀ts A,h ts A≠ .bad->h ts A=g0 (G (startT N.length ts) A)):fQ P w K mg base (oM P w) (k+1) f fd ps (uG K h):=
 Fn.oN S len fun cO A outer s H E hr=>let⟨G,h,q⟩:=gG cO A outer s H E hr;⟨G,h.h,q⟩
end L2
namespace L2
open PySem PySem.Spec PyProof.Rows
def zu:List Tr->Option (List Key)
 |[]=>some []
 |t::ts=>match E6 t,zu ts with
  |some k,some ks=>some (k::ks)
  |_,_=>none
def mB:Tr->Option (List Key)
 |.tup ts=>zu ts
 |_=>none
def hU(aC:List (List Key×Tr))(k:List Key):Option Tr:=(aC.find? fun kv=>decide (kv.1=k)).map (·.2)
section
variable {K:PySem.W.Frag}
theorem sZ{H:Vw}:∀{ts:List Tr} {vs:List V} {ks:List Key},aJ K H vs ts->zu ts=some ks->vs=ks.map kV
 |[],_,_,r,e=>by cases e;cases r;rfl
 |t::ts,_,ks,r,e=>by
  cases r with
  |cons h r=>
   unfold zu at e;split at e
   ·rename_i e1 e2;cases e;rw[y6 h e1,sZ r e2];rfl
   ·cases e
theorem jV{B:bQ}{H:Hp}{v:V}{t:Tr}{ks:List Key}(r:Rep K (aN B H) v t)(e:mB t=some ks):∃b,v=.ref b/\H b=some (.tup (ks.map kV)):=by
 unfold mB at e;split at e
 ·obtain⟨a,vs,rfl,h,rr⟩:=r.iV;have:=sZ rr e;subst this;exact⟨a,rfl,aE _ _ h⟩
 ·cases e
theorem qT{H:Vw}(k:List Key):∀{av:List (List Key×V)} {aC:List (List Key×Tr)},av.map (·.1)=aC.map (·.1)->aJ K H (av.map (·.2)) (aC.map (·.2))->(hU aC k=none/\kn av k=none)\/∃t v,hU aC k=some t/\kn av k=some v/\Rep K H v t
 |[],[],_,_=>.inl ⟨rfl,rfl⟩
 |[],_::_,e,_=>by cases e
 |_::_,[],e,_=>by cases e
 |(k1,v1)::av,(k2,t2)::aC,e,r=>by
  rw[aA,aA]at e;injection e with e1 e2
  have Eb:k1=k2:=e1;subst Eb;cases r with
  |cons h r=>
   by_cases q:k1=k
   ·refine .inr ⟨t2,v1,?_,jD q,h⟩;unfold hU;rw[dz,bA (show(k1,t2).1=k from q)]
    rfl
   ·rw[jE q];have e3:hU ((k1,t2)::aC) k=hU aC k:=by
     unfold hU;rw[dz,aY (show¬(k1,t2).1=k from q)]
    rw[e3];exact qT k e2 r
theorem Rep.oO {H:Vw}{v:V}{aC:List (List Key×Tr)}(h:Rep K H v (.bf aC)):∃a av,v=.ref a/\Rd H.H a (.dT av)/\av.map (·.1)=aC.map (·.1)/\aJ K H (av.map (·.2)) (aC.map (·.2)):=by
 cases h;exact⟨_,_,rfl,by assumption,by assumption,by assumption⟩
theorem C_{B:bQ}{H:Hp}{x y:V}{ty:Tr}{aC:List (List Key×Tr)}{k:List Key}(r:Rep K (aN B H) x (.bf aC))(r2:Rep K (aN B H) y ty)(ek:mB ty=some k):
  ∃a o,x=.ref a/\mX H a y o/\((hU aC k=none/\o=none)\/∃t v,hU aC k=some t/\o=some v/\Rep K (aN B H) v t):=by
 obtain⟨a,av,rfl,h,e,rr⟩:=r.oO;obtain⟨b,rfl,hb⟩:=jV r2 ek;refine⟨a,_,rfl,.inr ⟨av,k,b,h.same aE,rfl,hb,rfl⟩,?_⟩;rcases qT k e rr with⟨h1,h2⟩|⟨t,v,h1,h2,h3⟩
 ·exact .inl ⟨h1,h2⟩
 ·exact .inr ⟨t,v,h1,h2,h3⟩
end
section
variable {X:Cx}{a b:Expr}{pos:Pos}{F G:az->Rs Tr}
def vf:Tr->Tr->Rs Tr
 |.bf aC,t=>(Aw (mB t)).bind fun k=>Aw (hU aC k)
 |_,_=>.bad
theorem Nt(hu:X.A.units+1<cLine):Kz X (rT X vf):=by
 intro value slice pins s σ H x y v u Q I rx ry ⟨B,tx,ty,hb,r1,r2,q⟩ hs;unfold vf at q;split at q
 ·obtain⟨k,ek,qk⟩:=fF (Fi.bind q);obtain⟨t,et,qt⟩:=fF qk;obtain⟨a,o,rfl,g,ho⟩:=C_ r1 r2 ek;rcases ho with⟨h1,_⟩|⟨t',w,h1,rfl,kh⟩
  ·cases et.symm.trans h1
  ·cases et.symm.trans h1;cases(show v=Value.ref a from rx);exact tail_any (nN I g) oZ.lookup (mY hu I g ry fun w' s' I' rv=>⟨w,H,I',rv,qt w H (au.refl H) kh⟩) hs
 ·exact(show False from q).elim
theorem s_(hu:X.A.units+1<cLine)(ha:QE X a F)(hb:QE X b G)(hs:oD b:=by exact fun _ _=>rfl):QE X (.Subscript a b pos) (fun ρ=>cq vf (F ρ) (G ρ)):=
 ⟨(Gh (Nt hu) ha.h hb.h hs).weak fun _ _ _ q=>jJ q⟩
def Ee:Tr->Tr->Rs Tr
 |x,.bf aC=>(Aw (mB x)).bind fun k=>.ok (.bl (hU aC k).isSome)
 |_,_=>.bad
theorem GO(hu:X.A.units+1<cLine):xm X (compareOp .In) Ee:=by
 intro pins s σ H x y v u Q I rx ry ⟨B,tx,ty,hb,r1,r2,q⟩;unfold Ee at q;split at q
 ·obtain⟨k,ek,qk⟩:=fF (Fi.bind q);obtain⟨a,o,rfl,g,ho⟩:=C_ r2 r1 ek;cases(show u=Value.ref a from ry);refine QV hu I g rx fun s' I'=>⟨.bl _,H,I',rfl,?_⟩;rcases ho with⟨h1,rfl⟩|⟨t',w,h1,rfl,_⟩<;>rw[h1]at qk<;>exact qk _ H (au.refl H) (.bl _)
 ·exact(show False from q).elim
end
end L2
namespace L2
open PySem PySem.Spec PyProof.Rows
def jW(aC:List (List Key×Tr))(k:List Key)(t:Tr):List (List Key×Tr):=
 if(aC.any fun kv=>decide (kv.1=k))=true then aC.map (fun kv=>if kv.1=k then(kv.1,t)else kv)else aC++[(k,t)]
def jX(aC more:List (List Key×Tr)):List (List Key×Tr):=more.foldl (fun acc kv=>jW acc kv.1 kv.2) aC
structure cV(K:PySem.W.Frag)(H:Vw)(av:List (List Key×V))(aC:List (List Key×Tr)):Prop where
 keys:av.map (·.1)=aC.map (·.1)
 vals:aJ K H (av.map (·.2)) (aC.map (·.2))
section
variable {K:PySem.W.Frag}{H H':Vw}
theorem cV.nil:cV K H [] []:=⟨rfl,.nil⟩
theorem cV.cons {k:List Key}{v:V}{t:Tr}{av:List (List Key×V)}{aC:List (List Key×Tr)}(r:Rep K H v t)(h:cV K H av aC):cV K H ((k,v)::av) ((k,t)::aC):=⟨by rw[aA,aA,h.keys],.cons r h.vals⟩
theorem cV.inv {k:List Key}{v:V}{av:List (List Key×V)}{aC:List (List Key×Tr)}(h:cV K H ((k,v)::av) aC):∃t r,aC=(k,t)::r/\Rep K H v t/\cV K H av r:=by
 obtain⟨e,r⟩:=h
 match aC,e,r with
 |(k2,t)::rest,e,r=>
  rw[aA,aA]at e;injection e with e1 e2
  have Eb:k=k2:=e1;subst Eb;cases r with
  |cons h1 h2=>exact⟨t,rest,rfl,h1,e2,h2⟩
theorem cV.any (k:List Key):∀{av:List (List Key×V)} {aC:List (List Key×Tr)},cV K H av aC->(av.any fun kv=>decide (kv.1=k))=aC.any fun kv=>decide (kv.1=k)
 |[],aC,h=>by
  have e:=h.keys;cases aC with
  |nil=>rfl
  |cons a b=>cases e
 |(j,v)::av,aC,h=>by
  obtain⟨t,r,rfl,_,h2⟩:=h.inv;rw[gw,gw,cV.any k h2]
theorem cV.map (k:List Key){y:V}{u:Tr}(ry:Rep K H y u):∀{av:List (List Key×V)} {aC:List (List Key×Tr)},cV K H av aC->cV K H (av.map fun kv=>if kv.1=k then(kv.1,y)else kv) (aC.map fun kv=>if kv.1=k then(kv.1,u)else kv)
 |[],aC,h=>by
  have e:=h.keys;cases aC with
  |nil=>exact .nil
  |cons a b=>cases e
 |(j,v)::av,aC,h=>by
  obtain⟨t,r,rfl,h1,h2⟩:=h.inv;rw[aA,aA];by_cases e:j=k
  ·rw[ab (show(j,v).1=k from e),ab (show(j,t).1=k from e)];exact .cons ry (cV.map k ry h2)
  ·rw[ae (show¬(j,v).1=k from e),ae (show¬(j,t).1=k from e)];exact .cons h1 (cV.map k ry h2)
theorem cV.snoc (k:List Key){y:V}{u:Tr}(ry:Rep K H y u):∀{av:List (List Key×V)} {aC:List (List Key×Tr)},cV K H av aC->cV K H (av++[(k,y)]) (aC++[(k,u)])
 |[],aC,h=>by
  have e:=h.keys;cases aC with
  |nil=>exact .cons ry .nil
  |cons a b=>cases e
 |(j,v)::av,aC,h=>by
  obtain⟨t,r,rfl,h1,h2⟩:=h.inv;exact .cons h1 (cV.snoc k ry h2)
theorem cV.put (k:List Key){y:V}{u:Tr}(ry:Rep K H y u){av:List (List Key×V)}{aC:List (List Key×Tr)}(h:cV K H av aC):cV K H (putK av k y) (jW aC k u):=by
 unfold putK jW;rw[h.any k];by_cases e:(aC.any fun kv=>decide (kv.1=k))=true
 ·rw[ab e,ab e];exact h.map k ry
 ·rw[ae e,ae e];exact h.snoc k ry
theorem cV.length {av:List (List Key×V)}{aC:List (List Key×Tr)}(h:cV K H av aC):av.length=aC.length:=by
 have e:=bB List.length h.keys;rw[ai,ai]at e;exact e
end
def nW(A:Ab)(t tk tv:Tr):Option Ab:=match t,mB tk with
 |.at i,some k=>match A[i]? with
  |some (.bf aC)=>if aC.length<i3 then some (A.set i (.bf (jW aC k tv)))else none
  |_=>none
 |_,_=>none
def GP(v:Rz Tr)(o k:Ab->Rz Tr)(ρ:az):Rz Out:=v.bind fun tv A=>(o A).bind fun t A=>(k A).bind fun tk A=>match nW A t tk tv with
 |some A'=>.ok (.nx ρ) A'
 |none=>.bad
theorem qU{A A':Ab}{t tk tv:Tr}(e:nW A t tk tv=some A'):∃j aC key,t=.at j/\mB tk=some key/\A[j]?=some (.bf aC)/\aC.length<i3/\A'=A.set j (.bf (jW aC key tv)):=by
 unfold nW at e;split at e
 ·rename_i ek;split at e
  ·rename_i eo;split at e
   ·rename_i hl;cases e;exact⟨_,_,_,rfl,ek,eo,hl,rfl⟩
   ·cases e
  ·cases e
 ·cases e
section
variable {X:Cx}{o i value:Expr}{pos pos':Pos}{F G E:az->Ab->Rz Tr}
theorem Fx(hu:X.A.units+1<cLine)(ho:ZO X o F)(hi:ZE X i G)(hv:ZE X value E):
  ZS X (.Assign [.Subscript o i pos'] value pos) (fun ρ A=>GP (E ρ A) (F ρ) (G ρ) ρ):=
 ⟨(EB hu ho.h hi.h hv.h A5).weak fun D σ H ⟨B0,H0,B,A,ρ,hb,g,ha,r,n,q⟩=>i7 hb g ha r n q.bind fun tv A1 v B1 H1 q1 g1 jT r1 rv _=>i7 hb g1 jT r1 n (dH.bind q1) fun t A2 w B2 H2 q2 g2 CU r2 kh Rx=>i7 hb g2 CU r2 n (dH.bind q2) fun tk A3 y B3 H3 q3 g3 AV r3 ry Nu=>by
   have Vx:=kh.same Nu.fY;have Vy:=(rv.same Rx.fY).same Nu.fY;split at q3
   ·rename_i ed;obtain⟨j,aC,key,rfl,ek,eo,hl,rfl⟩:=qU ed;obtain⟨c,rfl,sU⟩:=Vx.uu;obtain⟨hd,av,h1,h2,h3⟩:=AV.get sU eo;have h2:cV X.K (aN B3 H3) av aC:=⟨h2,h3⟩;obtain⟨b,rfl,eb⟩:=jV ry ek;have hp:=h2.put key Vy;obtain⟨g4,h6⟩:=AV.write (o:=.bf (jW aC key tv)) (u:=.dT (putK av key v)) sU ⟨hd,_,aH,hp.keys,by rw[kc hd];exact hp.vals⟩;exact⟨c,_,rfl,uj.t h1 eb (by rw[h2.length,<-g_];exact hl),q3 σ B3 _ (g3.trans hb g4) h6 (r3.grow n g4) n⟩
   ·exact q3.elim⟩
end
end L2
namespace L2
open PySem PySem.Spec PyProof.Rows
def C'(A:Ab)(t tk:Tr):Option Int:=match t,mB tk with
 |.at i,some k=>match A[i]? with
  |some (.bf aC)=>match hU aC k with
   |some (.int n)=>some n
   |_=>none
  |_=>none
 |_,_=>none
theorem Ba{A:Ab}{t tk:Tr}{n:Int}(e:C' A t tk=some n):∃j aC key,t=.at j/\mB tk=some key/\A[j]?=some (.bf aC)/\hU aC key=some (.int n):=by
 unfold C' at e;split at e
 ·rename_i ek;split at e
  ·rename_i eo;split at e
   ·rename_i ev;cases e;exact⟨_,_,_,rfl,ek,eo,ev⟩
   ·cases e
  ·cases e
 ·cases e
def Dc(o k v:Ab->Rz Tr)(ρ:az)(A:Ab):Rz Out:=(o A).bind fun t A=>(k A).bind fun tk A=>match C' A t tk with
 |some n=>(v A).bind fun tv A=>match tv with
  |.int c=>match nW A t tk (.int (n - c))with
   |some A'=>.ok (.nx ρ) A'
   |none=>.bad
  |_=>.bad
 |none=>.bad
section
variable {X:Cx}{o i value:Expr}{pos pos':Pos}{F G E:az->Ab->Rz Tr}
theorem Fy(hu:X.A.units+1<cLine)(ho:ZO X o F)(hi:ZE X i G)(hv:ZE X value E)(ha:∀ov iv new,augStore i ov iv new=(do holding [new,ov,iv] (setItem ov iv new);release [new,ov,iv] [];pure .next):=by intros;rfl):
  ZS X (.AugAssign (.Subscript o i pos') .Sub value pos) (fun ρ A=>Dc (F ρ) (G ρ) (E ρ) ρ A):=
 ⟨(EC hu ho.h hi.h hv.h HJ ha).weak fun D σ H ⟨B0,H0,B,A,ρ,hb,g,ha,r,n,q⟩=>i7 hb g ha r n q.bind fun t A1 w B1 H1 q1 g1 jT r1 kh _=>i7 hb g1 jT r1 n (dH.bind q1) fun tk A2 y B2 H2 q2 g2 CU r2 ry Rx=>by
   have Vz:=kh.same Rx.fY;split at q2
   ·rename_i m em;obtain⟨j,aC,key,rfl,ek,eo,ev⟩:=Ba em;obtain⟨c,rfl,sU⟩:=Vz.uu;obtain⟨hd,av,h1,h2,h3⟩:=CU.get sU eo;obtain⟨b,rfl,eb⟩:=jV ry ek;rcases qT key h2 h3 with⟨z1,_⟩|⟨t',v,z1,z2,rv⟩
    ·cases ev.symm.trans z1
    ·cases ev.symm.trans z1;cases rv.int_inv;refine⟨c,_,rfl,by have:=mX.t h1 eb;rw[z2]at this;exact this,i7 hb g2 CU r2 n (dH.bind q2) fun tv A3 u B3 H3 q3 g3 AV r3 ru Nu=>?_⟩;split at q3
     ·rename_i cc;refine⟨m,cc,rfl,ru.int_inv,?_⟩;split at q3
      ·rename_i ed;obtain⟨j',Nv,VA,ej,VB,VC,hl,rfl⟩:=qU ed;cases ej;cases ek.symm.trans VB;have Nw:=Nu.fY.x _ _ sU;obtain⟨Tu,Nx,f1,f2,f3⟩:=AV.get Nw VC;have f2:cV X.K (aN B3 H3) Nx Nv:=⟨f2,f3⟩;have hp:=f2.put key (.int (m - cc));obtain⟨b',VD,VE⟩:=jV (ry.same Nu.fY) ek;cases VD;obtain⟨g4,h6⟩:=AV.write (o:=.bf (jW Nv key (.int (m - cc)))) (u:=.dT (putK Nx key (.int (m - cc)))) Nw ⟨Tu,_,aH,hp.keys,by rw[kc Tu];exact hp.vals⟩;exact⟨_,uj.t f1 VE (by rw[f2.length,<-g_];exact hl),q3 σ B3 _ (g3.trans hb g4) h6 (r3.grow n g4) n⟩
      ·exact q3.elim
     ·exact q3.elim
   ·exact q2.elim⟩
end
end L2
namespace L2
open PySem PySem.Spec PyProof.Rows
def Jn(i:Nat)(r:Ab->Rz Tr)(ρ:az)(A:Ab):Rz Out:=match ay ρ i with
 |.ok (.int n)=>(r A).bind fun t A=>match t with
  |.int c=>.ok (.nx (ρ.set i (.sh (.int (n+c))))) A
  |_=>.bad
 |_=>.bad
section
variable {X:Cx}{e:Expr}{pos pos':Pos}{F:az->Ab->Rz Tr}
theorem Jo(i:Nat){x:Str}(he:ZE X e F)(hN:X.N.Nodup:=by assumption) (hi:X.N[i]?=some x:=by rfl) (hx:Loc X.env.scope x:=by first|exact Or.inl rfl|exact Or.inr rfl) (hf:X.fn x=true\/X.env.scope.names.lookup x=some .local:=by first|exact .inl rfl|exact .inr rfl|assumption):
  ZS X (.AugAssign (.Name x pos') .Add e pos) (fun ρ A=>Jn i (F ρ) ρ A):=
 ⟨(Hw hN hi hx he.h HI hf).weak fun D σ H ⟨B0,H0,B,A,ρ,hb,g,ha,r,n,q⟩=>by
   unfold Jn at q;split at q
   ·rename_i m em;have e1:ρ[i]?=some (.sh (.int m)):=by
     unfold ay at em;split at em
     ·rename_i h;cases em;exact h
     ·cases em
    obtain⟨v,ev,rv⟩:=r.sh i _ e1;cases rv.int_inv;refine⟨_,ev,i7 hb g ha r n q.bind fun t A1 w B1 H1 q1 g1 jT r1 kh _=>?_⟩;split at q1
    ·rename_i c;exact⟨m,c,rfl,kh.int_inv,q1 _ B1 H1 g1 jT (r1.set i (.int (m+c))) (n.set i _)⟩
    ·exact q1.elim
   ·exact q.elim⟩
end
end L2
namespace L2
open PySem PySem.Spec PyProof.Rows
section
variable {prog:Program}{w:World}{A:Around}{E:Value->Shared->Prop}{s:Shared}{d it:Addr}{o:Obj}{es:Array DictEntry}{ep i:Nat}
theorem wq{Q:Value->Shared->Prop}(T:s.TypeIs (.ref d) "dict")(nd:(d==sysModules)=false)(e1:s.heap.get? d=some o)(e2:o.data=.dict es ep)
  (q:Q (.ref s.heap.objs.size) {s with heap:=s.heap.push {cls:=.type "dict_keyiterator",data:=.fields #[.ref d,.int 0 0,.int es.size 0,.int ep 0]}}):wpAny (model prog w) A (pyIter (.ref d)) Q E s:=by
 refine p7 T F.slot_dict_iter (dv F.slot_dict_iter T F.entry_dict_iter ?G (F.args_dict_iter_1 _))
 case G=>
  unfold Builtin.«dict.__iter__»;refine aa ?G2
  case G2=>
   unfold Builtin.Dict.dictSlotNone;refine aa (wpAny_notOrdered_dict T (show wpAny _ _ (pure (Value.ref d)) _ _ s from af ?G3))
   case G3=>
    show wpAny _ _ (Builtin.Dict.showsAll d>>=_) _ _ s;unfold Builtin.Dict.showsAll;rw[ae (fun z=>by rw[nd]at z;cases z)];refine aa (af (aa (p8 e1 e2 (aa (wpAny_dictEpoch e1 e2 (aa (eG (af ⟨_,rfl,"dict_keyiterator",_,⟨_,aT _ rfl,rfl⟩,lg.lookup,?_⟩))))))));simpa[rawInt]using q
theorem wt{Q:Option Value->Shared->Prop}(st:s.heap.IsKeyIter it d i es.size ep)(e1:s.heap.get? d=some o)(e2:o.data=.dict es ep)(hi:i<es.size)
  (q:∀h',h'.IsKeyIter it d (i+1) es.size ep->Heap.SameBut it s.heap h'->Q (some es[i].key) {s with heap:=h'}):wpAny (model prog w) A (pyNext (.ref it)) Q E s:=by
 have T:=st.typeIs;obtain⟨oi,f1,f2,f3⟩:=id st;unfold pyNext;refine aa (gx (gS (name:=Str.ofString "__next__") T lg (dv lg T F.entry_dict_keyiterator_next ?G (F.args_dict_keyiterator_next_1 _))))
 case G=>
  refine aa (af (aa (aa ?G2)))
  case G2=>
   first|refine aa (lp T (af (aa (ip f1 f3 ?G3))))|refine aa (lA T (af (aa (ip f1 f3 ?G3))))
   case G3=>
    simp only[show Builtin.Dict_items.ownsTuple "dict_keyiterator"=false by decide,bV,bC];show wpAny _ _ (if(Value.ref d==Value.none)=true then _ else _) _ _ s;rw[ae (fun z=>by cases z)];refine aa (af (aa (p8 e1 e2 ?G4)))
    case G4=>
     rw[ae (by simp)];refine aa (af (aa (wpAny_dictEpoch e1 e2 ?G5)))
     case G5=>
      rw[ae (by simp)];refine af ?G6
      case G6=>
       have n0:¬((i:Int)<0):=by omega
       simp only[n0,bC,dN,cH hi];have rV:(s.heap.update it (Obj.mapFields (·.setIfInBounds 1 (rawInt ((i:Int)+1))))).IsKeyIter it d (i+1) es.size ep:=
        ⟨_,j8 _ f1 (Obj.isFreed_of_fields (lJ f3 _)),(Obj.cls_mapFields ..).trans f2,by rw[lJ f3];simp[rawInt]⟩
       refine aa ?G7
       case G7=>
        first|refine aa (lp T (af (aa (pF T ?G8))))|refine aa (lA T (af (aa (pF T ?G8))))
        case G8=>
         show wpAny _ _ (setField (.ref it) 1 (rawInt ((i:Int)+1))>>=_) _ _ s;refine aa (js f1 f3 (by simp) (aa (cB (aa (pF (s:={s with heap:=s.heap.update it (Obj.mapFields (·.setIfInBounds 1 (rawInt ((i:Int)+1))))}) rV.typeIs ?G9)))))
         case G9=>
          show wpAny _ _ (pure es[i].key) _ _ _;exact af (af ⟨_,rfl,af (q _ rV (eE ..))⟩)
theorem zw{Q:Option Value->Shared->Prop}(hh:A.handled=none)(st:s.heap.IsKeyIter it d i es.size ep)(e1:s.heap.get? d=some o)(e2:o.data=.dict es ep)(hi:es.size<=i)
  (q:∀h',Heap.ExtBut it s.heap h'->Q none {s with heap:=h'}):wpAny (model prog w) A (pyNext (.ref it)) Q E s:=by
 have T:=st.typeIs;obtain⟨oi,f1,f2,f3⟩:=id st;unfold pyNext;refine aa (gx (gS (name:=Str.ofString "__next__") T lg (dv lg T F.entry_dict_keyiterator_next ?G (F.args_dict_keyiterator_next_1 _))))
 case G=>
  refine aa (af (aa (aa ?G2)))
  case G2=>
   first|refine aa (lp T (af (aa (ip f1 f3 ?G3))))|refine aa (lA T (af (aa (ip f1 f3 ?G3))))
   case G3=>
    simp only[show Builtin.Dict_items.ownsTuple "dict_keyiterator"=false by decide,bV,bC];show wpAny _ _ (if(Value.ref d==Value.none)=true then _ else _) _ _ s;rw[ae (fun z=>by cases z)];refine aa (af (aa (p8 e1 e2 ?G4)))
    case G4=>
     rw[ae (by simp)];refine aa (af (aa (wpAny_dictEpoch e1 e2 ?G5)))
     case G5=>
      rw[ae (by simp)];refine af ?G6
      case G6=>
       have n0:¬((i:Int)<0):=by omega
       simp only[n0,bC,dN,Array.getElem?_eq_none hi];refine aa ?G7
       case G7=>
        first|refine aa (lp T (af ?G8))|refine aa (lA T (af ?G8))
        case G8=>
         show wpAny _ _ (setField (.ref it) 0 .none>>=_) _ _ s;refine aa (js f1 f3 (by simp) (show wpAny _ _ (newExc (.type "StopIteration") []>>=_) _ _ _ from aa ?G9))
         case G9=>
          simp only[newExc,newTuple];refine aa (eG (aa (m:=firstArgMember _ _) (wpAny_of_eq (a:=Value.none) (by first|rfl|(simp only[firstArgMember];rfl)) (eG ?VF (by size_fits)))) (by size_fits))
          case VF=>
           simp only[raiseNew];refine aa (wpAny_handled ?VG)
           case VG=>
            rw[show A.in1.handled=none from hh];refine aa (af (wpAny_throw ?VH))
            case VH=>
             refine aa (jq (T:="StopIteration") (b:=true) ⟨_,aT _ rfl,rfl⟩ lW (af (q _ (((eE ..).extBut.push _).push _))))
end
end L2
namespace L2
open PySem PySem.Spec PyProof.Rows
def Ry(a:Addr)(o:Obj)(av:List (List Key×V)):It:=
 ⟨fun i H=>H a=some (.fP o (.dT av))/\i<av.length,fun i H x H'=>H'=H/\∃k v b,av[i]?=some (k,v)/\x=.ref b/\H b=some (.tup (k.map kV)),fun i H=>H a=some (.fP o (.dT av))/\av.length<=i⟩
theorem yh{H:Hp}:∀{av:List (List Key×V)} {xs:List (List Key×Addr×Value)},KT H av xs->∀{i:Nat} {x:List Key×Addr×Value},xs[i]?=some x->∃v,av[i]?=some (x.1,v)/\H x.2.1=some (.tup (x.1.map kV))
 |_,_,.nil,_,_,e=>by simp at e
 |(k,v)::_,_,.cons h t,i,x,e=>by
  cases i with
  |zero=>
   simp at e;subst e;obtain⟨h1,h2,_⟩:=h;have Jp:k=_:=h1;subst Jp;exact⟨v,rfl,h2⟩
  |succ j=>exact yh t (by simpa using e)
theorem De{P:Program}{w:World}{K:PySem.W.Frag}{tg:Expr}(a it:Addr)(o:Obj)(av:List (List Key×V))(es:Array DictEntry)(ep:Nat)(hd:o.data=.dict es ep):Turn P w K tg (Ry a o av) [it] it (fun i h=>h.IsKeyIter it a i es.size ep) where
 mem:=by simp
 obj:=fun i h st b hb=>by
  have e:b=it:=by simpa using hb
  subst e;obtain⟨o,e,c,d⟩:=st;exact⟨o,e,fun v z=>by rw[d]at z;cases z⟩
 keep:=fun i h h' st k=>by
  obtain⟨o,e,c⟩:=st;exact⟨o,k it (by simp) o e,c⟩
 item:=by
  intro X hP hw hK hc i pins s σ H E I hf st ⟨hg,hi⟩;subst hP hw hK;obtain⟨ho,hz,hs,xs,rel,o',Ho,yH,h1,h2,h3,h4,h5⟩:=(show bu X.prog X.w H s.heap a (.fP o (.dT av))from I.bN a _ hg);rw[ho]at h1;cases h1;rw[hd]at h3;cases h3;obtain⟨f0,f1,f2,f3,f4,f5⟩:=hf it (by simp);have hl:av.length=xs.length:=Paired.length rel;have hsz:es.size=xs.length:=by rw[<-bK,h4,ai]
  have uz:i<es.size:=by rw[hsz,<-hl];exact hi
  have hx:xs[i]?=some xs[i]:=aF (by rw[<-hl];exact hi)
  obtain⟨v,ek,eb⟩:=yh rel hx;have key:es[i].key=Value.ref xs[i].2.1:=by
   have:es.toList[i]?=some (entryOfKey (tupleKind (ax X.prog X.w)) xs[i]):=by rw[h4,aU,hx];rfl
   rw[cI,cH uz]at this;rw[Option.some.inj this];rfl
  refine wt st ho hd uz fun h' rV sb=>?_
  have I1:Inv X pins σ H {s with heap:=h'}:=I.turned (t':=s.toks) (fun b o hb e=>(sb.2 b hb).trans e) f0 f1 f3 f4 f5;obtain⟨oi,e,c,d⟩:=id rV;exact⟨_,rfl,vy (s:={s with heap:=h'}) e c d (by decide) ⟨.ref xs[i].2.1,H,I1,key,⟨rfl,_,_,_,ek,rfl,eb⟩,rV,fun b hb=>(hf b hb).1⟩⟩
 done:=by
  intro X hP hw hK hc i pins s σ H E I hf st ⟨hg,hi⟩;subst hP hw hK;obtain⟨ho,hz,hs,xs,rel,o',Ho,yH,h1,h2,h3,h4,h5⟩:=(show bu X.prog X.w H s.heap a (.fP o (.dT av))from I.bN a _ hg);rw[ho]at h1;cases h1;rw[hd]at h3;cases h3;obtain⟨f0,f1,f2,f3,f4,f5⟩:=hf it (by simp);have hl:av.length=xs.length:=Paired.length rel;have hsz:es.size=xs.length:=by rw[<-bK,h4,ai]
  exact zw (I.ok.hd hc) st ho hd (by rw[hsz,<-hl];exact hi) fun h' eb=>⟨rfl,I.turned (t':=s.toks) (fun b o hb e=>eb b o hb e) f0 f1 f3 f4 f5⟩
 self:=fun _ _ _ _ _ st h=>wpAny_pyIter_keyiter st h
def Dg(aC:List (List Key×Tr)):Rs (List Tr):=if aC.all (fun p=>p.1.all keyOk)=true then .ok (aC.map fun p=>.tup (p.1.map mi))else .bad
def ox(r:Rs Tr):Rs (List Tr):=r.bind fun t=>match t with
 |.bf aC=>Dg aC
 |_=>.bad
theorem tj{K:PySem.W.Frag}{W:Vw}:∀{k:List Key},k.all keyOk=true->aJ K W (k.map kV) (k.map mi)
 |[],_=>.nil
 |a::k,h=>by
  rw[fE,aK]at h;exact .cons (AB h.1) (tj h.2)
theorem Bc{K:PySem.W.Frag}{B:bQ}{H:Hp}{a:Addr}{o:Obj}{av:List (List Key×V)}{aC:List (List Key×Tr)}(h:(aN B H).H a=some (.fP o (.dT av)))(e:av.map (·.1)=aC.map (·.1))(hk:aC.all (fun p=>p.1.all keyOk)=true):jK K B (Ry a o av) H (aC.map fun p=>.tup (p.1.map mi)):=by
 have hl:av.length=aC.length:=by have q:=bB List.length e;rw[ai,ai]at q;exact q
 refine⟨fun i B' H' hi s hb=>⟨aE _ _ (s.h _ _ h),by rw[ai]at hi;rw[hl];exact hi⟩,fun i B' H' x ES hi s hb ⟨eh,k,v,b,ek,ex,eb⟩=>?_,fun B' H' s=>⟨aE _ _ (s.h _ _ h),by rw[ai,hl];exact ar _⟩⟩;subst eh ex;have e1:(av.map (·.1))[i]?=some k:=by rw[aU,ek];rfl
 rw[e,aU]at e1;cases e2:aC[i]? with
 |none=>rw[e2]at e1;cases e1
 |some p=>
  rw[e2]at e1;have e3:p.1=k:=Option.some.inj e1;refine⟨au.refl _,.tup (k.map mi),by rw[aU,e2,<-e3];rfl,.tup (hb.tup eb) (tj ?_)⟩;rw[<-e3];exact bF.mp hk p (bJ e2)
section
variable {X:Cx}{pins:List (Addr×Obj)}{σ:St}
theorem Ny{tg l:Expr}{F:az->Rs Tr}(hl:PE X l (tP X F)):PI X tg l (tJ X fun ρ=>ox (F ρ)):=by
 intro pins s σ H R I ⟨B,ρ,hb,r,q⟩;refine du (hl pins s σ H (fun x H1=>∃(a:Addr) (av:List (List Key×V)) (aC:List (List Key×Tr)),x=.ref a/\au H H1/\Rd (aN B H1).H a (.dT av)/\av.map (·.1)=aC.map (·.1)/\aC.all (fun p=>p.1.all keyOk)=true/\∀J H',uy X B H H'->jK X.K B J H' (aC.map fun p=>.tup (p.1.map mi))->R J H') I ⟨B,ρ,hb,r,q.bind.mono fun t qt v H1 s1 r1=>?_⟩) fun v s1 ⟨x,H1,I1,r1,a,av,aC,ex,sm,rd,ek,hk,k⟩=>?_
 ·skip
  split at qt
  ·obtain⟨a,av,e0,h,e,rr⟩:=r1.oO;obtain⟨z,q1⟩:=fi qt;exact⟨a,av,_,e0,s1,h,e,z,q1⟩
  ·exact qt.elim
 ·subst ex;cases r1;have Tv:Rd H1 a (.dT av):=rd.same aE;have hv:B.hd a=false:=by
   cases z:B.hd a with
   |false=>rfl
   |true=>
    have n:(aN B H1).H a=none:=by show(if B.hd a=true then none else H1 a)=none;rw[ab z]
    rcases rd with h|⟨o,h⟩<;>(rw[n]at h;cases h)
  obtain⟨hz,hs,xs,rel,o,es,ep,h1,h2,h3,h4,h5⟩:=(show bu X.prog X.w H1 s1.heap a (.dT av)from Tv.ok I1.bN);refine wq ⟨o,h1,h2.1⟩ hs h1 h3 ?_
  have fin:∀{H2:Hp},Inv X pins σ H2 s1->H2 a=some (.fP o (.dT av))->uy X B H H2->OO X pins σ tg R (.ref s1.heap.objs.size) {s1 with heap:=s1.heap.push {cls:=.type "dict_keyiterator",data:=.fields #[.ref a,.int 0 0,.int es.size 0,.int ep 0]}}:=fun{H2} I2 e2 tf=>
   ⟨s1.heap.objs.size,[s1.heap.objs.size],_,Ry a o av,H2,rfl,I2.kept (t':=s1.toks) fun b o e=>aB _ e,De a _ o av es ep h3,⟨_,aT _ rfl,rfl,rfl⟩,fun b hb=>by
    have e:b=s1.heap.objs.size:=by simpa using hb
    subst e;exact I2.vx (ar _) (I2.bN.fresh (ar _)),k _ H2 tf (Bc (by rw[cC hv];exact e2) ek hk)⟩
  rcases Tv with e1|⟨o',e1⟩
  ·refine fin (I1.frozen e1 (.t _) h1) aH (.inr ⟨H1,a,o,_,.t av,sm,hv,e1,rfl,fun o' u e0=>?_⟩);have q:=I1.base.i_ a o' u e0;rw[e1]at q;cases q
  ·have eo:o'=o:=by
    have q:=(show bu X.prog X.w H1 s1.heap a (.fP o' (.dT av))from I1.bN a _ e1).1;rw[h1]at q;cases q;rfl
   subst eo;exact fin I1 e1 (.inl sm)
theorem zx{tg l:Expr}{F:az->Rs Tr}(hl:QE X l F):QJ X tg l (fun ρ=>ox (F ρ)):=⟨Ny hl.h⟩
end
end L2
namespace L2
open PySem PySem.Spec PyProof.Rows
def GQ(a b:Rs Tr):Rs Tr:=a.bind fun x=>match x with
 |.bf aC=>b.bind fun y=>(Aw (mB y)).bind fun k=>.ok ((hU aC k).getD .cg)
 |_=>.bad
section
variable {X:Cx}{o e:Expr}{F G:az->Rs Tr}{apos dg:Pos}
theorem Jq(hu:X.A.units+1<cLine)(ho:QE X o F)(he:QE X e G)(hb:attributeBase o "get" X.env (eval o X.env)=eval o X.env:=by first|exact uq rfl|rfl) (cZ:ba [e]=true:=by rfl) (hl:(apos.endLine==dg.line)=true:=by rfl):QE X (.Call (.Attribute o "get" apos) [e] [] dg) (fun ρ=>GQ (F ρ) (G ρ)):=
 ⟨(Ce hu ho.h he.h ⟨hb,by rw[md cZ];rfl,hl,by rw[aX _ _ (aG cZ).1,starEach];rfl⟩).weak fun σ H Q ⟨B,ρ,hb,r,q⟩=>⟨B,ρ,hb,r,q.bind.mono fun x qx v H1 s1 r1=>by
   split at qx
   ·obtain⟨a,av,rfl,h,e,rr⟩:=id r1.oO;refine⟨_,rfl,.inr ⟨_,h.same aE⟩,B,ρ,hb.same s1,r.same s1,(Fi.bind qx|>.same s1).mono fun y qy w H2 s2 r2=>?_⟩;obtain⟨k,ek,qk⟩:=fF (Fi.bind qy);obtain⟨a',ov,ea,g,ho⟩:=C_ (r1.same (aZ s2)) r2 ek;cases ea;refine⟨ov,g,qk _ H2 (s1.trans s2) ?_⟩;rcases ho with⟨h1,rfl⟩|⟨t,w',h1,rfl,h3⟩
    ·rw[h1];exact .cg
    ·rw[h1];exact h3
   ·exact qx.elim⟩⟩
end
end L2
namespace L2
open PySem PySem.Spec PySem.Calls PyProof.Rows
theorem yi:typeLookup (.type "tuple") "keys"=pure none:=by rw[lU,lE];kernel_rfl
def iZ(xs more:List (List Key×Addr×Value)):List (List Key×Addr×Value):=more.foldl (fun acc p=>storedH acc p.1 p.2.1 p.2.2) xs
theorem wu(xs:List (List Key×Addr×Value))(k:List Key)(b:Addr)(u:Value):(storedH xs k b u).length<=xs.length+1:=by
 unfold storedH;split
 ·rw[ai];omega
 ·rw[bj];exact ar _
section
variable {prog:Program}{w:World}{A:Around}{E:Value->Shared->Prop}{s:Shared}
theorem wx{a:Addr}{xs:Array Value}{k:Nat}{sl:Array (Option Value)}{Q:Option Value->Shared->Prop}(hx:s.heap.get? a=some {cls:=.type "tuple",dict:=none,data:=.seq xs k,slots:=sl}) (hA:A.handled=none)
  (h:∀h' tk,(∀b o,s.heap.get? b=some o->h'.get? b=some o)->Q none {s with heap:=h',toks:=tk}):wpAny (model prog w) A (getAttr? (.ref a) "keys") Q E s:=by
 obtain⟨hp,g,d,tk,os⟩:=s;have hT:∀oq,(⟨hp,g,d,oq,os⟩:Shared).TypeIs (.ref a) "tuple":=fun _=>⟨_,hx,rfl⟩;have f1:=sub_AttributeError;have f3:=o_.lookup;have f4:=o_.bind (.ref a);have f5:=am_tuple_getattr_none;unfold getAttr? getAttrBy? getAttrBy
 repeat(any_goals (first|assumption|exact hT _|((with_reducible show wpAny _ _ (call (Value.builtin "tuple.__getattribute__") _ _) _ _ _);refine gD o_ (hT _) am_entry_tuple_getattribute (F.args_tuple_getattribute_2 _ _) (meets_getattribute_miss_tuple a xs k sl "keys" _ yi (by decide+kernel) (by size_fits)) ⟨hx,hA,fun h' oq e AH=>?_⟩)|wp_step))
 obtain⟨t',u',he⟩:=AH.there;have Ru:∀oq,(⟨h',g,d,oq,os⟩:Shared).TypeIs (.ref e) "AttributeError":=fun _=>⟨_,he,rfl⟩;show wpAny _ _ (getattributeRaised _ _ _ _ _ _ _) _ _ _;unfold getattributeRaised
 repeat(any_goals (first|assumption|exact Ru _|wp_step))
 exact h h' oq AH.of.keeps
structure Nz(prog:Program)(w:World)(A:Around)(h0:Heap)(I:Addr)(items:List Value)(It:Nat->Heap->Prop):Prop where
 keep:∀{i h h'},It i h->(∀o,h.get? I=some o->h'.get? I=some o)->It i h'
 item:∀{i:Nat} {s:Shared} {x:Value} {E:Value->Shared->Prop} {Q:Option Value->Shared->Prop},It i s.heap->(∀b o,h0.get? b=some o->s.heap.get? b=some o)->items[i]?=some x->(∀h',It (i+1) h'->Heap.SameBut I s.heap h'->Q (some x) {s with heap:=h'})->wpAny (model prog w) A (pyNext (.ref I)) Q E s
 stop:∀{i:Nat} {s:Shared} {E:Value->Shared->Prop} {Q:Option Value->Shared->Prop},A.handled=none->It i s.heap->(∀b o,h0.get? b=some o->s.heap.get? b=some o)->items.length<=i->(∀h',(∀b o,b≠I->s.heap.get? b=some o->h'.get? b=some o)->Q none {s with heap:=h'})->wpAny (model prog w) A (pyNext (.ref I)) Q E s
theorem zy{h0:Heap}{l I:Addr}{items:List Value}(hl:h0.IsList l items.toArray):Nz prog w A h0 I items (fun i h=>h.IsListIter I l i):=by
 have NA:∀{h:Heap},(∀b o,h0.get? b=some o->h.get? b=some o)->h.IsList l items.toArray:=fun{h} k=>by obtain⟨o,e,x⟩:=hl;exact⟨o,k _ _ e,x⟩
 exact⟨fun⟨o,e,x⟩ k=>⟨o,k _ e,x⟩,fun it kp e h=>wpAny_pyNext_list_item it (NA kp) (by simpa using e) h,fun hh it kp e h=>wpAny_pyNext_list_end hh it (NA kp) (by simpa using e) h⟩
theorem Jr{h0:Heap}{l I:Addr}{items:List Value}(hl:h0.IsTuple l items.toArray):Nz prog w A h0 I items (fun i h=>h.IsTupleIter I l i):=by
 have NA:∀{h:Heap},(∀b o,h0.get? b=some o->h.get? b=some o)->h.IsTuple l items.toArray:=fun{h} k=>by obtain⟨o,e,x⟩:=hl;exact⟨o,k _ _ e,x⟩
 exact⟨fun⟨o,e,x⟩ k=>⟨o,k _ e,x⟩,fun it kp e h=>pk it (NA kp) (by simpa using e) h,fun hh it kp e h=>wpAny_pyNext_tuple_end hh it (NA kp) (by simpa using e) h⟩
theorem Bd{h0:Heap}{d I:Addr}{items:List Value}{It:Nat->Heap->Prop}{pairs:List (List Key×Addr×Value)}{R:Result->Shared->Prop}(hu:A.units+1<cLine)(hh:A.handled=none)(W:Nz prog w A.in1 h0 I items It)(hlen:items.length=pairs.length)
  (hp:∀(j:Nat) (t:Value),items[j]?=some t->∃ad b k v,t=.ref ad/\h0.IsTuple ad #[.ref b,v]/\(∀h':Heap,(∀b o,h0.get? b=some o->h'.get? b=some o)->(tupleKind (ax prog w)).is h' k b)/\pairs[j]?=some (k,b,v))
  (VI:h0.get? d=none) (NC:h0.get? I=none) (RA:d≠I) (hz:pairs.length<=100000)
  (hR:∀h' oq,(∀b o,h0.get? b=some o->h'.get? b=some o)->h'.DictOfH (tupleKind (ax prog w)) d (iZ [] pairs)->R (.ok (.ret .none)) {s with heap:=h',toks:=oq}):
  ∀(r i:Nat) (h:Heap) (tk:Nat) (av:List (List Key×Addr×Value)),pairs.length - i=r->i<=pairs.length->av.length<=i->iZ av (pairs.drop i)=iZ [] pairs->(∀b o,h0.get? b=some o->h.get? b=some o)->It i h->h.DictOfH (tupleKind (ax prog w)) d av->(∀x∈av,∀h':Heap,(∀b o,h0.get? b=some o->h'.get? b=some o)->(tupleKind (ax prog w)).is h' x.1 x.2.1)->
   codeAny (model prog w) A (.builtin "dict.update.loop" ⟨[.ref d,.ref I,rawInt i,.none],[]⟩) R {s with heap:=h,toks:=tk}:=by
 have nd:∀{b:Addr} {o:Obj},h0.get? b=some o->b≠d:=fun{b o} e z=>by rw[z,VI]at e;cases e
 have nI:∀{b:Addr} {o:Obj},h0.get? b=some o->b≠I:=fun{b o} e z=>by rw[z,NC]at e;cases e
 have mv:∀{h h':Heap} {av:List (List Key×Addr×Value)},(∀b o,h0.get? b=some o->h'.get? b=some o)->(∀o,h.get? d=some o->h'.get? d=some o)->(∀x∈av,∀h':Heap,(∀b o,h0.get? b=some o->h'.get? b=some o)->(tupleKind (ax prog w)).is h' x.1 x.2.1)->h.DictOfH (tupleKind (ax prog w)) d av->h'.DictOfH (tupleKind (ax prog w)) d av:=by
  intro h h' av kp kd ki ⟨o,es,ep,e1,e2,e3,e4,e5,e6⟩;exact⟨o,es,ep,kd _ e1,e2,e3,e4,fun x hx=>ki x hx h' kp,e6⟩
 intro r
 induction r with
 |zero=>
  intro i h tk av hr hi hk hm kp it dd ki;have e:i=pairs.length:=by omega
  subst e;refine dQ sV ?_
  rw[eC iL _];show wpAny _ A.in1 (pyNext (.ref I)>>=_) _ _ _;refine aa (W.stop (s:={s with heap:=h,toks:=tk}) hh it kp (by rw[hlen];exact ar _) fun h' eb=>?_);rw[jl]at hm;have zz:∀b o,h0.get? b=some o->h'.get? b=some o:=fun b o e=>eb b o (nI e) (kp b o e);have Gj:=mv (h':=h') zz (fun o e=>eb d o RA e) ki dd;show wpAny _ A.in1 (Builtin.Dict.addKeywords d []>>=_) _ _ _;refine aa (af (af ?_));exact hR h' tk zz (by rw[<-hm];exact Gj)
 |succ r ih=>
  intro i h tk av hr hi hk hm kp it dd ki;have dX:i<pairs.length:=by omega
  have KU:i<items.length:=by omega
  obtain⟨ad,b,k,v,et,tp,Er,ep⟩:=hp i items[i] (by simp[KU]);have yH:pairs[i]=(k,b,v):=by rw[aF dX]at ep;exact Option.some.inj ep
  refine dQ sV ?_
  rw[eC iL _];show wpAny _ A.in1 (pyNext (.ref I)>>=_) _ _ _;refine aa (W.item (s:={s with heap:=h,toks:=tk}) it kp (x:=.ref ad) (by rw[aF KU,et]) fun h' KW sb=>?_);have zz:∀b o,h0.get? b=some o->h'.get? b=some o:=fun b o e=>(sb.2 b (nI e)).trans (kp b o e);have Gj:=mv (h':=h') zz (fun o e=>(sb.2 d RA).trans e) ki dd;obtain⟨ot,e1,e2,n,e3⟩:=tp;have hT:Shared.TypeIs {s with heap:=h',toks:=tk} (.ref ad) "tuple":=⟨ot,zz _ _ e1,e2⟩;refine aa ?_
  refine cB ?_
  refine aa (lZ ?_);unfold Builtin.Dict.pairItems;refine aa (iq hT ?_);rw[ab (by decide)];refine aa (dA (zz _ _ e1) e3 ?_);refine af ?_
  show wpAny _ A.in1 (holding [.ref b,v] (dictSet d (.ref b) v)) _ _ _;refine cB (wpAny_dictSet_heap (knd:=tupleKind (ax prog w)) (hsz:=by rw[bS];omega) (iQ hu) (Er _ zz) Gj fun h2 D' Pk=>?_);show wpAny _ A.in1 (pure _) _ _ _;refine af ⟨dB iL _,?_⟩;have hc:rawInt ((i:Int)+1)=rawInt ((i+1:Nat):Int):=by push_cast;rfl
  rw[hc];refine ih (i+1) h2 _ (storedH av k b v) (by omega) dX ?_ ?_ (fun b o e=>(Pk.2 b (nd e)).trans (zz b o e)) ?_ D' ?_
  ·exact bt (wu av k b v) (by omega)
  ·rw[lh dX,yH]at hm;exact hm
  ·exact W.keep KW fun o e=>(Pk.2 I (b_ RA)).trans e
  ·intro x hx;unfold storedH at hx;split at hx
   ·obtain⟨y,hy,rfl⟩:=aQ.mp hx;unfold putAt;split
    ·exact ki y hy
    ·exact ki y hy
   ·rcases eM.mp hx with hx|hx
    ·exact ki x hx
    ·rw[cn.mp hx];exact Er
theorem yj{l:Addr}{items:List Value}{pairs:List (List Key×Addr×Value)}{Q:Value->Shared->Prop}{k0:Nat}{Pl:Array (Option Value)}{tn:String}(hu:A.units+4<cLine)(hh:A.handled=none)(ND:tn="list"\/tn="tuple")(hx:s.heap.get? l=some {cls:=.type tn,dict:=none,data:=.seq items.toArray k0,slots:=Pl}) (hlen:items.length=pairs.length)
  (hp:∀(j:Nat) (t:Value),items[j]?=some t->∃ad b k v,t=.ref ad/\s.heap.IsTuple ad #[.ref b,v]/\(∀h':Heap,(∀b o,s.heap.get? b=some o->h'.get? b=some o)->(tupleKind (ax prog w)).is h' k b)/\pairs[j]?=some (k,b,v)) (hz:pairs.length<=100000)
  (h:∀h' oq,(∀b o,s.heap.get? b=some o->h'.get? b=some o)->h'.DictOfH (tupleKind (ax prog w)) s.heap.objs.size (iZ [] pairs)->Q (.ref s.heap.objs.size) {s with heap:=h',toks:=oq}):
  wpAny (model prog w) A (call (.type "dict") [.ref l]) Q E s:=by
 refine callType_codes (Q₁:=fun obj bU=>obj=.ref s.heap.objs.size/\bU={s with heap:=s.heap.push {cls:=.type "dict",data:=.dict #[]}}) F.kt_called_dict (F.kt_typeCall_dict_1 _) F.entry_dict_init (kt_code_dict_new _ ⟨rfl,rfl⟩) ?_
 rintro obj bU ⟨rfl,rfl⟩
 have EA:(s.heap.push {cls:=.type "dict",data:=.dict #[]}).DictOf (ax prog w) s.heap.objs.size []:=Heap.DictOf.new s.heap;have NF:(s.heap.push {cls:=.type "dict",data:=.dict #[]}).DictOfH (tupleKind (ax prog w)) s.heap.objs.size []:=Heap.DictOfH.new s.heap;have GR:=aB {cls:=.type "dict",data:=.dict #[]} hx;refine⟨EA.typeIs,F.args_dict_init_2 _ _,?_⟩;unfold Builtin.«dict.__init__»;refine aa ?_
 unfold Builtin.Dict.selfAndRest;refine aa (wpAny_notOrdered_dict EA.typeIs ?_);show wpAny _ _ (pure (s.heap.objs.size,[Value.ref l])) _ _ _;refine af ?_
 show wpAny _ _ (Builtin.Dict.updateFrom "dict.__init__" s.heap.objs.size (.ref l) [] .none) _ _ _;unfold Builtin.Dict.updateFrom;have tail:∀(h1:Heap) (oy:Nat),(∀b o,(s.heap.push {cls:=.type "dict",data:=.dict #[]}).get? b=some o->h1.get? b=some o)->∀(I:Addr) (It:Nat->Heap->Prop) (oI:Obj),I=h1.objs.size->Nz prog w A.in1.in1 s.heap I items It->It 0 (h1.push oI)->
   codeAny (model prog w) A.in1 (.builtin "dict.update.loop" ⟨[.ref s.heap.objs.size,.ref I,rawInt 0,.none],[]⟩) (wants (fun r mV=>r=.none/\Q (.ref s.heap.objs.size) mV) E) {s with heap:=h1.push oI,toks:=oy}:=by
  intro h1 oy k1 I It oI eI W VJ;subst eI;have k2:∀b o,s.heap.get? b=some o->h1.get? b=some o:=fun b o e=>k1 b o (aB _ e);have VL:h1.get? s.heap.objs.size=some {cls:=.type "dict",data:=.dict #[]}:=k1 _ _ (aT _ rfl);have dX:s.heap.objs.size<h1.objs.size:=aw VL;refine Bd (s:=s) (h0:=s.heap) (A:=A.in1) (by show A.units+1+1<cLine;omega) hh W hlen hp (by
   cases e:s.heap.get? s.heap.objs.size with
   |none=>rfl
   |some o=>exact absurd (aw e) (cA _)) (by
   cases e:s.heap.get? h1.objs.size with
   |none=>rfl
   |some o=>exact absurd (aw (k2 _ _ e)) (cA _)) (aS dX) hz (fun h' oq kp dd=>⟨rfl,h h' oq kp dd⟩) _ 0 _ _ [] rfl (bG _) (ar _) rfl (fun b o e=>aB _ (k2 b o e)) VJ ?_ (fun x hx=>by cases hx)
  obtain⟨o,es,ep,e,x1,x2,x3,x4,x5⟩:=NF;exact⟨o,es,ep,aB _ (k1 _ _ e),x1,x2,x3,(fun x hx=>by cases hx),x5⟩
 rcases ND with rfl|rfl
 ·have hT:Shared.TypeIs {s with heap:=s.heap.push {cls:=.type "dict",data:=.dict #[]}} (.ref l) "list":=⟨_,GR,rfl⟩;refine aa (iq hT ?_);rw[ab (by decide)];refine aa (yc GR hh fun h1 oy k1=>?_);rw[ab (show(none:Option Value).isNone=true from rfl)];have hl:s.heap.IsList l items.toArray:=⟨_,hx,rfl,_,rfl⟩;refine aa (eO ?_);refine aa (ic (show h1.IsList l items.toArray from⟨_,k1 _ _ GR,rfl,_,rfl⟩) ?_);refine af ⟨dB iL _,?_⟩;exact tail h1 oy k1 _ _ {cls:=.type "list_iterator",data:=.fields #[.ref l,.int 0 0]} rfl (zy hl) (by exact⟨_,aT _ rfl,rfl,rfl⟩)
 ·have hT:Shared.TypeIs {s with heap:=s.heap.push {cls:=.type "dict",data:=.dict #[]}} (.ref l) "tuple":=⟨_,GR,rfl⟩;refine aa (iq hT ?_);rw[ab (by decide)];refine aa (wx GR hh fun h1 oy k1=>?_);rw[ab (show(none:Option Value).isNone=true from rfl)];have hl:s.heap.IsTuple l items.toArray:=⟨_,hx,rfl,_,rfl⟩;refine aa (eO ?_);refine aa (lI (show h1.IsTuple l items.toArray from⟨_,k1 _ _ GR,rfl,_,rfl⟩) ?_);refine af ⟨dB iL _,?_⟩;exact tail h1 oy k1 _ _ {cls:=.type "tuple_iterator",data:=.fields #[.ref l,.int 0 0]} rfl (Jr hl) (by exact⟨_,aT _ rfl,rfl,rfl⟩)
end
def mC:List Tr->Option (List (List Key×Tr))
 |[]=>some []
 |.tup [k,v]::r=>match mB k,mC r with
  |some key,some l=>some ((key,v)::l)
  |_,_=>none
 |_=>none
def eV:List Tr->Rs Tr
 |[.lst ts]=>match mC ts with
  |some aC=>if aC.length<=100000 then .ok (.bf (jX [] aC))else .bad
  |none=>.bad
 |[.tup ts]=>match mC ts with
  |some aC=>if aC.length<=100000 then .ok (.bf (jX [] aC))else .bad
  |none=>.bad
 |_=>.bad
def gf(av more:List (List Key×V)):List (List Key×V):=more.foldl (fun acc kv=>putK acc kv.1 kv.2) av
theorem jY:∀(more av:List (List Key×V)),(gf av more).length<=av.length+more.length
 |[],av=>by show av.length<=av.length+0;omega
 |p::r,av=>by
  have h1:=jY r (putK av p.1 p.2);have h2:=jF av p.1 p.2;show(gf (putK av p.1 p.2) r).length<=_;rw[bp];omega
theorem cV.merge {K:PySem.W.Frag}{H:Vw}:∀{more:List (List Key×V)} {KY:List (List Key×Tr)} {av:List (List Key×V)} {aC:List (List Key×Tr)},cV K H more KY->cV K H av aC->cV K H (gf av more) (jX aC KY)
 |[],KY,av,aC,h,h0=>by
  have e:=h.keys;cases KY with
  |nil=>exact h0
  |cons a b=>cases e
 |(j,v)::more,KY,av,aC,h,h0=>by
  obtain⟨t,r,rfl,h1,h2⟩:=h.inv;exact cV.merge (more:=more) (KY:=r) (aC:=jW aC j t) h2 (h0.put j h1)
theorem KT.merge {H:Hp}:∀{more:List (List Key×V)} {ms:List (List Key×Addr×Value)} {av:List (List Key×V)} {xs:List (List Key×Addr×Value)},KT H more ms->KT H av xs->KT H (gf av more) (iZ xs ms):=by
 intro more ms av xs r;unfold KT at r
 induction r generalizing av xs with
 |nil=>intro q;exact q
 |@cons p q ps qs h t ih=>
  intro r0;obtain⟨h1,h2,h3⟩:=h;have:=ih (KT.put r0 p.1 (b:=q.2.1) (y:=p.2) (u:=q.2.2) h2 h3);rw[h1]at this;show KT H (gf (putK av p.1 p.2) ps) (iZ (storedH xs q.1 q.2.1 q.2.2) qs);rw[h1];exact this
section
variable {X:Cx}{pins:List (Addr×Obj)}{σ:St}{H:Hp}{s:Shared}{B:bQ}
theorem Be{t:Tr}{ts:List Tr}{aC:List (List Key×Tr)}(h:mC (t::ts)=some aC):∃k v key l,t=.tup [k,v]/\mB k=some key/\mC ts=some l/\aC=(key,v)::l:=by
 unfold mC at h;split at h
 ·cases‹t::ts=[]›
 ·rename_i k v r e;cases e;cases e1:mB k with
  |none=>rw[e1]at h;cases h
  |some key=>
   cases e2:mC ts with
   |none=>rw[e1,e2]at h;cases h
   |some l=>rw[e1,e2]at h;cases h;exact⟨k,v,key,l,rfl,e1,rfl,rfl⟩
 ·cases h
theorem fV{h0:Heap}{b:Addr}{k:List Key}{P:Program}{w:World}(e:(tupleKind (ax P w)).is h0 k b):∀h':Heap,(∀b o,h0.get? b=some o->h'.get? b=some o)->(tupleKind (ax P w)).is h' k b:=by
 intro h' kp;obtain⟨o,aV,n,h1,h2,h3,h4⟩:=e;exact⟨o,aV,n,kp _ _ h1,h2,h3,h4⟩
theorem wy(I:Inv X pins σ H s):∀{vs:List V} {ts:List Tr} {aC:List (List Key×Tr)} {aV:List Value},aJ X.K (aN B H) vs ts->mC ts=some aC->Vals vs aV->
  ∃(av:List (List Key×V)) (ps:List (List Key×Addr×Value)),cV X.K (aN B H) av aC/\KT H av ps/\aV.length=ps.length/\∀(j:Nat) (t:Value),aV[j]?=some t->∃ad b k v,t=.ref ad/\s.heap.IsTuple ad #[.ref b,v]/\(∀h':Heap,(∀b o,s.heap.get? b=some o->h'.get? b=some o)->(tupleKind (ax X.prog X.w)).is h' k b)/\ps[j]?=some (k,b,v)
 |[],[],_,_,_,e,rv=>by cases e;cases rv;exact⟨[],[],.nil,.nil,rfl,fun j t e=>by simp at e⟩
 |[],_::_,_,_,h,_,_=>by cases h
 |v::vs,ts,aC,aV,h,e,rv=>by
  cases h with
  |cons h r=>
   obtain⟨k,w',key,l,rfl,ek,el,rfl⟩:=Be e;cases rv with
   |cons h1 rv=>
    obtain⟨av,ps,q1,q2,q3,q4⟩:=wy I r el rv;obtain⟨ad,us,rfl,hq,rr⟩:=h.iV;cases h1;obtain⟨x1,x2,rfl,rk,kh⟩:=qE rr;obtain⟨vC,BB,pl,_⟩:=I.tuple (.inl (.inl (aE _ _ hq)));obtain⟨u1,u2,rfl,r1,r2⟩:=vals2 BB;obtain⟨b,rfl,hb⟩:=jV rk ek;cases(show u1=Value.ref b from r1);refine⟨(key,_)::av,(key,b,u2)::ps,.cons kh q1,.cons ⟨rfl,hb,r2⟩ q2,by rw[bp,bp,q3],fun j t et=>?_⟩;cases j with
    |zero=>cases et;exact⟨ad,b,key,u2,rfl,pl,fV (jG I.bN hb),rfl⟩
    |succ j=>exact q4 j t et
theorem qV(hu:X.A.units+4<cLine)(hc:X.calm=true):gE X (.type "dict") (rF X eV):=by
 intro pins s σ H xs us Q I rv ⟨B,ts,hb,r,q⟩;have key:∃tr m8 aC,ts=[tr]/\(tr=.lst m8\/tr=.tup m8)/\mC m8=some aC/\aC.length<=100000/\∀v H',au H H'->Rep X.K (aN B H') v (.bf (jX [] aC))->(∀p,v=.ref p->IY H H' p)->Q v H':=by
  unfold eV at q;split at q
  ·rename_i m8;cases e:mC m8 with
   |none=>rw[e]at q;exact(show False from q).elim
   |some aC=>
    rw[e]at q;obtain⟨h0,z⟩:=fi q;exact⟨_,m8,aC,rfl,.inl rfl,e,h0,z⟩
  ·rename_i m8;cases e:mC m8 with
   |none=>rw[e]at q;exact(show False from q).elim
   |some aC=>
    rw[e]at q;obtain⟨h0,z⟩:=fi q;exact⟨_,m8,aC,rfl,.inr rfl,e,h0,z⟩
  ·exact(show False from q).elim
 obtain⟨tr,m8,aC,rfl,RB,ep,hz,k⟩:=key;obtain⟨x,rfl,h⟩:=f_ r;obtain⟨u,rfl,ru⟩:=vals1 rv;have src:∃(a:Addr) (vs:List V) (tn:String) (aV:List Value) (n0:Nat) (Pl:Array (Option Value)),x=.ref a/\(tn="list"\/tn="tuple")/\aJ X.K (aN B H) vs m8/\Vals vs aV/\s.heap.get? a=some {cls:=.type tn,dict:=none,data:=.seq aV.toArray n0,slots:=Pl}:=by
  rcases RB with rfl|rfl
  ·obtain⟨a,vs,rfl,h,rr⟩:=h.lst_inv;obtain⟨z0,aV,n0,xn,hx⟩:=(show bu X.prog X.w H s.heap a (.lst vs)from I.bN a _ (fq h));exact⟨a,vs,"list",aV,n0,_,rfl,.inl rfl,rr,xn,hx⟩
  ·obtain⟨a,vs,rfl,h,rr⟩:=h.iV;obtain⟨_,aV,xn,o,hx,c1,n0,c2,c3⟩:=(show bu X.prog X.w H s.heap a (.tup vs)from I.bN a _ (aE _ _ h));obtain⟨oc,od,Xq,yO⟩:=o;simp only at c1 c2 c3;subst c1 c2 c3;exact⟨a,vs,"tuple",aV,n0,yO,rfl,.inr rfl,rr,xn,hx⟩
 obtain⟨a,vs,tn,aV,n0,Pl,rfl,ND,rr,xn,hx⟩:=src;cases(show u=Value.ref a from ru);obtain⟨av,ps,q1,q2,q3,q4⟩:=wy I rr ep xn;have hl:av.length=aC.length:=q1.length;have VM:ps.length<=100000:=by rw[<-Paired.length q2,hl];exact hz
 refine yj hu (I.ok.hd hc) ND hx q3 q4 VM fun h' oq kp dd=>?_
 have hf:H s.heap.objs.size=none:=I.fresh;have VN:(gf [] av).length<=sizeLine:=by have:=jY av [];rw[dO]at this;rw[bS];omega
 have RC:(s.heap.objs.size==sysModules)=false:=by
  have:=I.big;exact dP (cp this)
 have km:KT (upd H s.heap.objs.size (.dT (gf [] av))) (gf [] av) (iZ [] ps):=(KT.merge q2 (show KT H [] []from .nil)).keeps fun b ys e=>(ah fun z=>by rw[z,hf]at e;cases e).trans e;obtain⟨o,es,yH,e1,e2,e3,e4,_,e6⟩:=dd;refine⟨.ref s.heap.objs.size,_,I.laid (t':=oq) (o:=.dT (gf [] av)) kp (ar _) ⟨VN,RC,_,km,o,es,yH,e1,e2,e3,e4,e6⟩,rfl,k _ _ (au.upd hf) (.bf (.inl (hb.new hf)) ?_ ?_) fun p' e=>by cases e;exact .upd hf (fun _ _ z=>by cases z)⟩
 ·exact(cV.merge q1 cV.nil).keys
 ·exact(cV.merge q1 cV.nil).vals.same (aZ (au.upd hf))
end
end L2
namespace L2
open PySem PySem.Spec PyProof.Rows
section
variable {X:Cx}{K:PySem.W.Frag}{B:bQ}{H H':Hp}{A:Ab}{a:Addr}{u u' u0:HO}
theorem oh.ha (w:oh H H' a u u' u0)(hv:B.hd a=false)(h:HA K B A H):HA K B A H':=by
 refine⟨w.hb h.hb,fun i o e=>?_,h.inj,h.lt⟩;obtain⟨c,h1,h2⟩:=h.ob i o e;refine⟨c,h1,?_⟩;have fb:c≠a:=fun z=>by have q:=h2.hd;rw[z,hv]at q;cases q
 have eq:H' c=H c:=by rw[w.to,ah fb]
 cases o with
 |lst ts=>obtain⟨h0,vs,h1,h2⟩:=h2;exact⟨h0,vs,eq.trans h1,w.AA h2⟩
 |jI aC=>obtain⟨h0,vs,h1,h2⟩:=h2;exact⟨h0,vs,eq.trans h1,h2.keys,w.AA h2.vals⟩
 |bf aC=>obtain⟨h0,vs,h1,h2,h3⟩:=h2;exact⟨h0,vs,eq.trans h1,h2,w.AA h3⟩
 |Fj x=>obtain⟨h0,oe,h1,h2⟩:=h2;exact⟨h0,oe,eq.trans h1,h2⟩
 |tb x q=>obtain⟨h0,h1,h2⟩:=h2;exact⟨h0,h1,eq.trans h2⟩
 |ins c fs=>
  obtain⟨h0,dx,vc,h1,h2,h3,h4,h5⟩:=h2;exact⟨h0,dx,vc,eq.trans h1,w.kz h2 (fun z=>by cases z) (fun _ _ d z=>by cases z<;>cases d),h3,h4,w.AA h5⟩
theorem uy.ha (h:uy X B H H')(r:HA K B A H):HA K B A H':=by
 rcases h with s|⟨H1,a,o,u0,hk,s,hv,ha,rfl,h0⟩
 ·exact r.same s
 ·exact oh.ha (u:=u0) ⟨ha,rfl,.inl ⟨rfl,o,rfl⟩,hk⟩ hv (r.same s)
theorem uy.Dh {B2:bQ}{H2:Hp}{A2:Ab}(h:uy X B H H')(hb:HB B H)(g:Grows B H' B2 H2)(r:HA K B2 A2 H2):
  ∃Hu,Grows B H B2 Hu/\HA K B2 A2 Hu/\(∀{B3:bQ} {v:V} {t:Tr},Rep K (aN B3 H2) v t->Rep K (aN B3 Hu) v t)/\(∀{σ:St} {ρ:az},bg K B2 H2 σ ρ->bg K B2 Hu σ ρ)/\∀k:Hp->Prop,k Hu->fS X H2 k:=by
 rcases h with s|⟨H1,a,o,u0,hk,s,hv,ha,rfl,h0⟩
 ·exact⟨H2,(Grows.of s).trans hb g,r,fun r=>r,fun r=>r,fun k q=>.inl q⟩
 ·have e1:(aN B (upd H1 a (.fP o u0))).H a=some (.fP o u0):=by rw[cC hv];exact aH
  have e2:=g.fY.h _ _ e1;have e3:H2 a=some (.fP o u0):=aE _ _ e2;have w:oh H2 (upd H2 a u0) a (.fP o u0) u0 u0:=⟨e3,rfl,.inr ⟨rfl,o,rfl⟩,hk⟩;have O8:B2.hd a=false:=by
   cases q:B2.hd a with
   |false=>rfl
   |true=>
    have n:(aN B2 H2).H a=none:=by show(if B2.hd a=true then none else H2 a)=none;rw[ab q]
    rw[n]at e2;cases e2
  refine⟨upd H2 a u0,⟨⟨fun b ob e=>?_,fun b i e=>g.fY.x b i e⟩,fun b ob c e=>?_,g.hd,fun b i e n=>?_⟩,w.ha O8 r,fun r=>w.rep r,fun r=>w.xR r,fun k q=>.inr ⟨a,o,u0,hk,e3,h0,q⟩⟩
  ·by_cases z:b=a
   ·subst z;have q:=s _ _ (aE _ _ e);rw[ha]at q;cases q;rw[cC O8];exact aH
   ·have q:(aN B (upd H1 a (.fP o u0))).H b=some ob:=fZ e fun e=>by rw[ah z];exact s _ _ e
    exact fZ (g.fY.h _ _ q) fun e=>by rw[ah z];exact e
  ·have q:=s _ _ e;by_cases z:b=a
   ·subst z;rw[ha]at q;cases q;exact aH
   ·rw[ah z];exact g.kp b ob c (by rw[ah z];exact q)
  ·have q:=g.nw b i e n;refine s.free ?_
   by_cases z:b=a
   ·subst z;rw[aH]at q;cases q
   ·rw[ah z]at q;exact q
end
def NG(r:Rz Out):Rz Out:=match r with
 |.ok o A=>.ok o A
 |_=>.bad
theorem Fz{xc:Tr->Ab->Prop}{r:Rz Out}{k:Out->Ab->Prop}(q:dH xc (NG r) k):dH (fun _ _=>False) r k:=by
 cases r with
 |ok o A=>exact q
 |exc c A=>exact(show False from q).elim
 |bad=>exact q
section
variable {X:Cx}{tg iter:Expr}{body:List Stmt}{W:az->Rs (List Tr)}{T:kL}{G:az->Ab->Rz Out}{pos:Pos}
theorem Js(hi:QJ X tg iter W)(hg:QG X tg T)(hT:iG T)(hb:ZB X body G)(hp:PassesOwn (model X.prog X.w) X.A X.env X.xe:=by first|exact ik|exact ie) (hc:X.calm=true:=by rfl)
  (hs:isSet iter=false:=by rfl):ZS X (.For tg iter body [] pos) (fun ρ A=>NG (i8 T G (aq (W ρ) A) ρ)):=
 ⟨(xu hp hc hi.h hg.h hb.h (dY hs)).IL.weak fun D σ H ⟨B0,H0,B,A,ρ,rS,g,ha,r,n,q⟩=>⟨B,ρ,ha.hb,r,(gK (dH.bind (Fz q))).mono fun ts qt J H1 tf gt=>by
   have jT:=tf.ha ha;have x8:HB B H1:=jT.hb;refine⟨fun i m bP H'=>m=ts.length - i/\i<=ts.length/\∃B' A' fh,Grows B H1 B' H'/\HA X.K B' A' H'/\bg X.K B' H' bP fh/\dE fh/\dH (fun _ _=>False) (iY T G (ts.drop i) fh A') (kB X D B0 H0),⟨_,rfl,bG _,B,A,ρ,.refl,jT,tf.xR r,n,qt⟩,?_⟩
   rintro i m bP H' ⟨rfl,hi,B',A',fh,g',d0,r',n',q'⟩
   by_cases dX:i<ts.length
   ·rw[lh dX]at q';refine .inr ⟨gt.go i B' H' dX g'.fY d0.hb,fun rX H2=>∃B2 A2 ρ2,Grows B H1 B2 H2/\HA X.K B2 A2 H2/\bg X.K B2 H2 rX ρ2/\dE ρ2/\dH (fun _ _=>False) (iY T G (ts.drop (i+1)) ρ2 A2) (kB X D B0 H0),
     fun rX H2 x=>⟨ts.length - (i+1),by omega,rfl,dX,x⟩,fun x H2 hx=>?_⟩
    obtain⟨s2,t,et,rt⟩:=gt.yM i B' H' x H2 dX g'.fY d0.hb hx;have Mw:ts[i]=t:=by rw[aF dX]at et;exact Option.some.inj et
    rw[Mw]at q';have g2:Grows B H1 B' H2:=g'.trans x8 (.of s2);refine CT hT x8 g2 (d0.same s2) (r'.same s2) n' rt (dH.bind q') fun ρ1 xq H3 q1 g3 AV r3 n3 _=>?_
    refine⟨B,H1,B',A',ρ1,x8,g3,AV,r3,n3,((dH.bind q1).imp fun c Tp x=>x.elim).mono fun o A4 qo=>?_⟩;cases o with
    |nx ρ2=>exact fun AW B4 H4 g4 ng r4 n4=>⟨B4,A4,ρ2,g4,ng,r4,n4,qo⟩
    |ct ρ2=>exact fun AW B4 H4 g4 ng r4 n4=>⟨B4,A4,ρ2,g4,ng,r4,n4,qo⟩
    |bk ρ2=>
     intro AW B4 H4 g4 ng r4 n4;obtain⟨Hu,gu,NH,ru,rs,ku⟩:=tf.Dh ha.hb g4 ng;exact ku _ (qo AW B4 Hu (g.trans rS gu) NH (rs r4) n4)
    |ret t=>
     intro v B4 H4 g4 ng r4;obtain⟨Hu,gu,NH,ru,rs,ku⟩:=tf.Dh ha.hb g4 ng;exact ku _ (qo v B4 Hu (g.trans rS gu) NH (ru r4))
   ·have e:i=ts.length:=by omega
    subst e;rw[jl]at q';obtain⟨Hu,gu,NH,ru,rs,ku⟩:=tf.Dh ha.hb g' d0;exact .inl ⟨gt.stop B' H' g'.fY,ku _ (q' bP B' Hu (g.trans rS gu) NH (rs r') n')⟩⟩⟩
def fW(T:kL)(G:az->Ab->Rz Out)(j:Nat):Nat->Nat->az->Ab->Rz Out
 |0,_,_,_=>.bad
 |m+1,i,ρ,A=>match A[j]? with
  |some (.lst us)=>match us[i]? with
   |none=>.ok (.nx ρ) A
   |some t=>(aq (T t ρ) A).bind fun ρ1 A=>(G ρ1 A).bind fun o A=>match o with
    |.nx ρ2=>fW T G j m (i+1) ρ2 A
    |.ct ρ2=>fW T G j m (i+1) ρ2 A
    |.bk ρ2=>.ok (.nx ρ2) A
    |.ret t=>.ok (.ret t) A
  |_=>.bad
def loopAt(T:kL)(G:az->Ab->Rz Out)(m:Nat)(r:Rz Tr)(ρ:az):Rz Out:=r.bind fun t A=>match t with
 |.at j=>match A[j]? with
  |some (.lst _)=>fW T G j m 0 ρ A
  |_=>.bad
 |_=>.bad
inductive Tw(X:Cx)(F:az->Ab->Rz Tr)(σ:St)(H:Hp)(R:It->Hp->Prop):Prop
 |mk (B:bQ) (A:Ab) (ρ:az):HA X.K B A H->bg X.K B H σ ρ->dE ρ->(dH (XE X B H) (F ρ A) fun t A'=>∃j us,t=.at j/\A'[j]?=some (.lst us)/\∀a B' H',Grows B H B' H'->HA X.K B' A' H'->B'.ix a=some j->R (OQ X.K a) H')->Tw X F σ H R
theorem RD{F:az->Ab->Rz Tr}(h:PE X iter (tE X F)):PI X tg iter (Tw X F):=by
 intro pins s σ H R I ⟨B,A,ρ,ha,r,n,q⟩;refine du (h pins s σ H (fun x H1=>∃a vs,x=.ref a/\H1 a=some (.lst vs)/\R (OQ X.K a) H1) I ⟨B,A,ρ,ha,r,n,q.mono fun t A1 ⟨j,us,et,ej,k⟩ v B1 H1 g1 jT rv=>?_⟩) fun v s1 ⟨x,H1,I1,r1,a,vs,ex,e1,k⟩=>?_
 ·subst et;obtain⟨a,rfl,sU⟩:=rv.uu;obtain⟨hd,vs,h1,h2⟩:=jT.get sU ej;exact⟨a,vs,rfl,h1,k a B1 H1 g1 jT sU⟩
 ·subst ex;cases r1;obtain⟨aV,rv,pl,hz⟩:=I1.list (iw.of e1);refine ic pl.isList ?_
  refine⟨s1.heap.objs.size,[s1.heap.objs.size],_,_,H1,rfl,I1.kept (t':=s1.toks) fun b o e=>aB _ e,sr a _,⟨_,aT _ rfl,rfl,rfl⟩,fun b hb=>?_,k⟩;have e:b=s1.heap.objs.size:=by simpa using hb
  subst e;exact I1.vx (ar _) (I1.bN.fresh (ar _))
theorem Jt{K:PySem.W.Frag}{B:bQ}{A:Ab}{H:Hp}{a:Addr}{j:Nat}{us:List Tr}(ha:HA K B A H)(hx:B.ix a=some j)(ej:A[j]?=some (.lst us)):∃vs,H a=some (.lst vs)/\aJ K (aN B H) vs us:=by
 obtain⟨hd,vs,h1,h2⟩:=ha.get hx ej;exact⟨vs,h1,h2⟩
theorem zA(m:Nat){F:az->Ab->Rz Tr}(hi:ZE X iter F)(hg:QG X tg T)(hT:iG T)(hb:ZB X body G)(hp:PassesOwn (model X.prog X.w) X.A X.env X.xe:=by first|exact ik|exact ie) (hc:X.calm=true:=by rfl)
  (hs:isSet iter=false:=by rfl):ZS X (.For tg iter body [] pos) (fun ρ A=>loopAt T G m (F ρ A) ρ):=
 ⟨(xu hp hc (RD hi.h) hg.h hb.h (dY hs)).weak fun D σ H ⟨B0,H0,B,A,ρ,rS,g,ha,r,n,q⟩=>⟨B,A,ρ,ha,r,n,((dH.bind q).imp fun c A' x=>x.grow rS g).mono fun t A1 qt=>by
   have key:∃j us,t=.at j/\A1[j]?=some (.lst us)/\dH (XE X B0 H0) (fW T G j m 0 ρ A1) (kB X D B0 H0):=by
    split at qt
    ·rename_i j;split at qt
     ·rename_i us ej;exact⟨j,us,rfl,ej,qt⟩
     ·exact qt.elim
    ·exact qt.elim
   obtain⟨j,us,et,ej,qt⟩:=key;refine⟨j,us,et,ej,fun a B1 H1 Tx jT GR=>?_⟩;have g1:Grows B0 H0 B1 H1:=g.trans rS Tx;have x8:HB B1 H1:=jT.hb;refine⟨fun i k bP H'=>∃B' A' fh,Grows B1 H1 B' H'/\HA X.K B' A' H'/\bg X.K B' H' bP fh/\dE fh/\dH (XE X B0 H0) (fW T G j k i fh A') (kB X D B0 H0),⟨m,B1,A1,ρ,.refl,jT,r.grow n Tx,n,qt⟩,?_⟩
   rintro i k bP H' ⟨B',A',fh,g',d0,r',n',q'⟩
   have AH:B'.ix a=some j:=g'.fY.x a j GR;cases k with
   |zero=>exact(show False from q').elim
   |succ k=>
    unfold fW at q';split at q'
    ·rename_i m8 VO;obtain⟨vs,e1,rr⟩:=Jt d0 AH VO;have hl:=rr.length;split at q'
     ·rename_i eu;refine .inl ⟨⟨vs,iw.of e1,?_⟩,q' bP B' H' (g1.trans rS g') d0 r' n'⟩;rw[hl];exact lr.mp eu
     ·rename_i t eu;obtain⟨v,ev,rv⟩:=rr.get eu;refine .inr ⟨⟨vs,v,iw.of e1,ev⟩,fun rX H2=>∃B2 A2 ρ2,Grows B1 H1 B2 H2/\HA X.K B2 A2 H2/\bg X.K B2 H2 rX ρ2/\dE ρ2/\dH (XE X B0 H0) (fW T G j k (i+1) ρ2 A2) (kB X D B0 H0),
       fun rX H2 x=>⟨k,jn k,x⟩,fun x H2 hx=>?_⟩
      obtain⟨eh,hx⟩:=hx;subst eh;have ex:v=x:=by have z:=hx vs (iw.of e1);rw[ev]at z;exact Option.some.inj z
      subst ex;refine CT hT x8 g' d0 r' n' rv (dH.bind q') fun ρ1 xq H3 q1 g3 AV r3 n3 _=>?_
      refine⟨B1,H1,B',A',ρ1,x8,g3,AV,r3,n3,((dH.bind q1).imp fun c Tp x=>x.grow rS g1).mono fun o A4 qo=>?_⟩;cases o with
      |nx ρ2=>exact fun AW B4 H4 g4 ng r4 n4=>⟨B4,A4,ρ2,g4,ng,r4,n4,qo⟩
      |ct ρ2=>exact fun AW B4 H4 g4 ng r4 n4=>⟨B4,A4,ρ2,g4,ng,r4,n4,qo⟩
      |bk ρ2=>exact fun AW B4 H4 g4 ng r4 n4=>qo AW B4 H4 (g1.trans rS g4) ng r4 n4
      |ret t=>exact fun v B4 H4 g4 ng r4=>qo v B4 H4 (g1.trans rS g4) ng r4
    ·exact(show False from q').elim⟩⟩
end
end L2
namespace L2
open PySem
def Pm(m:Nat):Nat->Nat->Nat
 |0,i=>i
 |k+1,i=>Pm m k ((i*5+1) % (m+1))
def zB(m:Nat):Bool:=(List.range (m+1)).all fun i=>(List.range (m+1)).all fun j=>(List.range (m+1)).any fun k=>Pm m k i==j
theorem VP:zB 7=true:=by decide+kernel
theorem RE:zB 31=true:=by decide+kernel
theorem Di{m i j:Nat}(hm:m=7\/m=31)(hi:i<=m)(hj:j<=m):∃k,k<=m/\Pm m k i=j:=by
 have h:zB m=true:=by rcases hm with rfl|rfl;exact VP;exact RE
 unfold zB at h;have h1:=bF.mp (bF.mp h i (cN.mpr (pK hi))) j (cN.mpr (pK hj));obtain⟨k,hk,e⟩:=List.any_eq_true.mp h1;exact⟨k,gc (cN.mp hk),eq_of_beq e⟩
def yk(m:Nat):Nat->Nat×Nat->Nat×Nat
 |0,p=>p
 |k+1,p=>yk m k (SetTable.leap m p.1 p.2)
theorem zC{m:Nat}:∀(a b:Nat) (p:Nat×Nat),yk m (a+b) p=yk m b (yk m a p)
 |0,b,p=>by rw[ju];rfl
 |a+1,b,p=>by rw[Nat.add_right_comm];exact zC a b _
theorem zD{m:Nat}:∀(k:Nat) (p:Nat×Nat),(yk m k p).2=p.2/32 ^k
 |0,p=>by rw[Nat.pow_zero,Nat.div_one];rfl
 |k+1,p=>by
  show(yk m k (SetTable.leap m p.1 p.2)).2=_;rw[zD k];show p.2/32/32 ^k=_;rw[Nat.div_div_eq_div_mul,Nat.pow_succ,Nat.mul_comm]
theorem Dj{m:Nat}:∀(k:Nat) (p:Nat×Nat),p.1<=m->(yk m k p).1<=m
 |0,p,h=>h
 |k+1,p,h=>Dj k _ (gc (gA _ (jv m)))
theorem wz{m:Nat}:∀(k i:Nat),yk m k (i,0)=(Pm m k i,0)
 |0,i=>rfl
 |k+1,i=>by
  show yk m k ((i*5+1+0/32) % (m+1),0/32)=_;rw[Nat.zero_div,Nat.add_zero,wz k];rfl
theorem reach{m i j pt:Nat}(hm:m=7\/m=31)(hi:i<=m)(hp:pt<2 ^64)(hj:j<=m):∃k,k<=m+13/\(yk m k (i,pt)).1=j:=by
 have h2:(yk m 13 (i,pt)).2=0:=by
  rw[zD];exact Nat.div_eq_of_lt (bx hp (by decide))
 have h1:=Dj (m:=m) 13 (i,pt) hi;obtain⟨k,hk,e⟩:=Di hm h1 hj;refine⟨13+k,by omega,?_⟩;rw[zC,show yk m 13 (i,pt)=((yk m 13 (i,pt)).1,0) by rw[<-h2],wz];exact e
theorem zE(h:Int):SetTable.bits h<2 ^64:=by
 unfold SetTable.bits;have h1:=pX h (show(2 ^64:Int)≠0 by decide);have h2:=pG h (show(0:Int)<2 ^64 by decide);omega
theorem iM{m i:Nat}:i<=SetTable.runEnd m i/\SetTable.runEnd m i<=i+9/\(i<=m->SetTable.runEnd m i<=m):=by
 unfold SetTable.runEnd;split<;>exact⟨by omega,by omega,fun _=>by omega⟩
theorem zF{m j:Nat}{owner:Array (Option Nat)}(ho:owner.getD j (some 0)=none):∀(k fuel i pt:Nat),k<fuel->(yk m k (i,pt)).1=j->∃j',SetTable.layClean.free m owner fuel i pt=some j'/\owner.getD j' (some 0)=none
 |k,0,i,pt,h,_=>by omega
 |k,f+1,i,pt,h,e=>by
  unfold SetTable.layClean.free;cases q:(List.range (SetTable.runEnd m i+1 - i)).find? (fun k=>(owner.getD (i+k) (some 0)).isNone)with
  |some c=>
   have hc:=List.find?_some q;refine⟨i+c,rfl,?_⟩;cases z:owner.getD (i+c) (some 0)with
   |none=>rfl
   |some _=>rw[z]at hc;cases hc
  |none=>
   have h0:=List.find?_eq_none.mp q 0 (cN.mpr (by have:=(iM (m:=m) (i:=i)).1;omega));cases k with
   |zero=>
    have e':i=j:=e;subst e';rw[Nat.add_zero,ho]at h0;exact absurd rfl h0
   |succ k=>exact zF ho k f _ _ (by omega) e
structure LC(m:Nat)(L:List Nat)(owner:Array (Option Nat)):Prop where
 sz:owner.size=m+1
 nd:L.Nodup
 le:∀x∈L,x<=m
 at':∀(j c:Nat),owner[j]?=some (some c)↔L[c]?=some j
theorem RF:∀(n:Nat) (L:List Nat),L.length<n->∃j,j<n/\j∉L
 |0,_,h=>by omega
 |n+1,L,h=>by
  by_cases q:n∈L
  ·obtain⟨j,hj,nj⟩:=RF n (L.erase n) (by rw[List.length_erase_of_mem q];have:=List.length_pos_of_mem q;omega);exact⟨j,by omega,fun z=>nj ((List.mem_erase_of_ne (by omega)).mpr z)⟩
  ·exact⟨n,by omega,q⟩
theorem getD_none{owner:Array (Option Nat)}{j:Nat}(h:owner.getD j (some 0)=none):owner[j]?=some none:=by
 rw[cj]at h;cases e:owner[j]? with
 |none=>rw[e]at h;cases h
 |some x=>rw[e]at h;exact bB some h
theorem LC.free {m:Nat}{L:List Nat}{owner:Array (Option Nat)}(h:LC m L owner){j:Nat}(hj:j<=m)(n:j∉L):owner.getD j (some 0)=none:=by
 have dX:j<owner.size:=by rw[h.sz];omega
 rw[cj,cH dX];cases e:owner[j]with
 |none=>rfl
 |some c=>
  have:=(h.at' j c).mp (by rw[cH dX,e]);exact absurd (bJ this) n
theorem LC.snoc {m:Nat}{L:List Nat}{owner:Array (Option Nat)}(h:LC m L owner){j:Nat}(hj:owner[j]?=some none):LC m (L++[j]) (owner.setIfInBounds j (some L.length)):=by
 have dX:j<owner.size:=(vo.mp hj).1;have nm:j∉L:=fun z=>by
  obtain⟨c,hc⟩:=jg z;have:=(h.at' j c).mpr hc;rw[hj]at this;cases this
 refine⟨by rw[Array.size_setIfInBounds];exact h.sz,?_,?_,fun i c=>?_⟩
 ·rw[h_];refine⟨h.nd,by simp,fun a ha b hb=>?_⟩;rw[cn.mp hb];exact fun z=>nm (z▸ha)
 ·intro x hx;rcases eM.mp hx with hx|hx
  ·exact h.le x hx
  ·rw[cn.mp hx];rw[h.sz]at dX;omega
 ·by_cases z:i=j
  ·subst z;rw[Array.getElem?_setIfInBounds_self_of_lt dX];constructor
   ·intro e;cases e;rw[d_ (ar _),gy];rfl
   ·intro e;by_cases hc:c<L.length
    ·rw[ck hc]at e;exact absurd (bJ e) nm
    ·have h1:=(cX.mp e).1;rw[bj,j6]at h1;have:c=L.length:=by omega
     rw[this]
  ·rw[Array.getElem?_setIfInBounds_ne (b_ z),h.at'];by_cases hc:c<L.length
   ·rw[ck hc]
   ·rw[d_ (by omega),lr.mpr (by omega)];constructor
    ·intro e;cases e
    ·intro e;have h2:=bJ e;exact absurd (cn.mp h2) z
def oP(m:Nat)(acc:Option (Array (Option Nat)×Nat))(h:Int):Option (Array (Option Nat)×Nat):=do
    let(owner,k)<-acc
    let j<-SetTable.layClean.free m owner (SetTable.turns m) (SetTable.bits h % (m+1)) (SetTable.bits h)
    pure (owner.setIfInBounds j (some k),k+1)
theorem wA{m:Nat}(hm:m=7\/m=31):∀(hs:List Int) (L:List Nat) (owner:Array (Option Nat)),LC m L owner->L.length+hs.length<=m+1->∃L' uL,hs.foldl (oP m) (some (owner,L.length))=some (uL,L'.length)/\LC m L' uL/\L'.length=L.length+hs.length
 |[],L,owner,h,_=>⟨L,owner,rfl,h,rfl⟩
 |x::hs,L,owner,h,hl=>by
  rw[bp]at hl;obtain⟨j,hj,nj⟩:=RF (m+1) L (by omega);have hf:=h.free (gc hj) nj;obtain⟨k,hk,e⟩:=reach (pt:=SetTable.bits x) (i:=SetTable.bits x % (m+1)) hm (gc (gA _ (jv m))) (zE x) (gc hj);obtain⟨j',e1,e2⟩:=zF hf k (SetTable.turns m) _ _ (by unfold SetTable.turns;omega) e;have h':=h.snoc (getD_none e2);obtain⟨L',uL,q1,q2,q3⟩:=wA hm hs _ _ h' (by rw[bj,j6];omega);refine⟨L',uL,?_,q2,by rw[q3,bj,j6,bp];omega⟩;rw[List.foldl_cons];have es:oP m (some (owner,L.length)) x=some (owner.setIfInBounds j' (some L.length),L.length+1):=by
   unfold oP;show(SetTable.layClean.free m owner (SetTable.turns m) (SetTable.bits x % (m+1)) (SetTable.bits x)).bind _=_;rw[e1];rfl
  rw[es];rw[bj]at q1;exact q1
theorem i9{α:Type}:∀(l:List α),(List.range l.length).filterMap (fun i=>l[i]?)=l
 |[]=>rfl
 |x::l=>by
  rw[bp,List.range_succ_eq_map,j9,List.filterMap_map];show x::(List.range l.length).filterMap (fun i=>l[i]?)=_;rw[i9 l]
theorem FA{m f mv:Nat}{ld pl:Bool}(hm:m=7\/m=31){es:Array (Int×Value)}(hn:es.size<=m):∃t' order,SetTable.laid m f mv ld pl (es.map (·.1))=some (t',order)/\t'.mask=m/\t'.dummies=#[]/\t'.led=ld/\t'.plain=pl/\kN t'.place/\(∀x∈t'.place.toList,x<=m)/\t'.place.size=es.size/\(order.filterMap (es[·]?)).toList.Perm es.toList:=by
 have h0:LC m [] (Array.replicate (m+1) none):=⟨by simp,ij,(fun x hx=>by cases hx),fun j c=>by
  constructor
  ·intro e;rw[Array.getElem?_replicate]at e;split at e<;>cases e
  ·intro e;simp at e⟩
 have Ju:(es.map (·.1)).toList.length=es.size:=by simp
 obtain⟨L,owner,q1,q2,q3⟩:=wA hm (es.map (·.1)).toList [] _ h0 (by rw[Ju];show 0+es.size<=_;omega);rw[Ju]at q3;have q3:L.length=es.size:=q3.trans (ju _);have ec:SetTable.layClean m (es.map (·.1))=some owner:=by
  unfold SetTable.layClean;rw[<-Array.foldl_toList];show Option.map _ ((es.map (·.1)).toList.foldl (oP m) (some (Array.replicate (m+1) none,([]:List Nat).length)))=_;rw[q1];rfl
 have Po:∀j c,owner.getD j none=some c↔L[c]?=some j:=fun j c=>by
  rw[<-q2.at',cj];cases e:owner[j]? with
  |none=>simp
  |some x=>simp
 have NI:((List.range (m+1)).filterMap fun j=>(owner.getD j none).map (j,·)).Pairwise fun a b=>a.1<b.1:=by
  refine List.Pairwise.filterMap _ (fun a a' RG b hb b' jc=>?_) List.pairwise_lt_range;cases e:owner.getD a none with
  |none=>rw[e]at hb;cases hb
  |some c=>
   cases e':owner.getD a' none with
   |none=>rw[e']at jc;cases jc
   |some c'=>rw[e]at hb;rw[e']at jc;cases hb;cases jc;exact RG
 have NJ:((List.range (m+1)).filterMap fun j=>(owner.getD j none).map (j,·)).Pairwise fun a b=>a.2≠b.2:=by
  refine List.Pairwise.filterMap _ (fun a a' RG b hb b' jc=>?_) List.pairwise_lt_range;cases e:owner.getD a none with
  |none=>rw[e]at hb;cases hb
  |some c=>
   cases e':owner.getD a' none with
   |none=>rw[e']at jc;cases jc
   |some c'=>
    rw[e]at hb;rw[e']at jc;cases hb;cases jc;intro z;have z:c=c':=z;subst z;have h1:=(Po _ _).mp e;have h2:=(Po _ _).mp e';rw[h1]at h2;cases h2;exact absurd RG (cA _)
 have mem:∀p:Nat×Nat,p∈((List.range (m+1)).filterMap fun j=>(owner.getD j none).map (j,·))↔L[p.2]?=some p.1:=fun p=>by
  rw[ji];constructor
  ·rintro ⟨j,_,e⟩
   cases q:owner.getD j none with
   |none=>rw[q]at e;cases e
   |some c=>rw[q]at e;cases e;exact(Po _ _).mp q
  ·intro e;refine⟨p.1,cN.mpr (pK (q2.le _ (bJ e))),?_⟩;rw[(Po _ _).mpr e];rfl
 have GS:(((List.range (m+1)).filterMap fun j=>(owner.getD j none).map (j,·)).map (·.2)).Perm (List.range es.size):=by
  refine(oY ?_ pR).mpr fun c=>?_
  ·exact List.Pairwise.map _ (fun a b h=>h) NJ
  ·rw[aQ,cN];constructor
   ·rintro ⟨p,hp,rfl⟩
    have:=(cX.mp ((mem p).mp hp)).1;omega
   ·intro hc;exact⟨(L[c]'(by omega),c),(mem _).mpr (aF (by omega)),rfl⟩
 refine⟨_,_,by unfold SetTable.laid;rw[ec];rfl,rfl,rfl,rfl,rfl,?_,?_,?_,?_⟩
 ·show List.Pairwise _ ((List.map _ _).toArray).toList;exact List.Pairwise.map _ (fun a b h=>h) NI
 ·intro x hx;have AH:x∈((List.range (m+1)).filterMap fun j=>(owner.getD j none).map (j,·)).map (·.1):=by simpa using hx
  obtain⟨p,hp,rfl⟩:=aQ.mp AH;exact q2.le _ (bJ ((mem p).mp hp))
 ·have:=GS.length_eq;rw[ai,gb]at this;show((List.map _ _).toArray).size=_;rw[bc,ai];exact this
 ·rw[Array.toList_filterMap];have:=GS.filterMap (fun i=>es[i]?);refine(show List.Perm (List.filterMap _ _) _ from this).trans ?_
  have e:=i9 es.toList;rw[bK]at e;have e2:(fun i:Nat=>es.toList[i]?)=fun i=>es[i]? :=funext fun i=>by rw[cI]
  rw[e2]at e;rw[e]
section
variable {t:SetTable}
def fg(t:SetTable):Nat->SetTable.Probe->SetTable.Probe
 |0,p=>p
 |k+1,p=>fg t k (t.advance p)
theorem qW:∀(a b:Nat) (p:SetTable.Probe),fg t (a+b) p=fg t b (fg t a p)
 |0,b,p=>by rw[ju];rfl
 |a+1,b,p=>by rw[Nat.add_right_comm];exact qW a b _
theorem uM:∀(c:Nat) (p:SetTable.Probe),p.more=c->(fg t (c+1) p).j=(SetTable.leap t.mask p.i p.perturb).1/\(fg t (c+1) p).i=(SetTable.leap t.mask p.i p.perturb).1/\(fg t (c+1) p).perturb=(SetTable.leap t.mask p.i p.perturb).2/\(fg t (c+1) p).more<=9
 |0,p,h=>by
  show(t.advance p).j=_/\(t.advance p).i=_/\(t.advance p).perturb=_/\(t.advance p).more<=9;unfold SetTable.advance;rw[ae (by omega)];refine⟨rfl,rfl,rfl,?_⟩;show SetTable.runEnd t.mask _ - _<=9;have:=(iM (m:=t.mask) (i:=(SetTable.leap t.mask p.i p.perturb).1)).2.1;omega
 |c+1,p,h=>by
  have e:t.advance p={p with j:=p.j+1,more:=p.more - 1}:=by unfold SetTable.advance;rw[ab (by omega)]
  have:=uM c {p with j:=p.j+1,more:=p.more - 1} (by show p.more - 1=c;omega);show(fg t (c+1) (t.advance p)).j=_/\(fg t (c+1) (t.advance p)).i=_/\(fg t (c+1) (t.advance p)).perturb=_/\(fg t (c+1) (t.advance p)).more<=9;rw[e];exact this
theorem tm{j0:Nat}:∀(k:Nat) (p:SetTable.Probe),p.more<=9->(yk t.mask (k+1) (p.i,p.perturb)).1=j0->∃N,N<=10*(k+1)/\(fg t N p).j=j0
 |0,p,h,e=>⟨p.more+1,by omega,(uM p.more p rfl).1.trans e⟩
 |k+1,p,h,e=>by
  obtain⟨h1,h2,h3,h4⟩:=uM (t:=t) p.more p rfl;obtain⟨N,hN,q⟩:=tm (j0:=j0) k (fg t (p.more+1) p) h4 (by rw[h2,h3];exact e);exact⟨p.more+1+N,by omega,by rw[qW];exact q⟩
theorem wB(hm:t.mask=7\/t.mask=31)(h:Int){j0:Nat}(hj:j0<=t.mask):∃N,N<=10*(t.mask+13)/\(fg t N (t.probeStart h)).j=j0:=by
 obtain⟨k,hk,e⟩:=reach (pt:=SetTable.bits h) (i:=SetTable.bits h % (t.mask+1)) hm (gc (gA _ (jv _))) (zE h) hj;cases k with
 |zero=>exact⟨0,bG _,e⟩
 |succ k=>
  obtain⟨N,hN,q⟩:=tm k (t.probeStart h) (by
   show SetTable.runEnd t.mask _ - _<=9;have:=(iM (m:=t.mask) (i:=SetTable.bits h % (t.mask+1))).2.1;omega) e
  exact⟨N,by omega,q⟩
def PB(t:SetTable)(p:SetTable.Probe):Prop:=p.j+p.more<=t.mask/\p.dummy=none
theorem PB.Tz {p:SetTable.Probe}(h:PB t p):PB t (t.advance p):=by
 unfold SetTable.advance;split
 ·exact⟨by have:=h.1;show p.j+1+(p.more - 1)<=_;omega,h.2⟩
 ·refine⟨?_,h.2⟩;show(SetTable.leap t.mask p.i p.perturb).1+(SetTable.runEnd t.mask (SetTable.leap t.mask p.i p.perturb).1 - (SetTable.leap t.mask p.i p.perturb).1)<=_;have hl:(SetTable.leap t.mask p.i p.perturb).1<=t.mask:=gc (gA _ (jv _));have:=iM (m:=t.mask) (i:=(SetTable.leap t.mask p.i p.perturb).1);have:=this.2.2 hl;omega
theorem PB.start (h:Int):PB t (t.probeStart h):=by
 refine⟨?_,rfl⟩;show SetTable.bits h % (t.mask+1)+(SetTable.runEnd t.mask _ - SetTable.bits h % (t.mask+1))<=_;have hl:SetTable.bits h % (t.mask+1)<=t.mask:=gc (gA _ (jv _));have:=iM (m:=t.mask) (i:=SetTable.bits h % (t.mask+1));have:=this.2.2 hl;omega
theorem mD(hd:t.dummies=#[]) (j:Nat):t.slot j=.empty\/∃i,t.slot j=.live i/\t.place[i]?=some j:=by
 unfold SetTable.slot;dsimp only;split
 ·rename_i e;exact .inr ⟨_,rfl,eq_of_beq e⟩
 ·rw[hd,ae (by unfold SetTable.has;simp)];exact .inl rfl
theorem yl(hd:t.dummies=#[]) {j:Nat} (h:j∉t.place.toList):t.slot j=.empty:=by
 rcases mD hd j with e|⟨i,_,e⟩
 ·exact e
 ·exact absurd (by rw[<-cI]at e;exact bJ e) h
theorem zG(hd:t.dummies=#[]) {ha:Nat->Int} {h:Int}:∀(N fuel:Nat) (p:SetTable.Probe),N<fuel->PB t p->t.slot (fg t N p).j=.empty->
  (∃j,SetTable.probe.go t ha h fuel p=some (.empty j none)/\t.slot j=.empty/\j<=t.mask)\/∃j i n,SetTable.probe.go t ha h fuel p=some (.candidate j i (fg t (n+1) p))/\n<N/\t.slot j=.live i/\t.place[i]?=some j/\ha i=h
 |N,0,p,hf,_,_=>by omega
 |N,f+1,p,hf,pb,e=>by
  unfold SetTable.probe.go;rcases mD hd p.j with q|⟨i,q,qi⟩
  ·rw[q];refine .inl ⟨p.j,by rw[pb.2],q,?_⟩;have:=pb.1;omega
  ·rw[q];cases N with
   |zero=>
    rw[show(fg t 0 p).j=p.j from rfl,q]at e;cases e
   |succ N=>
    show(∃j,(if(ha i==h)=true then _ else _)=_/\_)\/∃j i' n,(if(ha i==h)=true then _ else _)=_/\_;by_cases z:(ha i==h)=true
    ·rw[ab z];exact .inr ⟨p.j,i,0,rfl,by omega,q,qi,eq_of_beq z⟩
    ·rw[ae z];rcases zG hd N f (t.advance p) (by omega) pb.Tz e with⟨j,a1,a2,a3⟩|⟨j,i',n,a1,a2,a3⟩
     ·exact .inl ⟨j,a1,a2,a3⟩
     ·exact .inr ⟨j,i',n+1,a1,by omega,a3⟩
end
end L2
namespace L2
open PySem PySem.Spec PySem.Calls PyProof.Rows
def mE(w:World)(p:Int×Value):Int×Value:=p
def oz(w:World)(h:Heap)(a:Addr)(ss:List Value):Prop:=
 ∃(o:Obj) (es:Array (Int×Value)) (ep:Nat) (t:SetTable) (l:List (Int×Value)),h.get? a=some o/\o.ExactSet/\o.data=.set es ep t/\es.toList=l.map (mE w)/\(l.map (·.2)).Perm ss/\True/\es.size<scanBound/\
  t.fits es.size=true/\(vd w=true\/t.led=true)/\kN t.place
theorem oz.typeIs {w:World}{s:Shared}{a:Addr}{ss:List Value}(h:oz w s.heap a ss):s.TypeIs (.ref a) "set":=by
 obtain⟨o,es,ep,t,l,ho,hex,_⟩:=h;exact⟨o,ho,hex.1⟩
theorem oz.keep {w:World}{h h':Heap}{a:Addr}{ss:List Value}(x:oz w h a ss)(k:∀o,h.get? a=some o->h'.get? a=some o):oz w h' a ss:=by
 obtain⟨o,es,ep,t,l,ho,r⟩:=x;exact⟨o,es,ep,t,l,k o ho,r⟩
theorem qX{w:World}(l:List (Int×Value)):l.map (mE w)=l:=List.map_id' l
theorem ym{w:World}{l es:List (Int×Value)}(hp:es.Perm (l.map (mE w))):∃l':List (Int×Value),es=l'.map (mE w)/\l'.Perm l:=⟨es,(qX es).symm,by rw[qX]at hp;exact hp⟩
def sj(p:Int×Value):Value:=p.2
def hW(l:List (Int×Value))(i:Nat)(v:Value):Prop:=(l[i]?).map sj=some v
section
variable {prog:Program}{w:World}{A:Around}{E:Value->Shared->Prop}{s:Shared}{I a:Addr}{o:Obj}{es:Array (Int×Value)}{ep:Nat}{t:SetTable}
theorem wC{l:List (Int×Value)}(he:es.toList=l.map (mE w))(p:Nat):es[p]?=(l[p]?).map (mE w):=by
 rw[<-cI,he,aU]
theorem yn(hb:vd w=true)(hd:o.data=.set es ep t)(hf:t.fits es.size=true){l:List (Int×Value)}(he:(pickOrder (w.params.setOrder a ep) es).toList=l.map (mE w))(hl:l.length=es.size)(fb:I≠a)(A':Around)(hh:A'.handled=none):
  Walks prog w A' I [I,a] [I] l.length (hW l) (fun i h=>h.get? I=some (nU (rawInt 0) i a es.size ep)/\h.get? a=some o) where
 sub:=fun b hb=>by simp at hb;simp[hb]
 frame:=fun i h h' st k=>⟨k I (by simp) _ st.1,k a (by simp) _ st.2⟩
 item:=fun i s Q E hi st hQ=>by
  have e1:(pickOrder (w.params.setOrder a ep) es)[i]?=(l[i]?).map (mE w):=by rw[<-cI,he,aU]
  rw[aF hi]at e1;refine uA (slot:=0) (r:=some ((mE w l[i]).2,0)) hh st.1 st.2 hd hf (fun B E' Q' q=>sM hb st.2 hd hf (by rw[e1];exact q)) (fun x nx e h' g sb=>?_) fun e=>nomatch e;cases e;exact hQ _ h' s.toks (by unfold hW;rw[aF hi];rfl) ⟨g,(sb.2 a (b_ fb)).trans st.2⟩ fun b o hb e=>sb.extBut b o (fun z=>hb (by simp[z])) e
 done:=fun s Q E st hQ=>by
  have e1:(pickOrder (w.params.setOrder a ep) es)[l.length]?=none:=by
   rw[<-cI,he,aU,lr.mpr (ar _)];rfl
  refine uA (slot:=0) (r:=none) hh st.1 st.2 hd hf (fun B E' Q' q=>sM hb st.2 hd hf (by rw[e1];exact q)) (fun x nx e=>nomatch e) fun _ h' eb=>?_
  exact hQ h' s.toks fun b o hb e=>eb b o (fun z=>hb (by simp[z])) e
 self:=fun i s Q E st hQ=>uB st.1 hQ
theorem Bf(hb:vd w=false)(hl:t.led=true)(hz:t.plain=true\/es.size<=1)(hr:kN t.place)(hd:o.data=.set es ep t)(hf:t.fits es.size=true){l:List (Int×Value)}(he:es.toList=l.map (mE w))(fb:I≠a)(A':Around)(hh:A'.handled=none):
  Walks prog w A' I [I,a] [I] l.length (hW l) (fun i h=>h.get? I=some (nU (rawInt (slotAt t i:Nat)) i a es.size ep)/\h.get? a=some o):=by
 have hlen:l.length=es.size:=by have q:=bB List.length he;rw[bK,ai]at q;exact q.symm
 have KZ:t.place.size=es.size:=by
  simp only[SetTable.fits,aK,iu]at hf;exact hf.1
 exact{
  sub:=fun b hb=>by simp at hb;simp[hb]
  frame:=fun i h h' st k=>⟨k I (by simp) _ st.1,k a (by simp) _ st.2⟩
  item:=fun i s Q E hi st hQ=>by
   have e0:es[i]?=some (mE w l[i]):=by rw[wC he,aF hi];rfl
   have e1:t.place[i]?=some (t.place.getD i 0):=by rw[cj,cH (by omega)];rfl
   refine uA (slot:=slotAt t i) (r:=some ((mE w l[i]).2,t.place.getD i 0+1)) hh st.1 st.2 hd hf (fun B E' Q' q=>vX hb hl hz st.2 hd hf (by rw[qL hr (by omega),e0,e1];exact q)) (fun x nx e h' g sb=>?_) fun e=>nomatch e;cases e;exact hQ _ h' s.toks (by unfold hW;rw[aF hi];rfl) ⟨g,(sb.2 a (b_ fb)).trans st.2⟩ fun b o hb e=>sb.extBut b o (fun z=>hb (by simp[z])) e
  done:=fun s Q E st hQ=>by
   have e1:es[l.length]?=none:=lq.mpr (by omega)
   refine uA (slot:=slotAt t l.length) (r:=none) hh st.1 st.2 hd hf (fun B E' Q' q=>vX hb hl hz st.2 hd hf (by rw[qL hr (by omega),e1];exact q)) (fun x nx e=>nomatch e) fun _ h' eb=>?_
   exact hQ h' s.toks fun b o hb e=>eb b o (fun z=>hb (by simp[z])) e
  self:=fun i s Q E st hQ=>uB st.1 hQ}
theorem wD{tp:Addr}{ot:Obj}{ps:List Nat}{m:Nat}(hd:o.data=.set es ep t)(hf:t.fits es.size=true)(O9:ot.data=.seq (ps.map fun i=>rawInt (i:Nat)).toArray m){l l':List (Int×Value)}(he:es.toList=l.map (mE w))(VQ:∀i:Nat,l'[i]?=(ps[i]?).bind fun p=>l[p]?)(KZ:∀p∈ps,p<l.length)
  (hlen:l'.length=ps.length) (fb:I≠a) (VR:I≠tp) (A':Around) (hh:A'.handled=none):
  Walks prog w A' I [I,a,tp] [I] l'.length (hW l') (fun i h=>h.get? I=some (nU (.ref tp) i a es.size ep)/\h.get? a=some o/\h.get? tp=some ot) where
 sub:=fun b hb=>by simp at hb;simp[hb]
 frame:=fun i h h' st k=>⟨k I (by simp) _ st.1,k a (by simp) _ st.2.1,k tp (by simp) _ st.2.2⟩
 item:=fun i s Q E hi st hQ=>by
  have RH:i<ps.length:=by omega
  have n8:(ps.map fun i=>rawInt (i:Nat)).toArray[i]?=some (rawInt (ps[i]:Nat)):=by simp[RH]
  have hp:ps[i]<l.length:=KZ _ (ib RH);have e1:es[ps[i]]?=some (mE w l[ps[i]]):=by rw[wC he,aF hp];rfl
  have e2:l'[i]?=some l[ps[i]]:=by rw[VQ,aF RH];exact aF hp
  refine Cz hh st.1 st.2.1 hd hf st.2.2 O9 (fun p e h1 h2 h' g sb=>?_) (fun z=>by rw[n8]at z;cases z) (fun v hv=>?_)
  ·rw[n8]at h1;have RI:((ps[i]:Nat):Int)=(p:Int):=by
    have q:=Option.some.inj h1;injection q
   have RJ:ps[i]=p:=by omega
   subst RJ;rw[e1]at h2;cases h2;exact hQ _ h' s.toks (by unfold hW;rw[e2];rfl) ⟨g,(sb.2 a (b_ fb)).trans st.2.1,(sb.2 tp (b_ VR)).trans st.2.2⟩ fun b o hb e=>sb.extBut b o (fun z=>hb (by simp[z])) e
  ·rw[n8]at hv;cases hv;exact⟨_,_,rfl,e1⟩
 done:=fun s Q E st hQ=>by
  have n8:(ps.map fun i=>rawInt (i:Nat)).toArray[l'.length]?=none:=by simp[hlen]
  refine Cz hh st.1 st.2.1 hd hf st.2.2 O9 (fun p e h1=>by rw[n8]at h1;cases h1) (fun _ h' eb=>?_) (fun v hv=>by rw[n8]at hv;cases hv);exact hQ h' s.toks fun b o hb e=>eb b o (fun z=>hb (by simp[z])) e
 self:=fun i s Q E st hQ=>uB st.1 hQ
theorem Bg{ss:List Value}{Q:Value->Shared->Prop}(hS:oz w s.heap a ss)
  (hQ:∀(h':Heap) (d:Drawn) (I:Addr) (fp:List Addr) (St:Nat->Heap->Prop) (l:List (Int×Value)),(l.map (·.2)).Perm ss->(∀b o,s.heap.get? b=some o->h'.get? b=some o)->s.heap.objs.size<=I->(∀b∈fp,b=a\/s.heap.objs.size<=b)->
   (∀A':Around,A'.handled=none->Walks prog w A' I fp [I] l.length (hW l) St)->St 0 h'->Q (.ref I) {s with heap:=h',drawn:=d}):wpAny (model prog w) A (pyIter (.ref a)) Q E s:=by
 obtain⟨o,es,ep,t,l,ho,hex,hd,he,hp,hn,hb,hf,hl,n8⟩:=id hS;have dX:a<s.heap.objs.size:=aw ho;have hlen:l.length=es.size:=by have q:=bB List.length he;rw[bK,ai]at q;exact q.symm
 refine p7 hS.typeIs PySem.F.slot_set_iter (dv PySem.F.slot_set_iter hS.typeIs oj ?_ (PySem.F.args_set_iter_1 _));unfold Builtin.«frozenset.__iter__»;refine aa (m:=Builtin.Frozenset.slot0 "__iter__" _) (af ?_);refine aa ?_
 unfold Builtin.Frozenset.sizeOf;refine aa (hJ ho hd hf (af ?_));refine aa ?_
 unfold setDrawn;refine aa (eJ ho hd hf ?_);dsimp only;refine aa (kb (af ?_));refine fJ (fun TC=>?_) (fun TC=>?_)
 ·
  refine aa (kA _ _ _ _ (gb ..) fun ps d KZ=>?_);have hz:((ps.map fun(i:Nat)=>rawInt i)).length<=sizeLine:=by
   rw[ai,KZ.length_eq,gb];exact fits_of_scanBound hb
  refine aa (lX (hsz:=hz) ?_);have GJ:(s.heap.push {cls:=.type "tuple",data:=.seq (ps.map fun(i:Nat)=>rawInt i).toArray}).get? a=some o:=aB _ ho;have Il:(s.heap.push {cls:=.type "tuple",data:=.seq (ps.map fun(i:Nat)=>rawInt i).toArray}).objs.size=s.heap.objs.size+1:=fK ..;refine aa (wpAny_setEpoch_of GJ hd hf ?_);refine aa (eG ?_);refine af ⟨_,rfl,"set_iterator",_,⟨_,aT _ rfl,rfl⟩,cf.lookup,?_⟩;have NK:∀p∈ps,p<l.length:=fun p hm=>by
   have q:=cN.mp (KZ.mem_iff.mp hm);omega
  have tw:(ps.map fun p=>l.getD p (0,Value.none)).Perm l:=by
   have q:=KZ.map fun p=>l.getD p (0,Value.none);have e:(List.range es.size).map (fun p=>l.getD p (0,Value.none))=l:=by
    rw[<-hlen];refine List.ext_getElem (by simp) fun i h1 h2=>?_
    simp[h2]
   rw[e]at q;exact q
  refine hQ _ d _ [_,a,s.heap.objs.size] _ (ps.map fun p=>l.getD p (0,Value.none)) ((tw.map _).trans hp) (fun b o e=>aB _ (aB _ e)) (by rw[Il];exact gz _) (fun b hm=>?_)
   (fun A' hA=>wD (ot:={cls:=.type "tuple",data:=.seq (ps.map fun(i:Nat)=>rawInt i).toArray}) (ps:=ps) hd hf rfl he (fun i=>?_) NK (ai ..) ?_ ?_ A' hA)
   ⟨aT _ rfl,aB _ GJ,aB _ (aT _ rfl)⟩
  ·simp only[aP,eK,dh]at hm;rcases hm with rfl|rfl|rfl
   ·right;rw[Il];exact gz _
   ·left;rfl
   ·right;exact ar _
  ·rw[aU];cases e:ps[i]? with
   |none=>rfl
   |some p=>
    have n8:=NK p (bJ e);show some (l.getD p (0,Value.none))=l[p]?
    rw[bH,aF n8];rfl
  ·rw[Il];exact cp (h9 dX)
  ·rw[Il];exact Nat.succ_ne_self _
 ·refine aa (af ?_);refine aa (wpAny_setEpoch_of ho hd hf ?_);refine aa (eG ?_);refine af ⟨_,rfl,"set_iterator",_,⟨_,aT _ rfl,rfl⟩,cf.lookup,?_⟩;have Pp:∀b∈[s.heap.objs.size,a],b=a\/s.heap.objs.size<=b:=fun b hm=>by
   simp only[aP,eK,dh]at hm;rcases hm with rfl|rfl
   ·exact .inr (ar _)
   ·exact .inl rfl
  have fb:s.heap.objs.size≠a:=cp dX;cases Pq:vd w with
  |true=>
   have RI:=AE (w.params.setOrder a ep) es;rw[he]at RI;obtain⟨l2,e2,p2⟩:=ym RI;exact hQ _ s.drawn _ [_,a] _ l2 ((p2.map _).trans hp) (fun b o e=>aB _ e) (ar _) Pp (fun A' hA=>yn Pq hd hf e2 (p2.length_eq.trans hlen) fb A' hA) ⟨aT _ rfl,aB _ ho⟩
  |false=>
   have VS:t.plain=true\/es.size<=1:=by
    cases hp:t.plain with
    |true=>exact .inl rfl
    |false=>
     refine .inr (pP fun hz=>TC ?_);show(!vd w&&(!t.plain&&decide (es.size>1)))=true;rw[Pq,hp,bA hz]
     rfl
   have RK:t.led=true:=hl.resolve_left (by rw[Pq];exact cz);exact hQ _ s.drawn _ [_,a] _ l hp (fun b o e=>aB _ e) (ar _) Pp (fun A' hA=>Bf Pq RK VS n8 hd hf he fb A' hA) ⟨aT _ rfl,aB _ ho⟩
variable {ss:List Value}
theorem wF{R:Result->Shared->Prop}(hh:A.handled=none)(hS:oz w s.heap a ss)(L:Addr)(TF:L≠a)(res:Value)(hL:s.heap.get? L=some {cls:=.type "list",data:=.seq #[] 0})
  (hR:∀h' tk d gR c' l,(l.map (·.2)).Perm ss->(∀b o,b≠L->s.heap.get? b=some o->h'.get? b=some o)->h'.get? L=some {cls:=.type "list",dict:=none,data:=.seq gR c',slots:=#[]}->ItemsOf (hW l) gR l.length->
   R (.ok (.ret res)) {s with heap:=h',toks:=tk,drawn:=d}) (hn:ss.length<=sizeLine):
  wpAny (model prog w) A.in1 (Builtin.List.listExtendWith (.ref L) (.ref a) res) (fun fin s'=>match fin with|.done f=>R (.ok f) s'|.again c'=>c'.quiet=true/\codeAny (model prog w) A c' R s') (fun e s'=>R (.error e) s') s:=by
 have NL:L<s.heap.objs.size:=aw hL;unfold Builtin.List.listExtendWith;refine aa (iq (T:="set") hS.typeIs ?_);have h1:Builtin.List.listSameRef (.ref L) (.ref a)=false:=by simp[Builtin.List.listSameRef,TF]
 have h2:(Value.type "set"==Value.type "list")=false:=by decide
 have h3:(Value.type "set"==Value.type "tuple")=false:=by decide
 simp only[h1,h2,h3,lS,bV,bC];refine aa (Bg hS fun di d I fp St l hp hk hI Pp W st=>?_);have hlen:l.length=ss.length:=by have q:=hp.length_eq;rw[ai]at q;exact q
 have RL:Shared.TypeIs {s with heap:=di,drawn:=d} (.ref a) "set":=by
  obtain⟨o,ho,hc⟩:=hS.typeIs;exact⟨o,hk _ _ ho,hc⟩
 have TH:L∉fp:=fun m=>by
  rcases Pp L m with e|e
  ·exact TF e
  ·exact absurd (bx NL e) (cA _)
 have Xr:L≠I:=aS (bx NL hI);have MU:=hk _ _ hL;have key:∀(h:Heap) (c₁ tk:Nat),St 0 h->(∀b o,b≠L->s.heap.get? b=some o->h.get? b=some o)->h.get? L=some {cls:=.type "list",data:=.seq #[] c₁}->
   codeAny (model prog w) A (.builtin "list.extend.loop" ⟨[.ref L,.ref I,res],[]⟩) R {s with heap:=h,toks:=tk,drawn:=d}:=by
  intro h c₁ tk cZ Pr NM;refine codeAny_extend_loopS (W A.in1 hh).toS (by omega) L TH res l.length 0 _ #[] c₁ rfl (bG _) cZ NM (ItemsOf.nil _) fun s' gR c' hm yo ny=>?_
  rw[Moved.eq_with hm];refine hR s'.heap s'.toks d gR c' l hp (fun b o hb e=>hm.heap b o (fun Jv=>?_) (Pr b o hb e)) yo ny;rcases aP.mp Jv with e'|Jv
  ·exact hb e'
  ·exact absurd (bx (aw e) hI) (by rw[cn.mp Jv];exact cA _)
 refine aa (cB (CB RL ?_));refine fJ (fun _=>?_) (fun _=>af ⟨dB PySem.F.plain_extend_loop _,key _ 0 _ st (fun b o _ e=>hk b o e) MU⟩);refine aa (eO ?_);refine aa ?_
 show wpAny _ _ (updateSeq L (·.push .none)>>=fun _=>updateSeq L (·.pop)) _ _ _;refine aa (jr MU rfl ?_);have GU:=j8 (Obj.mapSeq (·.push Value.none)) MU rfl;refine jr (hz:=by seq_fits) GU rfl ?_
 have NN:=j8 (Obj.mapSeq (·.pop)) GU rfl;refine af ⟨dB PySem.F.plain_extend_loop _,key _ _ _ ?_ (fun b o hb e=>?_) NN⟩
 ·refine(W A.in1 hh).frame 0 _ _ st fun b hb o e=>?_
  have TJ:b≠L:=fun z=>TH (z▸hb);exact(gU _ _ (b_ TJ)).trans ((gU _ _ (b_ TJ)).trans e)
 ·exact(gU _ _ (b_ hb)).trans ((gU _ _ (b_ hb)).trans (hk b o e))
theorem uN{R:List Value->Shared->Prop}(hh:A.handled=none)(hS:oz w s.heap a ss)(hn:ss.length<=sizeLine)
  (h:∀(h':Heap) (tk:Nat) (d:Drawn) (l:List (Int×Value)),(l.map (·.2)).Perm ss->(∀b o,s.heap.get? b=some o->h'.get? b=some o)->s.heap.objs.size<=h'.objs.size->R (l.map sj) {s with heap:=h',toks:=tk,drawn:=d}):wpAny (model prog w) A (collect (.ref a)) R E s:=by
 have dX:a<s.heap.objs.size:=by obtain⟨o,ho,_⟩:=hS.typeIs;exact aw ho
 have items:∀(l:List (Int×Value)) (acc:Array Value),ItemsOf (hW l) acc l.length->acc.toList=l.map sj:=fun l acc hi=>by
  refine pL fun i=>?_
  rw[aU,cI];cases e:acc[i]? with
  |none=>
   have h1:acc.size<=i:=lq.mp e;rw[hi.1]at h1;rw[lr.mpr h1];rfl
  |some v=>exact(hi.2 i v e).symm
 unfold collect;refine aa (wpAny_runValue (dQ entry_proto_collect' ?_));rw[eC vm _];show wpAny _ A.in1 (newList []>>=fun l=>again (.builtin "list.__iadd__" ⟨[l,.ref a],[]⟩)) _ _ s;refine aa (eG ?_);refine af ⟨dB lz _,dQ entry_list_iadd' ?_⟩;rw[eC lz _];have hL:(s.heap.push {cls:=.type "list",data:=.seq ([]:List Value).toArray}).get? s.heap.objs.size=some {cls:=.type "list",data:=.seq #[]}:=aT _ rfl;show wpAny _ A.in1 (Builtin.List.listExtendWith (.ref s.heap.objs.size) (.ref a) (.ref s.heap.objs.size)) _ _ _;have key:=wF (prog:=prog) (A:=A) (s:={s with heap:=s.heap.push {cls:=.type "list",data:=.seq ([]:List Value).toArray}}) (ss:=ss)
  (R:=fun(q:Result) (s':Shared)=>∃(h':Heap) (tk:Nat) (d:Drawn) (gR:Array Value) (c':Nat) (l:List (Int×Value)),q=.ok (.ret (.ref s.heap.objs.size))/\s'={s with heap:=h',toks:=tk,drawn:=d}/\
   (l.map (·.2)).Perm ss/\(∀b o,s.heap.get? b=some o->h'.get? b=some o)/\h'.get? s.heap.objs.size=some {cls:=.type "list",dict:=none,data:=.seq gR c',slots:=#[]}/\ItemsOf (hW l) gR l.length)
  hh (hS.keep fun o e=>aB _ e) s.heap.objs.size (cp dX) (.ref s.heap.objs.size) hL
  (fun h' tk d gR c' l hp hk yo ny=>⟨h',tk,d,gR,c',l,rfl,rfl,hp,fun b o e=>hk b o (aS (aw e)) (aB _ e),yo,ny⟩) hn
 refine dC key (fun fin s' x=>?_) fun e s' x=>?_
 ·cases fin with
  |done f=>
   obtain⟨h',tk,d,gR,c',l,e,rfl,hp,hk,yo,ny⟩:=x;cases e;show wpAny _ A (load s.heap.objs.size>>=_) _ _ _;refine aa (jy yo ?_);refine af ?_
   rw[items l gR ny];exact h h' tk d l hp hk (fL (aw yo))
  |again c₁=>
   refine⟨x.1,fM x.2 fun q mV y=>?_⟩;obtain⟨h',tk,d,gR,c',l,rfl,rfl,hp,hk,yo,ny⟩:=y;show wpAny _ A (load s.heap.objs.size>>=_) _ _ _;refine aa (jy yo ?_);refine af ?_
   rw[items l gR ny];exact h h' tk d l hp hk (fL (aw yo))
 ·obtain⟨_,_,_,_,_,_,e',_⟩:=x;cases e'
end
end L2
namespace L2
open PySem PySem.Spec PyProof.Rows
section
variable {prog:Program}{w:World}{A:Around}{E:Value->Shared->Prop}{s:Shared}
theorem Bh{d:Nat}{v:Value}(h:carriedByValue v=true):ofAClassStatement d v=pure false:=by
 cases v<;>first|(cases h;done)|(unfold ofAClassStatement;rfl)
theorem tD{ks:List Key}{a:Addr}{Q:Bool->Shared->Prop}(hk:(tupleKind (ax prog w)).is s.heap ks a)(h:Q false s):wpAny (model prog w) A (ofAClassStatement 8 (.ref a)) Q E s:=by
 have hT:s.TypeIs (.ref a) "tuple":=IsTupleKey.typeIs hk;obtain⟨o,items,n,ho,hc,hd,hi⟩:=hk;unfold ofAClassStatement;refine aa (iq hT ?_);dsimp only;rw[ab (by decide)];refine aa (af ?_);simp only[il,bV,bC];refine aa (dA ho hd ?_);dsimp only;refine aa ?_
 show wpAny _ _ (forIn items _ _) _ _ s;rw[<-lG];refine ig _ (fun rest r s'=>r.1=none/\s'=s/\∀v∈rest,carriedByValue v=true) _ ?_ ?_ _ _ ⟨rfl,rfl,hi.byValue⟩
 ·rintro v rest r s' ⟨hr,rfl,r8⟩
  rw[Bh (r8 v aM)];refine aa (af ?_);simp only[bV,bC];exact af ⟨rfl,rfl,fun u GV=>r8 u (aW _ GV)⟩
 ·rintro ⟨r1,r2⟩ s' ⟨hr,rfl,_⟩
  simp only at hr;subst hr;exact af h
theorem FC{d:Nat}{k:Key}{v:Value}(h:(ax prog w).is k v=true):∃b,hashByValue d v=pure b:=by
 have h:l0 k v=true:=h;cases k with
 |inl i=>cases v<;>first|exact⟨_,by unfold hashByValue;rfl⟩|cases h
 |inr z=>cases v<;>first|exact⟨_,by unfold hashByValue;rfl⟩|cases h
theorem FD{ks:List Key}{a:Addr}{Q:Bool->Shared->Prop}(hk:(tupleKind (ax prog w)).is s.heap ks a)(h:∀b,Q b s):wpAny (model prog w) A (hashByValue 8 (.ref a)) Q E s:=by
 have hT:s.TypeIs (.ref a) "tuple":=IsTupleKey.typeIs hk;obtain⟨o,items,n,ho,hc,hd,hi⟩:=hk;unfold hashByValue;refine aa (wpAny_specialOf hT F.slot_tuple_hash.lookup ?_);refine aa (dA ho hd ?_);dsimp only;refine aa ?_
 show wpAny _ _ (forIn items _ _) _ _ s;rw[<-lG];refine ig _ (fun rest r s'=>r.1=none/\s'=s/\∀v∈rest,∃k,(ax prog w).is k v=true) _ ?_ ?_ _ _ ⟨rfl,rfl,?_⟩
 ·rintro v rest r s' ⟨hr,rfl,r8⟩
  obtain⟨k,hk⟩:=r8 v aM;obtain⟨b,e⟩:=FC (d:=7) hk;rw[e];refine aa (af ?_);cases b with
  |true=>exact af ⟨rfl,rfl,fun u GV=>r8 u (aW _ GV)⟩
  |false=>exact af (af (h _))
 ·rintro ⟨r1,r2⟩ s' ⟨hr,rfl,_⟩
  simp only at hr;subst hr;exact af (h _)
 ·clear ho hc hd hT
  generalize items.toList=aV at hi
  induction hi with
  |nil=>intro v hv;simp at hv
  |cons h1 _ ih=>
   intro v hv;rcases aP.mp hv with rfl|hv
   ·exact⟨_,h1⟩
   ·exact ih v hv
theorem Jw{k:List Key}{b:Addr}{Q:Bool->Shared->Prop}(hk:(tupleKind (ax prog w)).is s.heap k b){l:List Value}(hl:∀y∈l,∃k' c,y=.ref c/\(tupleKind (ax prog w)).is s.heap k' c)(h:Q false s):wpAny (model prog w) A (searchCouldBeSeen (.ref b) l) Q E s:=by
 unfold searchCouldBeSeen;refine aa ?_
 refine ig _ (fun rest r s'=>r.1=none/\s'=s/\∀y∈rest,∃k' c,y=.ref c/\(tupleKind (ax prog w)).is s.heap k' c) _ ?_ ?_ _ _ ⟨rfl,rfl,hl⟩
 ·rintro v rest r s' ⟨hr,rfl,r8⟩
  obtain⟨k',c,rfl,hc⟩:=r8 v aM;have nx:r.1=none/\s'=s'/\∀y∈rest,∃k' c,y=Value.ref c/\(tupleKind (ax prog w)).is s'.heap k' c:=⟨hr,rfl,fun u GV=>r8 u (aW _ GV)⟩;dsimp only;refine fJ (fun _=>af ⟨rfl,rfl,nx.2.2⟩) (fun _=>?_);refine aa ((tupleKind (ax prog w)).quiet hk ?_);simp only[il,bV,bC];refine aa ((tupleKind (ax prog w)).quiet hc ?_);simp only[il,bV,bC];refine aa (tD hk ?_);simp only[bV,bC];refine aa (tD hc ?_);simp only[bV,bC];exact af ⟨rfl,rfl,nx.2.2⟩
 ·rintro ⟨r1,r2⟩ s' ⟨hr,rfl,_⟩
  simp only at hr;subst hr;exact af h
structure qY(t:SetTable)(n:Nat):Prop where
 dm:t.dummies=#[]
 ms:t.mask=7\/t.mask=31
 le:∀x∈t.place.toList,x<=t.mask
 sz:t.place.size=n
 KA:n*5<t.mask*3
 rise:kN t.place
theorem qY.fits {t:SetTable}{n:Nat}(h:qY t n):t.fits n=true:=by
 unfold SetTable.fits SetTable.fill;rw[h.dm,h.sz,bz,Bool.true_and,cK];have:=h.KA;show n+0<=_;omega
theorem qY.odd {t:SetTable}{n:Nat}(h:qY t n):t.gaveWay=false:=by
 unfold SetTable.gaveWay;rcases h.ms with e|e<;>rw[e]<;>rfl
def Jx(prog:Program)(w:World)(p:List Key×Addr):Int×Value:=((tupleKind (ax prog w)).hash p.1,.ref p.2)
theorem Dl{t:SetTable}(hd:t.dummies=#[]) {ha:Nat->Int} {h:Int} {N fuel:Nat} {p:SetTable.Probe} {g:Option SetTable.Met} (hg:SetTable.probe.go t ha h fuel p=g) (hN:N<fuel) (pb:PB t p) (hs:t.slot (fg t N p).j=.empty):
  (∃j,g=some (.empty j none)/\t.slot j=.empty/\j<=t.mask)\/∃j i n,g=some (.candidate j i (fg t (n+1) p))/\n<N/\t.slot j=.live i/\t.place[i]?=some j:=by
 subst hg;rcases zG hd N fuel p hN pb hs with⟨j,e,e1,e2⟩|⟨j,i,n,e,hn,e1,e2,e3⟩
 ·exact .inl ⟨j,e,e1,e2⟩
 ·exact .inr ⟨j,i,n,e,hn,e1,e2⟩
theorem wG{a b:Addr}{o:Obj}{es:Array (Int×Value)}{ep:Nat}{t:SetTable}{k:List Key}{Q:SetFound->Shared->Prop}(hu:A.units<cLine)(ho:s.heap.get? a=some o)(hd:o.data=.set es ep t)(tk:qY t es.size)(hk:(tupleKind (ax prog w)).is s.heap k b)
  (Ju:∀e∈es.toList,∃k' c,e.2=.ref c/\(tupleKind (ax prog w)).is s.heap k' c/\k'≠k) {h:Int}
  (hQ:∀j,t.slot j=.empty->j<=t.mask->Q (.free j false) s):∀(N fuel:Nat) (st:Option SetTable.Probe),N<fuel->N<10*SetTable.turns t.mask->PB t (st.getD (t.probeStart h))->t.slot (fg t N (st.getD (t.probeStart h))).j=.empty->
   wpAny (model prog w) A (setSearchFrom a (.ref b) h true fuel st) Q E s:=by
 have hf:=tk.fits;intro N
 induction N using Nat.strongRecOn with
 |ind N ih=>
  intro fuel st hN VT pb hs;cases fuel with
  |zero=>omega
  |succ fuel=>
   unfold setSearchFrom;refine aa (eJ ho hd hf ?_);dsimp only;rw[tk.odd];simp only[bV,bC];unfold SetTable.probe;generalize hg:SetTable.probe.go t _ h (10*SetTable.turns t.mask) (st.getD (t.probeStart h))=g;rcases Dl tk.dm hg VT pb hs with⟨j,e,e1,e2⟩|⟨j,i,n,e,hn,e1,e2⟩
   ·rw[e];exact af (hQ j e1 e2)
   ·rw[e];dsimp only;have hi:i<es.size:=by rw[<-tk.sz];exact(vo.mp e2).1
    have NO:es[i]?=some es[i]:=cH hi
    obtain⟨k',c,ey,hc,fb⟩:=Ju es[i] (by rw[pq];exact Array.getElem_mem hi);have rest:wpAny (model prog w) A (do
      let some (_,y):=es[i]? |unsupported "internal:set-entry"
      let equal<-holding [y] (eqBool y (.ref b))
      let(Ho,_,t')<-setState a
      if true&&equal then return .there none
      let some same:=t'.sameMemory t.moves t.mask|unsupported "set.changed-during-lookup:is-the-new-block-at-the-old-address"
      let NP<-match(if same then t'.slot j else .empty)with
       |.live i'=>match Ho[i']? with
        |some (_,y')=>do pure (if<-isSame y' y then some i' else none)
        |none=>pure none
       |_=>pure none
      match NP with
      |none=>rule "set.search.anew";setSearchFrom a (.ref b) h true fuel none
      |some i'=>if equal then return .there (some i')else setSearchFrom a (.ref b) h true fuel (some (fg t (n+1) (st.getD (t.probeStart h))))) Q E s:=by
     rw[NO];generalize es[i]=ee at ey NO;obtain⟨eh,ev⟩:=ee;have ey:ev=.ref c:=ey;subst ey;dsimp only;refine aa (cB ((tupleKind (ax prog w)).eqBool hu hc hk ?_));rw[aY fb];refine aa (eJ ho hd hf ?_);dsimp only;simp only[lP,bV,bC];have RC:t.sameMemory t.moves t.mask=some true:=by unfold SetTable.sameMemory;rw[ab (bz _)]
     rw[RC];dsimp only;simp only[fO];rw[e1];dsimp only;rw[NO];dsimp only;refine aa (wpAny_isSame_ref_self ?_);refine aa (af ?_);simp only[fO];refine ih (N - (n+1)) (by omega) fuel (some (fg t (n+1) (st.getD (t.probeStart h)))) (by omega) (by omega) ?_ ?_
     ·show PB t (fg t (n+1) _);have:∀(m:Nat) (p:SetTable.Probe),PB t p->PB t (fg t m p):=by
       intro m
       induction m with
       |zero=>exact fun p h=>h
       |succ m MY=>exact fun p h=>MY _ h.Tz
      exact this _ _ pb
     ·show t.slot (fg t (N - (n+1)) (fg t (n+1) _)).j=_;rw[<-qW,show n+1+(N - (n+1))=N by omega];exact hs
    cases hl:t.led with
    |true=>
     simp only[il,bV,bC];exact rest
    |false=>
     simp only[pZ,fO];refine aa (Jw hk (fun y hy=>?_) ?_)
     ·obtain⟨e',TL,rfl⟩:=aQ.mp hy;have VU:e'∈es.toList:=by
       rw[pq]at TL⊢;exact(Array.mem_filter.mp TL).1
      obtain⟨k2,c2,h1,h2,_⟩:=Ju e' VU;exact⟨k2,c2,h1,h2⟩
     ·simp only[bV,bC];exact rest
end
end L2
namespace L2
open PySem PySem.Spec PyProof.Rows
def VV:TE:=fun σ H Q=>∃v,σ[0]?=some (some v)/\∀p,H p=none->∀q,upd H p (.lst []) q=none->Q (.ref q) (upd (upd H p (.lst [])) q (.tup [v,.ref p]))
structure NB(Y:Cx)(tg elt:Expr):Prop where
 g:PG Y tg (BO 0)
 e:PE Y elt VV
theorem NB.of {Y:Cx}{x:Str}{p0 p1 p2 p3:Pos}{x1:Nat}(hN:Y.N.Nodup)(hi:Y.N[0]?=some x:=by rfl) (hx:Loc Y.env.scope x:=by first|exact Or.inl rfl|exact Or.inr rfl) (hf:Y.fn x=true\/Y.env.scope.names.lookup x=some .local:=by first|exact .inl rfl|exact .inr rfl|assumption)
  (hv:Hn Y.env.scope x:=by first|exact Or.inl rfl|exact Or.inr (Or.inl rfl)|exact Or.inr (Or.inr rfl)) (hd:(x==("__debug__":Str))=false:=by decide) (n6:(x==("__classdict__":Str))=false:=by decide):NB Y (.Name x p0) (.Tuple [.Name x p1,.List [] p2] x1 p3):=
 ⟨ue hN hi hx hf,(BX (iS (BK hi hv hd n6) (iS (BY kG) kG))).weak fun σ H Q ⟨v,e,k⟩=>⟨v,e,(show 0<=sizeLine from bG _),fun p hp=>⟨(show 2<=sizeLine by decide),fun q hq=>k p hp q hq⟩⟩⟩
def Jy:Nat->List Tr->List Tr
 |_,[]=>[]
 |n,t::ts=>.tup [t,.at n]::Jy (n+1) ts
def qZ(r:Rs (List Tr))(A:Ab):Rz Tr:=match r with
 |.ok ts=>if f6 ts=true/\ts.length<=i3 then .ok (.lst (Jy A.length ts)) (A++List.replicate ts.length (.lst []))else .bad
 |_=>.bad
def Dm(H:Hp):List Addr->Hp
 |[]=>H
 |p::ps=>Dm (upd H p (.lst [])) ps
theorem zH:∀{ps:List Addr} {H:Hp} {b:Addr} {o:HO},Dm H ps b=some o->(b∈ps/\o=.lst [])\/H b=some o
 |[],_,_,_,e=>.inr e
 |p::ps,H,b,o,e=>by
  rcases zH (ps:=ps) e with⟨h,z⟩|h
  ·exact .inl ⟨aW _ h,z⟩
  ·by_cases z:b=p
   ·subst z;rw[aH]at h;cases h;exact .inl ⟨aM ..,rfl⟩
   ·rw[ah z]at h;exact .inr h
theorem HA.GW {K:PySem.W.Frag}:∀(ps:List Addr) {B:bQ} {A:Ab} {H:Hp},HA K B A H->ps.Nodup->(∀p∈ps,H p=none)->
  ∃B',Grows B H B' (Dm H ps)/\HA K B' (A++List.replicate ps.length (.lst [])) (Dm H ps)/\(∀k p,ps[k]?=some p->B'.ix p=some (A.length+k))/\∀b,b∉ps->B'.hd b=B.hd b
 |[],B,A,H,ha,_,_=>⟨B,.refl,by rw[show List.replicate ([]:List Addr).length (Ao.lst [])=[]from rfl,dw];exact ha,fun k p e=>by simp at e,fun _ _=>rfl⟩
 |p::ps,B,A,H,ha,nd,hn=>by
  rw[dy]at nd;have hp:=hn p (aM ..);obtain⟨g1,jT⟩:=ha.push (o:=.lst []) (H':=upd H p (.lst [])) hp (au.upd hp) ⟨oK,[],aH,.nil⟩;obtain⟨B',g,h1,h2,h3⟩:=HA.GW ps jT nd.2 fun q m=>by
   rw[ah fun z=>nd.1 (by rw[<-z];exact m)];exact hn q (aW _ m)
  refine⟨B',g1.trans ha.hb g,?_,fun k q e=>?_,fun b m=>?_⟩
  ·rw[gV]at h1;exact h1
  ·cases k with
   |zero=>cases e;exact g.fY.x p A.length gY
   |succ k=>
    have q:=h2 k q e;rw[bj]at q;rw[q];show some (A.length+1+k)=_;rw[Nat.add_assoc,Nat.add_comm 1 k]
  ·rw[h3 b fun z=>m (aW _ z)];exact jQ fun z=>m (by rw[z];exact aM ..)
theorem uy.NQ {X:Cx}{B:bQ}{H H1 H2:Hp}(h:uy X B H H1)(s2:au H1 H2):∃Hu,au H Hu/\(∀b,H1 b=none->Hu b=H2 b)/\(∀{K:PySem.W.Frag} {B3:bQ} {v:V} {t:Tr},Rep K (aN B3 H2) v t->Rep K (aN B3 Hu) v t)/\∀k:Hp->Prop,k Hu->fS X H2 k:=by
 rcases h with s|⟨H0,a,o,u0,hk,s,hv,ha,rfl,h0⟩
 ·exact⟨H2,s.trans s2,fun _ _=>rfl,fun r=>r,fun k q=>.inl q⟩
 ·have e3:H2 a=some (.fP o u0):=s2 _ _ aH;have w:oh H2 (upd H2 a u0) a (.fP o u0) u0 u0:=⟨e3,rfl,.inr ⟨rfl,o,rfl⟩,hk⟩;refine⟨upd H2 a u0,fun b ob e=>?_,fun b e=>?_,fun r=>w.rep r,fun k q=>.inr ⟨a,o,u0,hk,e3,h0,q⟩⟩
  ·have q:=s _ _ e;by_cases z:b=a
   ·subst z;rw[ha]at q;cases q;exact aH
   ·rw[ah z];exact s2 _ _ (by rw[ah z];exact q)
  ·exact ah fun z=>by subst z;rw[aH]at e;cases e
structure NR(K:PySem.W.Frag)(B:bQ)(D:Addr)(H1 H:Hp)(e:Addr×Addr×V×Tr):Prop where
 q:H e.1=some (.tup [e.2.2.1,.ref e.2.1])
 p:H e.2.1=some (.lst [])
 n:H1 e.2.1=none
 m:H1 e.1=none
 d:e.2.1≠D
 r:Rep K (aN (eR B D) H) e.2.2.1 e.2.2.2
theorem NR.up {K:PySem.W.Frag}{B:bQ}{D:Addr}{H1 H H':Hp}{e:Addr×Addr×V×Tr}(h:NR K B D H1 H e)(s:au H H'):NR K B D H1 H' e:=⟨s _ _ h.q,s _ _ h.p,h.n,h.m,h.d,h.r.same (aZ s)⟩
theorem wH{K:PySem.W.Frag}{B B':bQ}{D:Addr}{Hu:Hp}(hT:gJ (aN (eR B D) Hu) (aN B' Hu)):∀(L:List (Addr×Addr×V×Tr)) (n:Nat),(∀e∈L,Hu e.1=some (.tup [e.2.2.1,.ref e.2.1])/\B'.hd e.1=false/\Rep K (aN (eR B D) Hu) e.2.2.1 e.2.2.2)->(∀k e,L[k]?=some e->B'.ix e.2.1=some (n+k))->f6 (L.map (·.2.2.2))=true->aJ K (aN B' Hu) (L.map fun e=>V.ref e.1) (Jy n (L.map (·.2.2.2)))
 |[],_,_,_,_=>.nil
 |e::L,n,h,hx,f=>by
  rw[aA,f6,aK]at f;obtain⟨h1,h2,h3⟩:=h e (aM ..);refine .cons (.tup (by rw[cC h2];exact h1) (.cons (uE hT h3 f.1) (.cons (.at (hx 0 e rfl)) .nil))) (wH hT L (n+1) (fun e m=>h e (aW _ m)) (fun k e q=>?_) f.2);rw[Nat.add_assoc,Nat.add_comm 1 k];exact hx (k+1) e q
section
variable {X:Cx}{tg iter elt:Expr}{W:az->Rs (List Tr)}{pos:Pos}{scope:Scope}{N':List Str}{ix:List (Option Nat)}
theorem FE(Lk:fR X N' ix scope)(hi:QJ X tg iter W)(l_:∀s H ex,NB (kY X scope N' s H ex) tg elt)(sU:ix.length=1:=by rfl) (hc:X.calm=true:=by rfl) (hs:isSet iter=false:=by rfl):
  ZE X (.ListComp elt [⟨tg,iter,[],0⟩] scope pos) (fun ρ A=>qZ (W ρ) A):=
 ⟨(Cj Lk hc hi.h (fun s H ex=>⟨(l_ s H ex).g,Ci,(l_ s H ex).e⟩) (dY hs)).IL.weak fun σ H Q ⟨B,A,ρ,ha,r,n,q⟩=>⟨B,ρ,ha.hb,r,by
   have q:dH (XE X B H) (qZ (W ρ) A) _:=q;cases eW:W ρ with
   |bad=>rw[eW]at q;exact q
   |exc c=>rw[eW]at q;exact(show False from q).elim
   |ok ts=>
    rw[eW]at q;obtain⟨⟨hf,hz⟩,q⟩:=mn q;intro J H1 tf gt D hD;have x8:HB B H1:=tf.hb ha.hb;refine⟨fun i m bP H'=>m=ts.length - i/\i<=ts.length/\bP.length=1/\au H1 H'/\HB (eR B D) H'/\cv (aN B H1) (aN (eR B D) H')/\∃L:List (Addr×Addr×V×Tr),(∀e∈L,NR X.K B D H1 H' e)/\(L.map (·.2.1)).Nodup/\H' D=some (.lst (L.map fun e=>V.ref e.1))/\L.map (·.2.2.2)=ts.take i,
     ⟨_,rfl,bG _,by unfold eQ;rw[ai];exact sU,au.upd hD,yZ x8 hD,iE hD,[],(fun e m=>by cases m),ij,aH,rfl⟩,?_⟩
    rintro i m bP H' ⟨rfl,hi,VW,sm,jc,fY,L,hL,nd,hd,eL⟩
    have TM:L.length=i:=by have z:=bB List.length eL;rw[ai,pO,Nat.min_eq_left hi]at z;exact z
    by_cases dX:i<ts.length
    ·refine .inr ⟨gt.go i _ H' dX fY jc,fun rX H2=>rX.length=1/\au H1 H2/\HB (eR B D) H2/\cv (aN B H1) (aN (eR B D) H2)/\∃L:List (Addr×Addr×V×Tr),(∀e∈L,NR X.K B D H1 H2 e)/\(L.map (·.2.1)).Nodup/\H2 D=some (.lst (L.map fun e=>V.ref e.1))/\L.map (·.2.2.2)=ts.take (i+1),
      fun rX H2 h=>⟨ts.length - (i+1),by omega,rfl,dX,h⟩,fun x H2 hx=>?_⟩
     obtain⟨s2,t,et,rt⟩:=gt.yM i _ H' x H2 dX fY jc hx;refine⟨x,by rw[ef (by omega)],fun p hp q' Jz=>?_⟩;have RM:H2 D=some (.lst (L.map fun e=>V.ref e.1)):=s2 _ _ hd;have pD:p≠D:=fun z=>by rw[z,RM]at hp;cases hp
     have qp:q'≠p:=fun z=>by rw[z,aH]at Jz;cases Jz
     have IP:H2 q'=none:=by rw[ah qp]at Jz;exact Jz
     have qD:q'≠D:=fun z=>by rw[z,RM]at IP;cases IP
     have s3:au H2 (upd (upd H2 p (.lst [])) q' (.tup [x,.ref p])):=(au.upd hp).trans (au.upd Jz);have VX:au H1 (upd (upd H2 p (.lst [])) q' (.tup [x,.ref p])):=(sm.trans s2).trans s3;have nb:HB (eR B D) (upd (upd H2 p (.lst [])) q' (.tup [x,.ref p])):=(jc.same s2).same s3;have Pt:upd (upd H2 p (.lst [])) q' (.tup [x,.ref p]) D=some (.lst (L.map fun e=>V.ref e.1)):=s3 _ _ RM;have wI:∀{b:Addr} {u:HO},b≠D->upd (upd H2 p (.lst [])) q' (.tup [x,.ref p]) b=some u->upd (upd (upd H2 p (.lst [])) q' (.tup [x,.ref p])) D (.lst ((L.map fun e=>V.ref e.1)++[.ref q'])) b=some u:=fun hb e=>(ah hb).trans e;have RN:cv (aN B H1) (aN (eR B D) (upd (upd (upd H2 p (.lst [])) q' (.tup [x,.ref p])) D (.lst ((L.map fun e=>V.ref e.1)++[.ref q'])))):=by
      rw[iF];exact fY.trans (aZ (s2.trans s3))
     refine⟨_,Pt,by rw[ai,TM,<-g_];omega,by rw[gs];exact VW,fun b u e=>?_,?_,RN,L++[(q',p,x,t)],?_,?_,?_,?_⟩
     ·exact wI (fun z=>by rw[z,hD]at e;cases e) (VX _ _ e)
     ·intro b e;by_cases z:b=D
      ·subst z;exact⟨_,aH,fun _ z=>by cases z⟩
      ·rw[ah z];exact nb b e
     ·intro e m;rcases eM.mp m with m|m
      ·have h:=(hL e m).up (s2.trans s3);refine⟨wI ?_ h.q,wI h.d h.p,h.n,h.m,h.d,?_⟩
       ·intro z;have h1:=h.q;rw[z,Pt]at h1;cases h1
       ·rw[iF];exact h.r
      ·rw[cn.mp m];refine⟨wI qD aH,wI pD ?_,(sm.trans s2).free hp,(sm.trans s2).free IP,pD,?_⟩
       ·exact(ah (b_ qp)).trans aH
       ·rw[iF];exact rt.same (aZ s3)
     ·rw[cY,h_];refine⟨nd,by simp,fun a m b m'=>?_⟩;obtain⟨e,me,rfl⟩:=aQ.mp m;have eb:b=p:=by simpa using m'
      subst eb;intro z;have h1:=(hL e me).p;rw[z]at h1;have h2:=s2 _ _ h1;rw[hp]at h2;cases h2
     ·rw[cY];exact aH
     ·rw[cY,eL,List.take_succ,et];rfl
    ·have e:i=ts.length:=by omega
     subst e;rw[List.take_length]at eL;refine .inl ⟨gt.stop _ H' fY,?_⟩;obtain⟨Hu,su,fu,ru,ku⟩:=tf.NQ sm;refine ku _ ?_
     have VY:∀p∈L.map (·.2.1),H p=none:=fun p m=>by
      obtain⟨e,me,rfl⟩:=aQ.mp m;exact tf.free (hL e me).n
     obtain⟨B',g,d0,AH,RO⟩:=ha.GW _ nd VY;have TN:∀e∈L,Hu e.2.1=some (.lst []):=fun e me=>(fu _ (hL e me).n).trans (hL e me).p;have ss:au (Dm H (L.map (·.2.1))) Hu:=fun b o e=>by
      rcases zH e with⟨m,rfl⟩|h
      ·obtain⟨z,me,rfl⟩:=aQ.mp m;exact TN z me
      ·exact su _ _ h
     have ll:L.length=ts.length:=TM;rw[ai,ll]at d0;have VZ:D∉L.map (·.2.1):=fun m=>by obtain⟨e,me,z⟩:=aQ.mp m;exact(hL e me).d z
     have V0:H D=none:=tf.free hD;have V1:B'.hd D=false:=(RO D VZ).trans (ha.hb.free V0);have V2:Hu D=some (.lst (L.map fun e=>V.ref e.1)):=(fu D hD).trans hd;have nP:∀{b:Addr} {o:HO},Hu b=some o->o≠ .lst []->b∉L.map (·.2.1):=fun{b o} e ne m=>by
      obtain⟨z,me,rfl⟩:=aQ.mp m;have q:=TN z me;rw[e]at q;cases q;exact ne rfl
     have hT:gJ (aN (eR B D) Hu) (aN B' Hu):=⟨fun a x e hx=>by
      have e1:=aE _ _ e;have nl:x≠ .lst []:=fun z=>by subst z;rcases hx with⟨_,z⟩|⟨_,_,z⟩<;>cases z
      have hB:(eR B D).hd a=false:=by
       cases q:(eR B D).hd a with
       |false=>rfl
       |true=>
        have e2:(if(eR B D).hd a=true then none else Hu a)=some x:=e;rw[q,ab rfl]at e2;cases e2
      have V3:B.hd a=false:=by
       have z:(B.hd a||a==D)=false:=hB;rw[Bool.or_eq_false_iff]at z;exact z.1
      rw[cC ((RO a (nP e1 nl)).trans V3)];exact e1,fun a j e=>g.fY.x a j e⟩
     refine q (.ref D) B' Hu (g.trans ha.hb (.of ss)) (d0.same ss) (.lst (by rw[cC V1];exact V2) ?_);rw[<-eL];refine wH hT L A.length (fun e me=>?_) (fun k e ek=>AH k _ (by rw[aU,ek];rfl)) (by rw[eL];exact hf);have eq:Hu e.1=some (.tup [e.2.2.1,.ref e.2.1]):=(fu _ (hL e me).m).trans (hL e me).q;exact⟨eq,(RO _ (nP eq fun z=>by cases z)).trans (ha.hb.free (tf.free (hL e me).m)),ru (hL e me).r⟩⟩⟩
def nA(h:List Tr->Rs Tr)(r:Rz Tr):Rz Tr:=r.bind fun t A=>aq (h [t]) A
theorem Bi{T:String}{x:Str}{p:Pos}{e:Expr}{h:List Tr->Rs Tr}{F:az->Ab->Rz Tr}(hc:gE X (.type T) (rF X h))(hm:X.mg x=none)(he:ZE X e F)(hv:bootBuiltins x=some (.type T):=by rfl) (hg:Gl X x:=by rfl) (hn:x≠"__name__":=by decide) (iT:(x==("__debug__":Str))=false:=by decide)
  (cZ:ba [e]=true:=by rfl):ZE X (.Call (.Name x p) [e] [] pos) (fun ρ A=>nA h (F ρ A)):=
 ⟨(iz hc hg hm hv (zl he.h CV (aG cZ).1) hn iT (aX _ _ (aG cZ).1) (cb (aG cZ).2)).weak fun σ H Q ⟨B,A,ρ,ha,r,n,q⟩=>⟨B,A,ρ,ha,r,n,by
   have q:dH (XE X B H) (nA h (F ρ A)) _:=q;show dH (XE X B H) ((F ρ A).bind fun t A1=>Rz.bind (.ok [] A1) fun ts A2=>.ok (t::ts) A2) _;cases eF:F ρ A with
   |bad=>rw[eF]at q;exact q
   |exc c A1=>rw[eF]at q;exact q
   |ok t A1=>
    rw[eF]at q;intro vs B1 H1 g1 jT rs;exact⟨B1,[t],jT.hb,rs,(gK (show dH (XE X B H) (aq (h [t]) A1) _ from q)).mono fun u qu v H2 s2 rv _=>qu v B1 H2 (g1.trans ha.hb (.of s2)) (jT.same s2) rv⟩⟩⟩
end
end L2
namespace L2
open PySem PySem.Spec PySem.Calls PyProof.Rows
section
variable {prog:Program}{w:World}{A:Around}{E:Value->Shared->Prop}{s:Shared}
def mF(prog:Program)(w:World)(h:Heap)(a:Addr)(xs:List (List Key×Addr)):Prop:=
 ∃(o:Obj) (es:Array (Int×Value)) (ep:Nat) (t:SetTable),h.get? a=some o/\o.ExactSet/\o.data=.set es ep t/\es.toList.Perm (xs.map (Jx prog w))/\qY t es.size/\(vd w=true\/t.led=true)
theorem mF.keep {h h':Heap}{a:Addr}{xs:List (List Key×Addr)}(x:mF prog w h a xs)(k:∀o,h.get? a=some o->h'.get? a=some o):mF prog w h' a xs:=by
 obtain⟨o,es,ep,t,ho,r⟩:=x;exact⟨o,es,ep,t,k o ho,r⟩
theorem mF.size {h:Heap}{es:Array (Int×Value)}{xs:List (List Key×Addr)}(hp:es.toList.Perm (xs.map (Jx prog w))):es.size=xs.length:=by
 have q:=hp.length_eq;rw[bK,ai]at q;exact q
theorem wJ{α:Type}(xs:Array α)(p:Nat)(x:α):(SetTable.insertAt xs p x).size=xs.size+1:=by
 have q:=(pB xs p x).length_eq;rw[bK,bK,Array.size_push]at q;exact q
theorem JA{t:SetTable}{n j:Nat}(tk:qY t n)(hs:t.slot j=.empty)(hj:j<=t.mask):(t.put j).1.dummies=#[]/\(t.put j).1.mask=t.mask/\(t.put j).1.place.size=n+1/\(∀x∈(t.put j).1.place.toList,x<=t.mask)/\kN (t.put j).1.place/\(t.put j).1.led=t.led:=by
 have fb:¬t.place[SetTable.below t.place j]?=some j:=by
  intro e;unfold SetTable.slot at hs;dsimp only at hs;rw[e,ab (bz _)]at hs;cases hs
 unfold SetTable.put;dsimp only;refine⟨?_,rfl,?_,?_,Cw tk.rise fb,rfl⟩
 ·rw[tk.dm,ae (by unfold SetTable.has;simp)]
 ·rw[wJ,tk.sz]
 ·intro x hx;have:=(pB t.place (SetTable.below t.place j) j).mem_iff.mp hx;rw[pJ,eM,cn]at this;rcases this with h|h
  ·exact tk.le x h
  ·rw[h];exact hj
theorem RP{a b:Addr}{xs:List (List Key×Addr)}{k:List Key}{Q:Bool->Shared->Prop}(hu:A.units<cLine)(hS:mF prog w s.heap a xs)(hn:xs.length+1<=18)(hk:(tupleKind (ax prog w)).is s.heap k b)(Ju:∀p∈xs,(tupleKind (ax prog w)).is s.heap p.1 p.2/\p.1≠k)
  (h:∀h',Heap.SameBut a s.heap h'->mF prog w h' a (xs++[(k,b)])->Q true {s with heap:=h'}):wpAny (model prog w) A (setAddHashed a (.ref b) ((tupleKind (ax prog w)).hash k)) Q E s:=by
 obtain⟨o,es,ep,t,ho,hex,hd,hp,tk,hl⟩:=hS;have hsz:es.size=xs.length:=mF.size (h:=s.heap) hp;have hf:=tk.fits;unfold setAddHashed setAddHashedIn;refine cB (aa (eJ ho hd hf ?_));dsimp only;have V4:byScan (.ref b) es=false:=by unfold byScan;rfl
 rw[V4];simp only[bV,bC];have RQ:∀e∈es.toList,∃k' c,e.2=.ref c/\(tupleKind (ax prog w)).is s.heap k' c/\k'≠k:=fun e he=>by
  obtain⟨p,Ni,rfl⟩:=aQ.mp (hp.mem_iff.mp he);exact⟨p.1,p.2,rfl,Ju p Ni⟩
 obtain⟨j0,V5,V6⟩:=RF (t.mask+1) t.place.toList (by rw[bK,tk.sz];have:=tk.KA;omega);obtain⟨N,hN,eN⟩:=wB tk.ms ((tupleKind (ax prog w)).hash k) (gc V5);refine aa ?_
 unfold setSearch;refine wG hu ho hd tk hk RQ (fun j hj V7=>?_) N 100000 none (by rcases tk.ms with e|e<;>rw[e]at hN<;>omega) (by unfold SetTable.turns;omega) (PB.start _) (by show t.slot (fg t N (t.probeStart _)).j=_;rw[eN];exact yl tk.dm V6);dsimp only;refine aa (eJ ho hd hf ?_);dsimp only;obtain⟨p1,p2,p3,p4,p5,p6⟩:=JA tk hj V7;have tw:=pB es (t.put j).2 ((tupleKind (ax prog w)).hash k,Value.ref b);have uO:(SetTable.insertAt es (t.put j).2 ((tupleKind (ax prog w)).hash k,Value.ref b)).size=es.size+1:=wJ _ _ _;generalize t.put j=tp at p1 p2 p3 p4 p5 p6 tw uO⊢;obtain⟨t1,pl⟩:=tp;dsimp only at p1 p2 p3 p4 p5 p6 tw uO⊢;generalize SetTable.insertAt es pl ((tupleKind (ax prog w)).hash k,Value.ref b)=sT at tw uO⊢;have Dn:sT.toList.Perm ((xs++[(k,b)]).map (Jx prog w)):=by
  rw[cY];refine tw.trans ?_
  rw[pJ];exact hp.append_right _
 have GX:sT.size<=sizeLine:=by rw[uO,hsz,bS];omega
 have fin:∀t2:SetTable,t2.dummies=#[]->t2.mask=t.mask->t2.place=t1.place->t2.led=t1.led->wpAny (model prog w) A (do
   storeSet a sT t2
   if(!false&&t2.tooFull)=true then do
      setRelay a (SetTable.grown (es.size+1))
      pure true
    else pure true) Q E s:=by
  intro t2 d2 m2 NS l2;refine aa (wpAny_storeSet_of ho hd ?_ GX);have hg:(s.heap.update a (Obj.putSet sT t2)).get? a=some {o with data:=.set sT (ep+1) t2}:=by
   have q:=j8 (Obj.putSet sT t2) ho (by rw[putSet_of sT t2 hd];rfl);rw[putSet_of sT t2 hd]at q;exact q
  have TQ:=eE s.heap a (Obj.putSet sT t2);have Ez:vd w=true\/t2.led=true:=hl.imp id fun z=>by rw[l2,p6];exact z
  have Dp:t2.fill=es.size+1:=by unfold SetTable.fill;rw[d2,NS,p3];rfl
  refine fJ (fun q_=>?_) (fun q_=>?_)
  ·
   have q_:t2.fill*5>=t2.mask*3:=by
    have:t2.tooFull=true:=by simpa using q_
    unfold SetTable.tooFull at this;exact bM this
   rw[Dp,m2]at q_;have h7:t.mask=7:=by
    rcases tk.ms with e|e
    ·exact e
    ·rw[e]at q_;omega
   have h5:es.size+1=5:=by have:=tk.KA;rw[h7]at q_ this;omega
   refine aa ?_
   unfold setRelay;have V8:t2.fits sT.size=true:=by
    unfold SetTable.fits;rw[NS,p3,uO,bz,Bool.true_and,Dp,m2,h7,h5];rfl
   refine aa (eJ hg rfl V8 ?_);dsimp only;rw[h5];have NT:SetTable.sizeAbove (SetTable.grown 5)=32:=by decide
   rw[NT,ae (by decide)];obtain⟨t3,order,e3,m3,d3,l3,Xs,r3,V9,V_,Dq⟩:=FA (m:=31) (f:=t2.finger) (mv:=t2.movedTo 31) (ld:=t2.led) (pl:=t2.plain) (.inr rfl) (es:=sT) (by rw[uO];omega);have er:t2.relaid (sT.map (·.1)) (SetTable.grown 5)=some (t3,order):=by
    unfold SetTable.relaid;rw[NT];exact e3
   rw[er];refine aa ?_
   have Dr:(order.filterMap fun x=>sT[x]?).size=sT.size:=by
    have q:=Dq.length_eq;rw[bK,bK]at q;exact q
   show wpAny _ _ (if((order.filterMap fun x=>sT[x]?).size !=sT.size)=true then _ else _) _ _ _;rw[Dr,hZ];simp only[bV,bC];refine af ?_
   dsimp only;generalize (order.filterMap fun x=>sT[x]?)=I_ at Dr Dq⊢;refine wpAny_storeSet_of hg rfl (af ?_) (by rw[Dr];exact GX);have NU:((s.heap.update a (Obj.putSet sT t2)).update a (Obj.putSet I_ t3)).get? a=some {o with data:=.set I_ (ep+1+1) t3}:=by
    have q:=j8 (Obj.putSet I_ t3) hg (by rw[putSet_of I_ t3 rfl];rfl);rw[putSet_of I_ t3 rfl]at q;exact q
   refine h _ (TQ.trans (eE _ a _)) ⟨_,I_,_,t3,NU,hex,rfl,Dq.trans Dn,⟨d3,.inr m3,by rw[m3];exact V9,by rw[V_,Dr],by rw[m3,Dr,uO];omega,r3⟩,Ez.imp id fun z=>l3.trans z⟩
  ·refine af (h _ TQ ⟨_,sT,_,t2,hg,hex,rfl,Dn,⟨d2,by rw[m2];exact tk.ms,by rw[NS,m2];exact p4,by rw[NS,p3,uO],?_,by rw[NS];exact p5⟩,Ez⟩);have:¬t2.fill*5>=t2.mask*3:=by
    intro z;refine q_ ?_
    show(!false&&t2.tooFull)=true;unfold SetTable.tooFull;rw[bA z];rfl
   rw[Dp]at this;rw[uO];omega
 split
 ·refine aa (FD hk fun bv=>?_);cases bv with
  |true=>exact fin t1 p1 p2 rfl rfl
  |false=>exact fin {t1 with plain:=false} p1 p2 rfl rfl
 ·refine aa (af ?_);exact fin t1 p1 p2 rfl rfl
end
end L2
namespace L2
open PySem PySem.Spec PySem.Calls PyProof.Rows
def nB(a b:List Int):Bool:=!decide (b<a)
theorem mG{a b:List Int}:nB a b=true↔a<=b:=by
 unfold nB;rw[Bool.not_eq_true',decide_eq_false_iff_not];exact Iff.rfl
theorem fz{a b c:List Int}(h1:nB a b=true)(h2:nB b c=true):nB a c=true:=by
 rw[mG]at*;exact List.le_trans h1 h2
theorem fA(a b:List Int):(nB a b||nB b a)=true:=by
 rw[pY,mG,mG];exact List.le_total _ _
theorem gL{a b:List Int}(h1:nB a b=true)(h2:nB b a=true):a=b:=by
 rw[mG]at*;exact List.le_antisymm h1 h2
def Pu(ks:List (List Int))(i j:Nat):Bool:=decide (ks.getD i []<ks.getD j [])
theorem JB{a b:List Int}(h:a≠b):decide (a<b)=!decide (b<a):=by
 cases e:decide (b<a)with
 |true=>
  have h1:b<a:=bM e;rw[il];exact aY (List.lt_asymm h1)
 |false=>
  rw[pZ];have h1:nB a b=true:=by unfold nB;rw[e];rfl
  cases q:decide (a<b)with
  |true=>rfl
  |false=>
   have h2:nB b a=true:=by unfold nB;rw[q];rfl
   exact absurd (gL h1 h2) h
theorem zI{ks:List (List Int)}(nd:ks.Nodup){i j:Nat}(hi:i<ks.length)(hj:j<ks.length)(h:i≠j):ks.getD i []≠ks.getD j []:=by
 rw[bH,bH,aF hi,aF hj];intro e;exact h ((gp nd).mp e)
theorem zJ{ks:List (List Int)}(nd:ks.Nodup):A7 ks.length (Pu ks):=
 ⟨fun i j hi hj h=>JB (zI nd hi hj h),fun i j k _ _ _ h1 h2=>bA (List.lt_trans (bM h1) (bM h2))⟩
def bY(ks:List (List Int)):List Nat:=(List.range ks.length).mergeSort fun i j=>nB (ks.getD i []) (ks.getD j [])
theorem dj(ks:List (List Int)):(bY ks).Perm (List.range ks.length):=cJ _ _
theorem cT{ks:List (List Int)}{i:Nat}(h:i∈bY ks):i<ks.length:=cN.mp ((dj ks).mem_iff.mp h)
theorem jZ(ks:List (List Int)):(bY ks).Pairwise fun i j=>nB (ks.getD i []) (ks.getD j [])=true:=iO (le:=fun i j=>nB (ks.getD i []) (ks.getD j [])) (fun a b c h1 h2=>fz h1 h2) (fun a b=>fA _ _) _
theorem tK{ks:List (List Int)}(nd:ks.Nodup){p:Array Nat}(h:Pn ks.length p)(s:dS (Pu ks) p ks.length):p.toList=bY ks:=by
 refine j3 (le:=fun i j=>nB (ks.getD i []) (ks.getD j [])=true) (fun a b ha hb h1 h2=>?_) ((A9 h s).imp fun{i j} e=>?_) (jZ ks) (List.Perm.trans h (dj ks).symm)
 ·have d0:a<ks.length:=cN.mp ((List.Perm.mem_iff h).mp ha);have jc:b<ks.length:=cT hb;by_cases z:a=b
  ·exact z
  ·exact absurd (gL h1 h2) (zI nd d0 jc z)
 ·have e:ks.getD i []<ks.getD j []:=bM e;unfold nB;rw[aY (List.lt_asymm e)];rfl
theorem mH{ks:List (List Int)}(h:ks.length<2):bY ks=List.range ks.length:=by
 unfold bY
 match ks,h with
 |[],_=>rw[show List.range ([]:List (List Int)).length=[]from rfl,List.mergeSort_nil]
 |[a],_=>rw[show List.range [a].length=[0]from rfl,List.mergeSort_singleton]
def yp(h:Heap)(v:Value)(a b:Int):Prop:=∃ad o t u n,v=.ref ad/\h.get? ad=some o/\o.cls=.type "tuple"/\o.data=.seq #[.int a t,.int b u] n
def Pw(h:Heap)(v:Value)(c a b:Int):Prop:=∃ad o t n x,v=.ref ad/\h.get? ad=some o/\o.cls=.type "tuple"/\o.data=.seq #[.int c t,x] n/\yp h x a b
def TK(h:Heap)(v:Value):List Int->Prop
 |[a,b]=>yp h v a b
 |[c,a,b]=>Pw h v c a b
 |_=>False
theorem yp.keep {h h':Heap}{v:Value}{a b:Int}(k:∀b o xs n,o.cls=Value.type "tuple"->o.data=.seq xs n->h.get? b=some o->h'.get? b=some o):yp h v a b->yp h' v a b
 |⟨ad,o,t,u,n,e,h1,h2,h3⟩=>⟨ad,o,t,u,n,e,k _ _ _ _ h2 h3 h1,h2,h3⟩
theorem TK.keep {h h':Heap}{v:Value}(k:∀b o xs n,o.cls=Value.type "tuple"->o.data=.seq xs n->h.get? b=some o->h'.get? b=some o):∀{ky:List Int},TK h v ky->TK h' v ky
 |[a,b],x=>yp.keep k x
 |[c,a,b],⟨ad,o,t,n,y,e,h1,h2,h3,h4⟩=>⟨ad,o,t,n,y,e,k _ _ _ _ h2 h3 h1,h2,h3,yp.keep k h4⟩
 |[],x=>x.elim
 |[_],x=>x.elim
 |_::_::_::_::_,x=>x.elim
theorem TK.shape {h:Heap}{v:Value}:∀{ky:List Int},TK h v ky->(∃a b,ky=[a,b])\/∃c a b,ky=[c,a,b]
 |[a,b],_=>.inl ⟨a,b,rfl⟩
 |[c,a,b],_=>.inr ⟨c,a,b,rfl⟩
 |[],x=>x.elim
 |[_],x=>x.elim
 |_::_::_::_::_,x=>x.elim
section
variable {prog:Program}{w:World}{A:Around}{E:Value->Shared->Prop}{s:Shared}
theorem mI{a b:Int}{l m:List Int}:decide (a::l<b::m)=(decide (a<b)||(a==b&&decide (l<m))):=by
 rw[Bool.eq_iff_iff,cK,pY,aK,cK,cK,iu];exact List.cons_lt_cons_iff
theorem Ds:decide (([]:List Int)<[])=false:=rfl
theorem yp.key {h:Heap}{v:Value}{a b:Int}(x:yp h v a b):∃ad,v=.ref ad/\(tupleKind (ax prog w)).is h [.inl a,.inl b] ad:=by
 obtain⟨ad,o,t,u,n,rfl,h1,h2,h3⟩:=x;exact⟨ad,rfl,o,_,n,h1,h2,h3,.cons (Gw (k:=.inl a) (t:=t)) (.cons (Gw (k:=.inl b) (t:=u)) .nil)⟩
theorem JC{v v':Value}{a b a' b':Int}{Q:Bool->Shared->Prop}(hx:yp s.heap v a b)(hy:yp s.heap v' a' b')(fb:([a,b]:List Int)≠[a',b'])(h:Q (decide ([a,b]<[a',b'])) s):wpAny (model prog w) A (keyLt' (tuples' true) v v') Q E s:=by
 obtain⟨ad,o,t,u,n,rfl,h1,h2,h3⟩:=hx;obtain⟨V',o',t',u',n',rfl,Jp,Jh,BC⟩:=hy;rw[mI,mI,Ds]at h;refine PySem.W.kat_lt h1 h3 Jp BC (lK (lO ?_));by_cases z:a=a'
 ·subst z;rw[bz];refine PySem.W.kat_yes (lK (lO ?_));have hb:b≠b':=fun e=>fb (by rw[e]);rw[dP hb];refine lQ (PySem.W.kat_one _ _ (wpAny_lt_int ?_));rw[aY (Int.lt_irrefl a),bz,dP hb]at h;show Q (decide (b<b')) s;simpa using h
 ·rw[dP z];refine lQ (oneLt_int ?_);rw[dP z]at h;simpa using h
theorem JD{v v':Value}{c a b c' a' b':Int}{Q:Bool->Shared->Prop}(hu:A.units<cLine)(hx:Pw s.heap v c a b)(hy:Pw s.heap v' c' a' b')(fb:([c,a,b]:List Int)≠[c',a',b'])(h:Q (decide ([c,a,b]<[c',a',b'])) s):wpAny (model prog w) A (keyLt' (tuples' true) v v') Q E s:=by
 obtain⟨ad,o,t,n,x,rfl,h1,h2,h3,TR⟩:=hx;obtain⟨V',o',t',n',x',rfl,Jp,Jh,BC,TU⟩:=hy;rw[mI]at h;refine PySem.W.kat_lt h1 h3 Jp BC (lK (lO ?_));by_cases z:c=c'
 ·subst z;rw[bz];obtain⟨b1,rfl,k1⟩:=yp.key (prog:=prog) (w:=w) TR;obtain⟨b2,rfl,k2⟩:=yp.key (prog:=prog) (w:=w) TU;have hb:([a,b]:List Int)≠[a',b']:=fun e=>fb (by rw[e]);refine PySem.W.kat_yes (lK ((tupleKind (ax prog w)).eqBool hu k1 k2 ?_));have hk:([.inl a,.inl b]:List Key)≠[.inl a',.inl b']:=fun e=>hb (by injection e with e1 e2;injection e2 with e2 _;injection e1 with e1;injection e2 with e2;rw[e1,e2]);rw[aY hk];obtain⟨_,ob,tb,ub,nb,e,g1,g2,g3⟩:=TR;cases e;obtain⟨_,Wa,Wb,Wc,Wd,e,We,Wf,Wg⟩:=TU;cases e;refine lQ (PySem.W.kat_one _ _ (HT.xC ⟨ob,g1,g2,nb,g3⟩ ⟨Wa,We,Wf,Wd,Wg⟩ (.cons a tb (.cons b ub .nil)) (.cons a' Wb (.cons b' Wc .nil)) hu ?_));show Q (HT.lexLt [a,b] [a',b']) s;have e:HT.lexLt [a,b] [a',b']=decide ([a,b]<[a',b']):=by
   rw[mI,mI,Ds];unfold HT.lexLt;by_cases q:a=a'
   ·subst q;rw[bz,aY (Int.lt_irrefl a)];have QY:b≠b':=fun e=>hb (by rw[e]);simp[HT.lexLt,QY]
   ·simp[q,HT.lexLt]
  rw[e];rw[aY (Int.lt_irrefl c),bz]at h;simpa using h
 ·rw[dP z];refine lQ (oneLt_int ?_);rw[dP z]at h;simpa using h
theorem GY{v v':Value}{k k':List Int}{Q:Bool->Shared->Prop}(hu:A.units<cLine)(hx:TK s.heap v k)(hy:TK s.heap v' k')(hl:k.length=k'.length)(fb:k≠k')(h:Q (decide (k<k')) s):wpAny (model prog w) A (keyLt' (tuples' true) v v') Q E s:=by
 rcases hx.shape with⟨a,b,rfl⟩|⟨c,a,b,rfl⟩<;>rcases hy.shape with⟨a',b',rfl⟩|⟨c',a',b',rfl⟩
 ·exact JC hx hy fb h
 ·cases hl
 ·cases hl
 ·exact JD hu hx hy fb h
end
theorem Dt{h:Heap}{v:Value}{k:List Int}(x:TK h v k):∃a o xs n i t,v=.ref a/\h.get? a=some o/\o.cls=.type "tuple"/\o.data=.seq xs n/\xs[0]?=some (.int i t):=by
 match k,x with
 |[a,b],⟨ad,o,t,u,n,e,h1,h2,h3⟩=>exact⟨ad,o,_,n,a,t,e,h1,h2,h3,rfl⟩
 |[c,a,b],⟨ad,o,t,n,y,e,h1,h2,h3,_⟩=>exact⟨ad,o,_,n,c,t,e,h1,h2,h3,rfl⟩
theorem kT{h:Heap}:∀{vs:List Value} {ks:List (List Int)},vs.length=ks.length->(∀(i:Nat) (v:Value) (k:List Int),vs[i]?=some v->ks[i]?=some k->TK h v k)->∃fs:List Value,PySem.W.KatTups h vs fs/\fs.length=ks.length/\∀v∈fs,∃z t,v=Value.int z t
 |[],[],_,_=>⟨[],.nil,rfl,fun v m=>(nomatch m)⟩
 |[],_::_,e,_=>by cases e
 |_::_,[],e,_=>by cases e
 |v::vs,k::ks,e,kk=>by
  obtain⟨a,o,xs,n,i,t,rfl,h1,h2,h3,h4⟩:=Dt (kk 0 v k rfl rfl);obtain⟨fs,q1,q2,q3⟩:=kT (vs:=vs) (ks:=ks) (by simpa using e) fun i b y e1 e2=>kk (i+1) b y (by simpa using e1) (by simpa using e2);refine⟨.int i t::fs,.cons h1 h2 h3 h4 q1,by rw[bp,bp,q2],fun v m=>?_⟩;rcases aP.mp m with rfl|m
  ·exact⟨i,t,rfl⟩
  ·exact q3 v m
section
variable {prog:Program}{w:World}{A:Around}{E:Value->Shared->Prop}{s:Shared}
theorem dn{α:Type}(d:α)(l:List α):(List.range l.length).map (fun i=>l.getD i d)=l:=by
 refine List.ext_getElem (by simp) fun i h1 h2=>?_
 simp[h2]
theorem Bj{L D:Addr}{m:Str->Option Value}{vs:List Value}{ks:List (List Int)}{n0:Nat}{P:PySem.Fin->Shared->Prop}(hu:A.units<cLine)(Aq:s.heap.Ns L m)(Px:D≠L)(ho:s.heap.get? D=some (seqObj "list" vs.toArray n0))(hl:vs.length=ks.length)
  (ht:∀(i:Nat) (v:Value) (k:List Int),vs[i]?=some v->ks[i]?=some k->TK s.heap v k) (FF:ks.Nodup) (BD:ks.length<64) (wK:∀k∈ks,∀k'∈ks,k.length=k'.length)
  (h:∀h' c,(∀b o,b≠L->b≠D->s.heap.get? b=some o->h'.get? b=some o)->h'.Ns L m->h'.get? D=some (seqObj "list" ((bY ks).map fun i=>vs.getD i Value.none).toArray c)->P (.done (.ret .none)) {s with heap:=h'}):
  wpAny (model prog w) A (Builtin.«list.sort» ⟨[.ref D],[]⟩) P E s:=by
 by_cases h2:ks.length<2
 ·refine ou ho (by rw[hl];exact h2) fun h' c kp hD=>?_
  refine h h' c (fun b o _ n e=>kp b o n e) ?_ (by rw[mH h2,<-hl,dn];exact hD)
  obtain⟨o,es,yH,Ah,r'⟩:=Aq;exact⟨o,es,yH,kp _ _ Px.symm Ah,r'⟩
 ·have h2:2<=ks.length:=by omega
  obtain⟨p,er,hp,hs⟩:=we (zJ FF) h2;have ep:=tK FF hp hs;have F:Fr uF L s.heap m:=⟨Aq,(fun b o e=>by rw[jS]at e;cases e),bG _⟩;have N:News uF L s.heap (uH s.heap L D):=fun t ht=>by
   obtain⟨n1,n2,e⟩:=fT.mp (show(t.1,t.2)∈_ from ht);exact⟨e,n1,jS _⟩
  refine PySem.W.kat_list_sort F N ho Px (jS _) (fun t ht=>(fT.mp (show(t.1,t.2)∈_ from ht)).2.1) (by rw[hl];exact h2) (by rw[hl];exact BD) fun e1 h' F' N'=>?_
  have kt:∀b o xs n,o.cls=Value.type "tuple"->o.data=.seq xs n->s.heap.get? b=some o->h'.get? b=some o:=fun b o xs n hc hd e=>by
   have nL:b≠L:=fun z=>by
    obtain⟨o',es,yH,Ah,hx,_⟩:=Aq;rw[z,Ah]at e;cases e;rw[hx]at hd;cases hd
   have nD:b≠D:=fun z=>by
    rw[z,ho]at e;cases e;exact absurd (show Value.type "list"=Value.type "tuple"from hc) (by decide)
   exact(N' (b,o) (aW _ (fT.mpr ⟨nL,nD,e⟩))).1
  have tp:∀(i:Nat) (v:Value) (k:List Int),vs[i]?=some v->ks[i]?=some k->TK h' v k:=fun i v k e1 e2=>(ht i v k e1 e2).keep kt
  obtain⟨fs,aC,fl,JE⟩:=kT hl tp;refine PySem.W.kat_kind (T:=.type "int") aC (by rw[fl];omega) (fun v hv=>by obtain⟨z,t,rfl⟩:=JE v hv;exact .of_pure rfl) (by decide) ?_
  rw[show(Value.type "int" !=Value.type "tuple")=true by decide,hl];refine nk (fun i j C hi hj rQ hC=>?_) _ er ?_
  ·have vi:vs[i]?=some (vs[i]'(by omega)):=aF (by omega)
   have vj:vs[j]?=some (vs[j]'(by omega)):=aF (by omega)
   have ki:ks[i]?=some ks[i]:=aF hi
   have kj:ks[j]?=some ks[j]:=aF hj
   show wpAny _ _ (keyLt' _ (vs.getD i Value.none) (vs.getD j Value.none)) _ _ _;rw[bH,bH,vi,vj];refine GY hu (tp i _ _ vi ki) (tp j _ _ vj kj) (wK _ (ib hi) _ (ib hj)) (fun e=>rQ ((gp FF).mp e)) ?_
   unfold Pu at hC;rw[bH,bH,ki,kj]at hC;exact hC
  ·refine PySem.W.KasFin.intro F' N' (.head fun t ht=>(fT.mp (show(t.1,t.2)∈_ from ht)).2.1) fun Wh c Wi TV=>?_
   refine h Wh c (fun b o n1 n2 e=>(TV (b,o) (aW _ (fT.mpr ⟨n1,n2,e⟩))).1) Wi.ns ?_
   rw[<-ep];exact(TV _ (aM ..)).1
end
end L2
namespace L2
open PySem PySem.Spec PySem.Calls PyProof.Rows
def Bk:Tr->Option (List Int)
 |.tup [.int a,.int b]=>some [a,b]
 |.tup [.int c,.tup [.int a,.int b]]=>some [c,a,b]
 |_=>none
def cF(t:Tr):List Int:=(Bk t).getD []
def oN(ts:List Tr):Bool:=(ts.all fun t=>(Bk t).isSome)&&(decide (ts.length<64)&&(decide ((ts.map cF).Nodup)&&((ts.all fun t=>(cF t).length==2)||(ts.all fun t=>(cF t).length==3))))
def dq(ts:List Tr):List Tr:=ts.mergeSort fun a b=>nB (cF a) (cF b)
theorem ra{ts:List Tr}(h:oN ts=true):(∀t∈ts,Bk t=some (cF t))/\ts.length<64/\(ts.map cF).Nodup/\∀k∈ts.map cF,∀k'∈ts.map cF,k.length=k'.length:=by
 unfold oN at h;rw[aK,aK,aK,cK,cK]at h;obtain⟨h1,h2,h3,h4⟩:=h;refine⟨fun t ht=>?_,h2,h3,fun k hk k' FG=>?_⟩
 ·have q:=bF.mp h1 t ht;unfold cF;cases e:Bk t with
  |none=>rw[e]at q;cases q
  |some k=>rfl
 ·obtain⟨t,ht,rfl⟩:=aQ.mp hk;obtain⟨t',G0,rfl⟩:=aQ.mp FG;rw[pY]at h4;rcases h4 with h4|h4
  ·exact(eq_of_beq (bF.mp h4 t ht)).trans (eq_of_beq (bF.mp h4 t' G0)).symm
  ·exact(eq_of_beq (bF.mp h4 t ht)).trans (eq_of_beq (bF.mp h4 t' G0)).symm
theorem FH{ts:List Tr}(nd:(ts.map cF).Nodup){a b:Tr}(ha:a∈ts)(hb:b∈ts)(e:cF a=cF b):a=b:=by
 obtain⟨i,hi⟩:=jg ha;obtain⟨j,hj⟩:=jg hb;obtain⟨RR,NV⟩:=cX.mp hi;obtain⟨RS,NW⟩:=cX.mp hj;have q:(ts.map cF)[i]'(by rw[ai];exact RR)=(ts.map cF)[j]'(by rw[ai];exact RS):=by
  rw[gq,gq,NV,NW,e]
 have z:=(gp nd).mp q;subst z;rw[<-NV,<-NW]
theorem tL{ts:List Tr}(nd:(ts.map cF).Nodup):(bY (ts.map cF)).map (fun i=>ts.getD i .cg)=dq ts:=by
 have hp:((bY (ts.map cF)).map fun i=>ts.getD i .cg).Perm ts:=by
  have q:=(dj (ts.map cF)).map fun i=>ts.getD i .cg;rw[ai,dn]at q;exact q
 have HX:(dq ts).Perm ts:=cJ _ _;refine j3 (le:=fun a b=>nB (cF a) (cF b)=true) (fun a b ha hb h1 h2=>FH nd (hp.mem_iff.mp ha) (HX.mem_iff.mp hb) (gL h1 h2)) ?_ (iO (le:=fun a b=>nB (cF a) (cF b)) (fun a b c h1 h2=>fz h1 h2) (fun a b=>fA _ _) _) (hp.trans HX.symm)
 rw[ia];refine(jZ (ts.map cF)).imp_of_mem fun{i j} hi hj e=>?_
 have uz:=cT hi;have wg:=cT hj;rw[ai]at uz wg;rw[bH,bH,aU,aU,aF uz,aF wg]at e;rw[bH,bH,aF uz,aF wg];exact e
theorem uP{f:Nat->V}{g:Nat->Value}:∀{p:List Nat},(∀i∈p,RelV (f i) (g i))->Vals (p.map f) (p.map g)
 |[],_=>.nil
 |i::p,h=>.cons (h i (aM ..)) (uP fun j m=>h j (aW _ m))
section
variable {X:Cx}{pins:List (Addr×Obj)}{σ:St}{H:Hp}{s:Shared}{B:bQ}
theorem uQ(I:Inv X pins σ H s){v:V}{a b:Int}{u:Value}(r:Rep X.K (aN B H) v (.tup [.int a,.int b]))(rv:RelV v u):yp s.heap u a b:=by
 obtain⟨ad,us,rfl,hq,rr⟩:=r.iV;cases(show u=Value.ref ad from rv);obtain⟨x1,x2,rfl,r1,r2⟩:=qE rr;obtain⟨aV,BB,⟨o,h1,h2,n,h3⟩,_⟩:=I.tuple (.inl (.inl (aE _ _ hq)));obtain⟨u1,u2,rfl,e1,e2⟩:=vals2 BB;cases r1.int_inv;cases r2.int_inv;obtain⟨t1,rfl⟩:=e1;obtain⟨t2,rfl⟩:=e2;exact⟨ad,o,t1,t2,n,rfl,h1,h2,h3⟩
theorem JF(I:Inv X pins σ H s){v:V}{t:Tr}{k:List Int}{u:Value}(r:Rep X.K (aN B H) v t)(e:Bk t=some k)(rv:RelV v u):TK s.heap u k:=by
 unfold Bk at e;split at e
 ·cases e;exact uQ I r rv
 ·cases e;obtain⟨ad,us,rfl,hq,rr⟩:=r.iV;cases(show u=Value.ref ad from rv);obtain⟨x1,x2,rfl,r1,r2⟩:=qE rr;obtain⟨aV,BB,⟨o,h1,h2,n,h3⟩,_⟩:=I.tuple (.inl (.inl (aE _ _ hq)));obtain⟨u1,u2,rfl,e1,e2⟩:=vals2 BB;cases r1.int_inv;obtain⟨t1,rfl⟩:=e1;exact⟨ad,o,t1,n,u2,rfl,h1,h2,h3,uQ I r2 e2⟩
 ·cases e
theorem rb{Q:VK}(hu:X.A.units+4<cLine)(I:Inv X pins σ H s){h1:Heap}{tk:Nat}{d:Drawn}(Du:∀b o,s.heap.get? b=some o->h1.get? b=some o){vs:List V}{us:List Value}{ks:List (List Int)}(rv:Vals vs us)(hl:us.length=ks.length)
  (ht:∀(i:Nat) (v:Value) (k:List Int),us[i]?=some v->ks[i]?=some k->TK s.heap v k) (FF:ks.Nodup) (BD:ks.length<64) (wK:∀k∈ks,∀k'∈ks,k.length=k'.length)
  (q:∀D,H D=none->Q (.ref D) (upd H D (.lst ((bY ks).map fun i=>vs.getD i .cg)))) {P:PySem.Fin->Shared->Prop} {E:Value->Shared->Prop}
  (hP:∀s',EP X pins σ Q (.ref h1.objs.size) s'->P (.done (.ret .none)) s'):
  wpAny (model X.prog X.w) X.A.in1.in1 (Builtin.«list.sort» ⟨[.ref h1.objs.size],[]⟩) P E {s with heap:=h1.push (seqObj "list" us.toArray 0),toks:=tk,drawn:=d}:=by
 obtain⟨m,Aq,_⟩:=id I.loc;have D9:(h1.push (seqObj "list" us.toArray 0)).get? h1.objs.size=some (seqObj "list" us.toArray 0):=aT _ rfl;have J:Inv X pins σ H {s with heap:=h1,toks:=tk}:=I.kept Du;have JG:H h1.objs.size=none:=J.fresh;have Wj:ja X pins H h1.objs.size:=J.vx (ar _) JG;have Wk:X.eP.heap.objs.size<=h1.objs.size:=J.sz;have Px:h1.objs.size≠X.env.locals:=cp J.lt;have RT:(h1.push (seqObj "list" us.toArray 0)).Ns X.env.locals m:=by
  obtain⟨o,es,yH,ho,r'⟩:=Aq;exact⟨o,es,yH,aB _ (Du _ _ ho),r'⟩
 refine Bj (s:={s with heap:=h1.push (seqObj "list" us.toArray 0),toks:=tk,drawn:=d}) (ks:=ks) (by show X.A.units+1+1<cLine;omega) RT Px D9 hl (fun i v k e1 e2=>(ht i v k e1 e2).keep fun b o _ _ _ _ e=>aB _ (Du b o e)) FF BD wK fun h' c kp Kr hD=>hP _ ?_
 have Wl:∀b o,s.heap.get? b=some o->b<h1.objs.size:=fun b o e=>aw (Du b o e);have I1:Inv X pins σ H {s with heap:=h',toks:=tk}:=I.CO Aq Kr fun b o n e=>kp b o n (aS (Wl b o e)) (aB _ (Du b o e));have Xt:vs.length=us.length:=rv.length;have I2:=I1.adopt (o:=.lst ((bY ks).map fun i=>vs.getD i .cg)) Wk ⟨JG,Wj.2⟩ ⟨by rw[ai,(dj ks).length_eq,gb,bS];omega,_,c,uP fun i hi=>?_,hD⟩
 ·exact⟨.ref h1.objs.size,_,I2.Fg d,rfl,q _ JG⟩
 ·have O3:=cT hi;have TX:i<vs.length:=by omega
  obtain⟨u,eu,ru⟩:=rv.get (aF TX);rw[bH,bH,eu,aF TX];exact ru
def Dv(ts:List Tr):Rs Tr:=if oN ts=true then .ok (.lst (dq ts))else .bad
def dr:List Tr->Rs Tr
 |[.lst ts]=>Dv ts
 |[.tup ts]=>Dv ts
 |_=>.bad
theorem tO{ts:List Tr}{vs:List V}{K:PySem.W.Frag}{W:Vw}(h:oN ts=true)(rr:aJ K W vs ts):aJ K W ((bY (ts.map cF)).map fun i=>vs.getD i .cg) (dq ts):=by
 obtain⟨_,_,nd,_⟩:=ra h;rw[<-tL nd];refine uI fun i hi=>?_
 have hit:=cT hi;rw[ai]at hit;obtain⟨v,ev,rv⟩:=rr.get (aF hit);rw[bH,bH,ev,aF hit];exact rv
theorem Bl(I:Inv X pins σ H s){ts:List Tr}{vs:List V}{us:List Value}(h:oN ts=true)(rr:aJ X.K (aN B H) vs ts)(rv:Vals vs us):us.length=(ts.map cF).length/\∀(i:Nat) (v:Value) (k:List Int),us[i]?=some v->(ts.map cF)[i]?=some k->TK s.heap v k:=by
 obtain⟨hk,_,_,_⟩:=ra h;refine⟨by rw[ai,<-rr.length,rv.length],fun i v k e1 e2=>?_⟩;rw[aU]at e2;cases et:ts[i]? with
 |none=>rw[et]at e2;cases e2
 |some t=>
  rw[et]at e2;cases e2;obtain⟨w',ew,kh⟩:=rr.get et;obtain⟨u,eu,ru⟩:=rv.get ew;rw[e1]at eu;cases eu;exact JF I kh (hk t (bJ et)) ru
theorem nC(hu:X.A.units+4<cLine):iC X (.builtin "sorted") dr:=by
 intro pins s σ H xs us Q I rv ⟨B,ts,hb,r,q⟩;have key:∃tr m8,ts=[tr]/\(tr=.lst m8\/tr=.tup m8)/\oN m8=true/\∀v H',au H H'->Rep X.K (aN B H') v (.lst (dq m8))->Q v H':=by
  unfold dr at q;split at q
  ·obtain⟨h0,z⟩:=fi (show Fi X H (if oN _=true then _ else _) _ from q);exact⟨_,_,rfl,.inl rfl,h0,z⟩
  ·obtain⟨h0,z⟩:=fi (show Fi X H (if oN _=true then _ else _) _ from q);exact⟨_,_,rfl,.inr rfl,h0,z⟩
  ·exact(show False from q).elim
 obtain⟨tr,m8,rfl,RB,ok,k⟩:=key;obtain⟨x,rfl,h⟩:=f_ r;obtain⟨u,rfl,ru⟩:=vals1 rv;have src:∃(a:Addr) (vs:List V) (tn:String) (o:Obj) (aV:List Value) (n:Nat),x=.ref a/\(tn="list"\/tn="tuple")/\aJ X.K (aN B H) vs m8/\Vals vs aV/\s.heap.get? a=some o/\o.cls=.type tn/\o.data=.seq aV.toArray n:=by
  rcases RB with rfl|rfl
  ·obtain⟨a,vs,rfl,h,rr⟩:=h.lst_inv;obtain⟨z0,aV,n0,xn,hx⟩:=(show bu X.prog X.w H s.heap a (.lst vs)from I.bN a _ (fq h));exact⟨a,vs,"list",_,aV,n0,rfl,.inl rfl,rr,xn,hx,rfl,rfl⟩
  ·obtain⟨a,vs,rfl,h,rr⟩:=h.iV;obtain⟨_,aV,xn,o,hx,c1,n0,c2,c3⟩:=(show bu X.prog X.w H s.heap a (.tup vs)from I.bN a _ (aE _ _ h));exact⟨a,vs,"tuple",o,aV,n0,rfl,.inr rfl,rr,xn,hx,c1,c2⟩
 obtain⟨a,vs,tn,o,aV,n,rfl,ND,rr,xn,ho,hc,hd⟩:=src;cases(show u=Value.ref a from ru);obtain⟨_,BD,nd,same⟩:=ra ok;obtain⟨hl,ht⟩:=Bl I ok rr xn;have hz:aV.length<=64:=by rw[hl,ai];omega
 refine call_function_entry kind_sorted plain_sorted entry_sorted (args_sorted1 _) ?_
 unfold Builtin.«sorted»;refine aa (m:=checkCount "sorted" 1 1 _) (af ?_);refine aa (wpAny_collect_seq a ND ho hc hd (fun h1 Du=>?_) (by simpa using bt hz (by decide)));refine aa (jx ?_ (by simpa using bt hz (by decide)));have D9:(h1.push (seqObj "list" aV.toArray 0)).get? h1.objs.size=some (seqObj "list" aV.toArray 0):=aT _ rfl;refine aa (cB (dv slot_list_sort ⟨_,D9,rfl⟩ entry_list_sort (rb (tk:=s.toks) (d:=s.drawn) hu I Du xn hl ht nd (by rw[ai];exact BD) same (fun D hD=>k _ _ (au.upd hD) (.xO hb hD (tO ok rr))) fun s' he=>⟨_,rfl,af ⟨_,rfl,he⟩⟩) (args_list_sort _)))
end
end L2
namespace L2
open PySem PySem.Spec PyProof.Rows
section
variable {prog:Program}{w:World}{A:Around}{R:Result->Shared->Prop}{I S:Addr}{fp:List Addr}{n:Nat}{P:Nat->Value->Prop}{St:Nat->Heap->Prop}
theorem Bn(hu:A.units+1<cLine)(W:Walks prog w A.in1 I fp [I] n P St)(Py:S∉fp)(val:Nat->List Key×Addr)(JH:∀i v,P i v->v=.ref (val i).2)(hn:n<=18){h0:Heap}(NX:h0.get? S=none)(NC:h0.get? I=none)
  (Ff:∀i,i<n->∀h':Heap,(∀b o,h0.get? b=some o->h'.get? b=some o)->(tupleKind (ax prog w)).is h' (val i).1 (val i).2) (fb:∀i j,i<n->j<n->i≠j->(val i).1≠(val j).1):
  ∀(k i:Nat) (s:Shared),n - i=k->i<=n->St i s.heap->(∀b o,h0.get? b=some o->s.heap.get? b=some o)->mF prog w s.heap S ((List.range i).map val)->
   (∀h' tk,(∀b o,b≠S->b≠I->s.heap.get? b=some o->h'.get? b=some o)->mF prog w h' S ((List.range n).map val)->R (.ok (.ret .none)) {s with heap:=h',toks:=tk})->
   codeAny (model prog w) A (.builtin "set.update.loop" ⟨[.ref S,.ref I],[]⟩) R s:=by
 have Wm:I∈fp:=W.sub I (by simp);have K2:S≠I:=fun e=>Py (e▸Wm);have nS:∀{b:Addr} {o:Obj},h0.get? b=some o->b≠S:=fun{b o} e z=>by rw[z,NX]at e;cases e
 have nI:∀{b:Addr} {o:Obj},h0.get? b=some o->b≠I:=fun{b o} e z=>by rw[z,NC]at e;cases e
 intro k
 induction k with
 |zero=>
  intro i s hk hi cZ TY hS hR;have l_:i=n:=by omega
  subst l_;refine dQ F.entry_set_update_loop ?_
  rw[eC pM _];show wpAny _ A.in1 (pyNext (.ref I)>>=_) _ _ s;refine aa (W.done s _ _ cZ fun h' tk kk=>?_);show wpAny _ A.in1 (ret Value.none) _ _ _;exact af (hR h' tk (fun b o _ h2 e=>kk b o (by simpa using h2) e) (hS.keep fun o e=>kk S o (by simpa using K2) e))
 |succ k ih=>
  intro i s hk hi cZ TY hS hR;have dX:i<n:=by omega
  refine dQ F.entry_set_update_loop ?_
  rw[eC pM _];show wpAny _ A.in1 (pyNext (.ref I)>>=_) _ _ s;refine aa (W.item i s _ _ dX cZ fun v h1 oy hP RU kk=>?_);have ev:=JH i v hP;subst ev;have RV:∀b o,h0.get? b=some o->h1.get? b=some o:=fun b o e=>kk b o (by simpa using nI e) (TY b o e);have RL:mF prog w h1 S ((List.range i).map val):=hS.keep fun o e=>kk S o (by simpa using K2) e;have JI:=Ff i dX h1 RV;show wpAny _ A.in1 (holding [.ref (val i).2] (setAdd S (.ref (val i).2))>>=_) _ _ _;refine aa (cB ?_);unfold setAdd;refine cB ?_
  refine aa ((tupleKind (ax prog w)).pyHash (s:={s with heap:=h1,toks:=oy}) (iQ hu) JI ?_);refine RP (s:={s with heap:=h1,toks:=oy+(tupleKind (ax prog w)).draws (val i).1}) hu RL (by rw[ai,gb];omega) JI (fun p hp=>?_) fun h2 sb TZ=>?_
  ·obtain⟨j,hj,rfl⟩:=aQ.mp hp;have hj:=cN.mp hj;exact⟨Ff j (by omega) h1 RV,fb j i (by omega) dX (by omega)⟩
  have Fe:∀b o,b≠S->h1.get? b=some o->h2.get? b=some o:=fun b o hb e=>(sb.2 b hb).trans e;have er:(List.range i).map val++[((val i).1,(val i).2)]=(List.range (i+1)).map val:=by rw[List.range_succ,cY];rfl
  rw[er]at TZ;refine af ⟨dB pM _,ih (i+1) _ (by omega) dX (W.frame _ _ _ RU fun b hb o e=>Fe b o (fun z=>Py (z▸hb)) e) (fun b o e=>Fe b o (nS e) (RV b o e)) TZ fun h' tk Wn zK=>?_⟩;exact hR h' tk (fun b o x8 EE e=>Wn b o x8 EE (Fe b o x8 (kk b o (by simpa using EE) e))) zK
end
end L2
namespace PySem
section
variable {prog:Program}{w:World}{A:Around}{E:Value->Shared->Prop}{s:Shared}
set_option maxHeartbeats 3200000 in
theorem Dw{l:Addr}{items:Array Value}{val:Nat->List L2.Key×Addr}{Q:Value->Shared->Prop}(hu:A.units+6<cLine)(hh:A.handled=none)(hl:s.heap.IsList l items)(hv:∀(i:Nat) (v:Value),items[i]?=some v->v=.ref (val i).2)(hn:items.size<=18)
  (Ff:∀i,i<items.size->∀h':Heap,(∀b o,s.heap.get? b=some o->h'.get? b=some o)->(tupleKind (L2.ax prog w)).is h' (val i).1 (val i).2) (fb:∀i j,i<items.size->j<items.size->i≠j->(val i).1≠(val j).1)
  (h:∀(h':Heap) (tk:Nat),L2.mF prog w h' s.heap.objs.size ((List.range items.size).map val)->(∀b o,b<s.heap.objs.size->s.heap.get? b=some o->h'.get? b=some o)->Q (.ref s.heap.objs.size) {s with heap:=h',toks:=tk}):
  wpAny (model prog w) A (call (.type "set") [.ref l]) Q E s:=by
 obtain⟨c,tl,Wo⟩:=fN.mro;have T1:=fN.made;have IM:=fN.sub;refine wpAny_call (codeAny_of_tree ?_);show wpAny _ _ (callAny (.type "set") _) _ _ _;refine af ⟨Code.quiet_builtin _ (by decide+kernel),dQ F.entry_type_call ?_⟩;rw[Around.under_plain (weight_type_call_type "set" [.ref l] []) rfl];have h1:=fN.notType;have h2:=fN.canCreate;have Xu:=F.typeCall_set_1 (.ref l)
 repeat(any_goals (first|assumption|wp_step))
 refine fM (CA (.ref l) (E:=E) (Q₁:=fun obj bU=>obj=.ref s.heap.objs.size/\bU={s with heap:=s.heap.push {cls:=.type "set",dict:=none,data:=.set #[] 0 (.fresh 0 0 (!L2.vd w))}}) ⟨rfl,rfl⟩) fun r bU hr=>?_
 cases r with
 |error e=>exact hr
 |ok fl=>
  cases fl with
  |ret obj=>
   obtain⟨rfl,rfl⟩:=hr;generalize RW:({cls:=.type "set",dict:=none,data:=.set #[] 0 (.fresh 0 0 (!L2.vd w))}:Obj)=ob;have hS:(s.heap.push ob).get? s.heap.objs.size=some ob:=aT _ (by rw[<-RW];rfl);have hT:Shared.TypeIs {s with heap:=s.heap.push ob} (.ref s.heap.objs.size) "set":=⟨_,hS,by rw[<-RW]⟩;have KU:=fN.init.lookup;have Xv:=fN.init.bind (.ref s.heap.objs.size)
   repeat(any_goals (first|assumption|wp_step))
   refine fM (codeAny_call_builtin (R:=wants (fun r mV=>r=.none/\∃h' tk,mV={s with heap:=h',toks:=tk}/\L2.mF prog w h' s.heap.objs.size ((List.range items.size).map val)/\
     (∀b o,b<s.heap.objs.size->s.heap.get? b=some o->h'.get? b=some o)) E) fN.init.plain F.entry_set_init (check_set_init_1 hT ?_)) fun RX mV Dx=>?_
   ·obtain⟨ol,KI,xE,nl,KJ⟩:=hl;obtain⟨Wq,NY,T2,JJ⟩:=ol;simp only at xE KJ;subst xE;subst KJ;have RY:(s.heap.push ob).get? l=some {cls:=.type "list",dict:=NY,data:=.seq items nl,slots:=JJ}:=aB _ KI;have Wr:=F.sub_list_set;have Ws:=F.sub_list_frozenset;have Wt:(Value.type "list"==Value.type "dict")=false:=by decide
    have BA:(s.heap.push ob).IsList l items:=⟨_,RY,rfl,nl,rfl⟩;subst RW;unfold Builtin.«set.__init__» noKeywords Builtin.Frozenset.updateFrom;generalize Wu:pyIter=PI
    wp_walk
    subst Wu;refine ic BA ?_
    refine aa (wpAny_runValue ?_);have T3:l<s.heap.objs.size:=aw KI;have Wv:A.in1.in1.in1.handled=none:=by simp[hh]
    generalize hsz:(s.heap.push {cls:=.type "set",dict:=none,data:=.set #[] 0 (.fresh 0 0 (!L2.vd w))}).objs.size=I at*;have FI:I=s.heap.objs.size+1:=by rw[<-hsz,fK]
    have RZ:l≠I:=by rw[FI];exact aS (h9 T3)
    have Py:s.heap.objs.size∉[I,l]:=by
     simp only[aP,eK,dh,not_or];exact⟨by rw[FI];exact aS (jn _),cp T3⟩
    refine L2.Bn (h0:=s.heap) (by show A.units+1+1+1<cLine;omega) (Walks.list Wv I l RZ items) Py val hv hn (jh (ar _)) (jh (by rw[FI];exact gz _)) Ff fb (items.size - 0) 0 _ (by omega) (bG _) ⟨⟨_,by rw[<-hsz];exact aT _ rfl,rfl,rfl⟩,BA.push _⟩ (fun b o e=>aB _ (aB _ e)) ?NX ?hR
    case NX=>
     refine⟨_,#[],0,.fresh 0 0 (!L2.vd w),aB _ hS,⟨rfl,rfl,rfl⟩,rfl,List.Perm.refl _,⟨rfl,.inl rfl,(fun x hx=>by cases hx),rfl,(show 0*5<7*3 by decide),List.Pairwise.nil⟩,?_⟩;show L2.vd w=true\/(!L2.vd w)=true;cases L2.vd w<;>simp
    case hR=>
     intro h' tk hk zK;show wpAny _ _ _ _ _ _;refine af ?_
     show wpAny _ _ (ret Value.none) _ _ _;refine af ⟨rfl,h',tk,rfl,zK,fun b o hb e=>?_⟩;exact hk b o (aS hb) (by rw[FI];exact aS (h9 hb)) (aB _ (aB _ e))
   ·cases RX with
    |error e=>exact Dx
    |ok NZ=>
     cases NZ with
     |ret r=>
      obtain⟨rfl,h',tk,rfl,zK,FG⟩:=Dx
      repeat(any_goals (first|assumption|wp_step))
      exact h _ _ zK FG
     |_=>exact Dx.elim
  |_=>exact hr.elim
end
end PySem
namespace L2
open PySem PySem.Spec PySem.Calls PyProof.Rows
def zL(w:World)(a:Addr)(vs:List Value):HO:=.ext fun h=>oz w h a vs
theorem mF.toV {prog:Program}{w:World}{h:Heap}{a:Addr}{xs:List (List Key×Addr)}(x:mF prog w h a xs):oz w h a (xs.map fun p=>Value.ref p.2):=by
 obtain⟨o,es,ep,t,ho,hex,hd,hp,tk,hl⟩:=x;refine⟨o,es,ep,t,es.toList,ho,hex,hd,(qX _).symm,?_,trivial,?_,tk.fits,hl,tk.rise⟩
 ·have q:=hp.map (·.2);rw[bq]at q;exact q
 ·have:=tk.KA;rcases tk.ms with e|e<;>rw[e]at this<;>(show es.size<4096;omega)
section
variable {X:Cx}
theorem Bo(hu:X.A.units+6<cLine)(hc:X.calm=true):gE X (.type "set") (fun xs H Q=>∃(p:Addr) (ts:List (List Key×Addr)),xs=[.ref p]/\iw X.K H p (ts.map fun t=>V.ref t.2)/\(∀t∈ts,H t.2=some (.tup (t.1.map kV)))/\(ts.map (·.1)).Nodup/\ts.length<=18/\∀a,H a=none->Q (.ref a) (upd H a (zL X.w a (ts.map fun t=>Value.ref t.2)))):=by
 intro pins s σ H xs us Q I r h;obtain⟨p,ts,rfl,hl,hk,nd,hb,q⟩:=h;obtain⟨u,rfl,ru⟩:=vals1 r;cases(show u=Value.ref p from ru);obtain⟨aV,rv,pl,hz⟩:=I.list hl;have hlen:aV.length=ts.length:=by have e:=rv.length;rw[ai]at e;exact e.symm
 have hsz:aV.toArray.size=ts.length:=by rw[bc];exact hlen
 have gi:∀i,i<ts.length->ts.getD i ([],0)=ts[i]! :=fun i hi=>by simp[hi]
 have gd:∀i (hi:i<ts.length),ts.getD i ([],0)=ts[i]:=fun i hi=>by rw[bH,aF hi];rfl
 refine Dw (val:=fun i=>ts.getD i ([],0)) hu (I.ok.hd hc) pl.isList (fun i v hv=>?_) (by rw[hsz];exact hb) (fun i hi=>?_) (fun i j hi hj rQ=>?_) fun h' tk hS Du=>?_
 ·have Pz:aV[i]?=some v:=by simpa using hv
  have hi:i<ts.length:=by rw[<-hlen];exact(cX.mp Pz).1
  obtain⟨u,GV,ru⟩:=rv.get (i:=i) (x:=V.ref ts[i].2) (by rw[aU,aF hi];rfl);rw[Pz]at GV;cases GV;rw[gd i hi];exact ru
 ·rw[hsz]at hi;rw[gd i hi];exact fV (jG I.bN (hk _ (ib hi)))
 ·rw[hsz]at hi hj;rw[gd i hi,gd j hj];intro e;have q:(ts.map (·.1))[i]'(by rw[ai];exact hi)=(ts.map (·.1))[j]'(by rw[ai];exact hj):=by rw[gq,gq,e]
  exact rQ ((gp nd).mp q)
 ·rw[hsz,dn]at hS;have hV:=hS.toV;have hf:H s.heap.objs.size=none:=I.fresh;refine⟨.ref s.heap.objs.size,_,I.laid (o:=zL X.w s.heap.objs.size (ts.map fun t=>Value.ref t.2)) (fun b o e=>Du b o (aw e) e) (ar _) ⟨hV,?_,fun h1 h2 x k=>oz.keep x k⟩,rfl,q _ hf⟩;obtain⟨o,_,_,_,_,ho,_⟩:=hV;exact⟨o,ho⟩
theorem oA(hu:X.A.units+6<cLine)(hc:X.calm=true):gE X (.builtin "sorted") (fun xs H Q=>∃(a:Addr) (ts:List (List Int×Addr)),xs=[.ref a]/\H a=some (zL X.w a (ts.map fun t=>Value.ref t.2))/\(∀t∈ts,t.1.length=2/\H t.2=some (.tup (t.1.map V.int)))/\(ts.map (·.1)).Nodup/\ts.length<64/\
  ∀D,H D=none->Q (.ref D) (upd H D (.lst ((bY (ts.map (·.1))).map fun i=>(ts.map fun t=>V.ref t.2).getD i .cg)))):=by
 intro pins s σ H xs us Q I r h;obtain⟨a,ts,rfl,ha,hk,nd,BD,q⟩:=h;obtain⟨u,rfl,ru⟩:=vals1 r;cases(show u=Value.ref a from ru);obtain⟨hS,_,_⟩:=(show bu X.prog X.w H s.heap a (.ext fun h=>oz X.w h a (ts.map fun t=>Value.ref t.2))from I.bN a _ ha);refine call_function_entry kind_sorted plain_sorted entry_sorted (args_sorted1 _) ?_
 unfold Builtin.«sorted»;refine aa (m:=checkCount "sorted" 1 1 _) (af ?_);refine aa (uN (A:=X.A.in1) (I.ok.hd hc) hS (by rw[ai,bS];omega) fun h1 tk d l hp Du hle=>?_);have n8:(l.map sj).Perm (ts.map fun t=>Value.ref t.2):=hp;obtain⟨qH,e',Ni⟩:=perm_back (f:=fun v:Addr=>Value.ref v) (fun v=>match v with|.ref x=>x|_=>0) (fun _=>rfl) (l:=ts.map (·.2)) (es:=l.map sj) (by rw[bq];exact n8);have Ww:∀t∈ts,∀t'∈ts,t.2=t'.2->t=t':=fun t ht t' G0 e=>by
  have h1:=(hk t ht).2;have h2:=(hk t' G0).2;rw[e,h2]at h1;have h3:t'.1.map V.int=t.1.map V.int:=by have z:=Option.some.inj h1;injection z
  have h4:t'.1=t.1:=by
   have inj:∀(x y:List Int),x.map V.int=y.map V.int->x=y:=by
    intro x
    induction x with
    |nil=>intro y e;cases y with|nil=>rfl|cons _ _=>cases e
    |cons a x ih=>intro y e;cases y with|nil=>cases e|cons b y=>injection e with e1 e2;injection e1 with e1;rw[e1,ih y e2]
   exact inj _ _ h3
  exact jz h4.symm e
 have ex:∃tl:List (List Int×Addr),tl.map (·.2)=qH/\tl.Perm ts:=by
  have gen:∀(ys:List Addr) (zs:List (List Int×Addr)),ys.Perm (zs.map (·.2))->∃tl:List (List Int×Addr),tl.map (·.2)=ys/\tl.Perm zs:=by
   intro ys
   induction ys with
   |nil=>intro zs h;have:=h.length_eq;rw[ai]at this;cases zs with|nil=>exact⟨[],rfl,.refl _⟩|cons _ _=>cases this
   |cons y ys ih=>
    intro zs h;obtain⟨z,hz,rfl⟩:=aQ.mp (h.mem_iff.mp (aM ..));obtain⟨i,hi,ei⟩:=List.getElem_of_mem hz;have pe:=iX zs i hi;have h2:(z.2::ys).Perm (z.2::(zs.eraseIdx i).map (·.2)):=by
     refine h.trans ?_
     have:=(pe.map (·.2)).symm;rw[aA,ei]at this;exact this
    obtain⟨tl,e1,e2⟩:=ih _ (List.Perm.cons_inv h2);refine⟨z::tl,by rw[aA,e1],?_⟩;rw[ei]at pe;exact(List.Perm.cons z e2).trans pe
  exact gen qH ts Ni
 obtain⟨tl,et,G1⟩:=ex;have oQ:l.map sj=(tl.map (·.2)).map Value.ref:=by rw[e',et]
 have JK:(l.map sj).length=tl.length:=by rw[oQ,ai,ai]
 have T4:(tl.map (·.1)).Nodup:=(List.Perm.nodup_iff (G1.map _)).mpr nd;have N0:tl.length<64:=by rw[G1.length_eq];exact BD
 refine aa (jx ?_ (by rw[JK,bS];omega));have D9:(h1.push (seqObj "list" (l.map sj).toArray 0)).get? h1.objs.size=some (seqObj "list" (l.map sj).toArray 0):=aT _ rfl;have xn:Vals (tl.map fun t=>V.ref t.2) (l.map sj):=by
  rw[oQ]
  clear oQ JK T4 N0 et G1
  induction tl with
  |nil=>exact .nil
  |cons t tl ih=>exact .cons rfl ih
 refine aa (cB (dv slot_list_sort ⟨_,D9,rfl⟩ entry_list_sort (rb (Q:=Q) (tk:=tk) (d:=d) (by omega) I Du xn (ks:=tl.map (·.1)) (by rw[JK,ai]) (fun i v k e1 e2=>?_) T4 (by rw[ai];exact N0) (fun k Wx k' Fe=>?_) (fun D hD=>?_) fun s' he=>⟨_,rfl,af ⟨_,rfl,he⟩⟩) (args_list_sort _)))
 ·rw[oQ,aU,aU]at e1;rw[aU]at e2;cases eq:tl[i]? with
  |none=>rw[eq]at e2;cases e2
  |some t=>
   rw[eq]at e1 e2;cases e1;cases e2;have hm:t∈ts:=G1.mem_iff.mp (bJ eq);obtain⟨h2,h3⟩:=hk t hm;obtain⟨oq,ta⟩:=t
   match oq,h2,h3 with
   |[x,y],_,h3=>
    obtain⟨aV,BB,⟨o,g1,g2,n,g3⟩,_⟩:=I.tuple (.inl (.inl h3));obtain⟨u1,u2,rfl,⟨t1,rfl⟩,⟨t2,rfl⟩⟩:=vals2 BB;exact⟨ta,o,t1,t2,n,rfl,g1,g2,g3⟩
 ·obtain⟨t,ht,rfl⟩:=aQ.mp Wx;obtain⟨t',G0,rfl⟩:=aQ.mp Fe;rw[(hk t (G1.mem_iff.mp ht)).1,(hk t' (G1.mem_iff.mp G0)).1]
 ·
  have eqs:((bY (tl.map (·.1))).map fun i=>(tl.map fun t=>V.ref t.2).getD i .cg)=(bY (ts.map (·.1))).map fun i=>(ts.map fun t=>V.ref t.2).getD i .cg:=by
   have key:∀zs:List (List Int×Addr),((bY (zs.map (·.1))).map fun i=>(zs.map fun t=>V.ref t.2).getD i .cg)=((bY (zs.map (·.1))).map fun i=>zs.getD i ([],0)).map fun t=>V.ref t.2:=fun zs=>by
    rw[bq];refine eD fun i hi=>?_
    have uz:=cT hi;rw[ai]at uz;show(zs.map fun t=>V.ref t.2).getD i .cg=V.ref (zs.getD i ([],0)).2;rw[bH,bH,aU,aF uz];rfl
   rw[key,key];congr 1;have pr:∀zs:List (List Int×Addr),((bY (zs.map (·.1))).map fun i=>zs.getD i ([],0)).Perm zs:=fun zs=>by
    have q:=(dj (zs.map (·.1))).map fun i=>zs.getD i ([],0);rw[ai,dn]at q;exact q
   have pw:∀zs:List (List Int×Addr),((bY (zs.map (·.1))).map fun i=>zs.getD i ([],0)).Pairwise fun a b=>nB a.1 b.1=true:=fun zs=>by
    rw[ia];refine(jZ (zs.map (·.1))).imp_of_mem fun{i j} hi hj e=>?_
    have uz:=cT hi;have wg:=cT hj;rw[ai]at uz wg;rw[bH,bH,aU,aU,aF uz,aF wg]at e;rw[bH,bH,aF uz,aF wg];exact e
   refine j3 (le:=fun a b=>nB a.1 b.1=true) (fun a b ha hb h1 h2=>?_) (pw tl) (pw ts) ((pr tl).trans (G1.trans (pr ts).symm));have d0:a∈ts:=G1.mem_iff.mp ((pr tl).mem_iff.mp ha);have jc:b∈ts:=(pr ts).mem_iff.mp hb;have e:=gL h1 h2;obtain⟨i,hi⟩:=jg d0;obtain⟨j,hj⟩:=jg jc;obtain⟨RR,NV⟩:=cX.mp hi;obtain⟨RS,NW⟩:=cX.mp hj;have q:(ts.map (·.1))[i]'(by rw[ai];exact RR)=(ts.map (·.1))[j]'(by rw[ai];exact RS):=by
    rw[gq,gq,NV,NW,e]
   have z:=(gp nd).mp q;subst z;rw[<-NV,<-NW]
  rw[eqs];exact q D hD
end
end L2
namespace L2
open PySem PySem.Spec PySem.Calls PyProof.Rows
def dF:Tr->Rs Tr
 |.lst ts=>if oN ts=true/\ts.length<=18/\(ts.all fun t=>(cF t).length==2)=true then .ok (.lst (dq ts))else .bad
 |_=>.bad
theorem wL{K:PySem.W.Frag}{B:bQ}{H:Hp}:∀{vs:List V} {ts:List Tr},aJ K (aN B H) vs ts->(∀t∈ts,Bk t=some (cF t)/\(cF t).length=2)->∃tl:List (List Int×Addr),vs=(tl.map fun t=>V.ref t.2)/\tl.map (·.1)=ts.map cF/\∀t∈tl,t.1.length=2/\H t.2=some (.tup (t.1.map V.int))
 |[],_,r,_=>by cases r;exact⟨[],rfl,rfl,fun t m=>nomatch m⟩
 |v::vs,t::ts,r,hk=>by
  cases r with
  |cons h r=>
   obtain⟨tl,e1,e2,e3⟩:=wL r fun t m=>hk t (aW _ m);obtain⟨q1,q2⟩:=hk t (aM ..);unfold Bk at q1;split at q1
   ·obtain⟨ad,us,rfl,hq,rr⟩:=h.iV;obtain⟨x1,x2,rfl,r1,r2⟩:=qE rr;cases r1.int_inv;cases r2.int_inv;refine⟨(cF _,ad)::tl,by rw[e1];rfl,by rw[aA,aA,e2],fun t m=>?_⟩;rcases aP.mp m with rfl|m
    ·exact⟨q2,aE _ _ hq⟩
    ·exact e3 t m
   ·rw[<-Option.some.inj q1]at q2;cases q2
   ·cases q1
section
variable {X:Cx}{l:Expr}{p1 p2 IU IV:Pos}{F:az->Rs Tr}
theorem FJ(hu:X.A.units+6<cLine)(hs:X.mg "sorted"=none)(hm:X.mg "set"=none)(hl:PE X l (tP X F))(hc:X.calm=true:=by rfl) (hg:Gl X "sorted":=by rfl) (NU:Gl X "set":=by rfl) (cZ:ba [l]=true:=by rfl):
  PE X (.Call (.Name "sorted" p1) [.Call (.Name "set" p2) [l] [] IV] [] IU) (tP X fun ρ=>(F ρ).bind dF):=
 (vB (oA hu hc) hg hs rfl (iS (iz (Bo hu hc) NU hm rfl (iS hl kG (aX _ _ (aG cZ).1)) (by decide) (by decide) (aX _ _ (aG cZ).1) (cb (aG cZ).2)) kG (aX _ _ rfl)) (by decide) (by decide) (aX _ _ rfl) (cb (es:=[]) rfl)).weak fun σ H Q ⟨B,ρ,hb,r,q⟩=>⟨B,ρ,hb,r,q.bind.mono fun t qt v H1 s1 rv=>by
  have key:∃ts,t=.lst ts/\oN ts=true/\ts.length<=18/\(ts.all fun t=>(cF t).length==2)=true/\∀v H',au H H'->Rep X.K (aN B H') v (.lst (dq ts))->Q v H':=by
   unfold dF at qt;split at qt
   ·obtain⟨⟨h0,h1,h2⟩,z⟩:=fi qt;exact⟨_,rfl,h0,h1,h2,z⟩
   ·exact qt.elim
  obtain⟨ts,rfl,ok,Wy,h2,k⟩:=key;obtain⟨a,vs,rfl,h,rr⟩:=rv.lst_inv;obtain⟨hk,BD,nd,_⟩:=ra ok;have Wz:=rr;obtain⟨tl,ev,ek,et⟩:=wL rr fun t m=>⟨hk t m,eq_of_beq (bF.mp h2 t m)⟩;have T5:tl.length=ts.length:=by have z:=bB List.length ek;rw[ai,ai]at z;exact z
  refine⟨a,tl.map fun t=>(t.1.map Sum.inl,t.2),rfl,?_,fun t m=>?_,?_,by rw[ai,T5];exact Wy,fun sa NT=>⟨sa,tl,rfl,?_,fun t m=>?_,by rw[ek];exact nd,by rw[T5];exact BD,fun D hD=>?_⟩⟩
  ·rw[bq];have:(tl.map fun t=>V.ref t.2)=vs:=ev.symm;refine .of (fq (B:=B) ?_);rw[h,<-this];rfl
  ·obtain⟨t',m',rfl⟩:=aQ.mp m;have e:=(et t' m').2;rw[bq];exact e
  ·rw[bq];have:(tl.map ((fun x:List Key×Addr=>x.1)∘fun t:List Int×Addr=>(t.1.map Sum.inl,t.2)))=(tl.map (·.1)).map (List.map Sum.inl):=by rw[bq];rfl
   rw[this,ek];refine List.Pairwise.map _ (fun x y fb e=>fb ?_) nd;have inj:∀(x y:List Int),(x.map Sum.inl:List Key)=y.map Sum.inl->x=y:=by
    intro x
    induction x with
    |nil=>intro y e;cases y with|nil=>rfl|cons _ _=>cases e
    |cons a x ih=>intro y e;cases y with|nil=>cases e|cons b y=>injection e with e1 e2;injection e1 with e1;rw[e1,ih y e2]
   exact inj _ _ e
  ·rw[aH,bq];rfl
  ·exact⟨(et t m).1,au.upd NT _ _ (et t m).2⟩
  ·have s2:au H1 (upd H1 sa (zL X.w sa ((tl.map fun t=>((t.1.map Sum.inl:List Key),t.2)).map fun t=>Value.ref t.2))):=au.upd NT;refine k _ _ ((s1.trans s2).trans (au.upd hD)) (.xO ((hb.same s1).same s2) hD ?_);rw[ek,<-ev];exact(tO ok Wz).same (aZ s2)⟩
theorem FK(hu:X.A.units+6<cLine)(hs:X.mg "sorted"=none)(hm:X.mg "set"=none)(hl:QE X l F)(hc:X.calm=true:=by rfl) (hg:Gl X "sorted":=by rfl) (NU:Gl X "set":=by rfl) (cZ:ba [l]=true:=by rfl):
  QE X (.Call (.Name "sorted" p1) [.Call (.Name "set" p2) [l] [] IV] [] IU) (fun ρ=>(F ρ).bind dF):=⟨FJ hu hs hm hl.h hc hg NU cZ⟩
end
end L2
namespace L2
open PySem PySem.Spec PySem.Calls PyProof.Rows
section
variable {prog:Program}{w:World}
theorem Bp{A:Around}(hh:A.handled=none)(I d:Addr)(fb:d≠I){o:Obj}{es:Array DictEntry}{ep:Nat}(hd:o.data=.dict es ep):
  Walks prog w A I [I,d] [I] es.size (fun i v=>∃e,es[i]?=some e/\v=e.key) (fun i h=>h.IsKeyIter I d i es.size ep/\h.get? d=some o) where
 sub:=fun b hb=>by simp at hb;simp[hb]
 frame:=fun _ _ _ st hk=>⟨st.1.at fun o e=>hk I (by simp) o e,hk d (by simp) _ st.2⟩
 item:=fun i s Q E hi st hQ=>by
  refine wt st.1 st.2 hd hi fun h' KW sb=>?_
  exact hQ _ h' s.toks ⟨es[i],cH hi,rfl⟩ ⟨KW,(sb.2 d fb).trans st.2⟩ fun b o hb e=>sb.extBut b o (fun h=>hb (by simp[h])) e
 done:=fun s Q E st hQ=>zw hh st.1 st.2 hd (ar _) fun h' eb=>hQ h' s.toks fun b o hb e=>eb b o (fun h=>hb (by simp[h])) e
 self:=fun _ _ _ _ st hQ=>wpAny_pyIter_keyiter st.1 hQ
theorem Dy{d:Addr}{o:Obj}{es:Array DictEntry}{ep:Nat}(lo:(d==sysModules)=false)(hc:o.cls=.type "dict")(hd:o.data=.dict es ep):PySem.W.KdlSrc prog w "dict" d d es.size (fun i v=>∃e,es[i]?=some e/\v=e.key) (fun h=>h.get? d=some o) where
 type:=fun _ hm=>⟨o,hm,hc⟩
 there:=fun _ hm=>⟨aw hm,aw hm⟩
 keep:=fun _ _ hm hk=>hk d (.inl rfl) o hm
 notList:=by decide
 notTuple:=by decide
 hint:=fun _ _ _ _ hm hq=>PySem.W.kdl_hint_dict ⟨o,hm,hc⟩ hq
 iter:=fun _ _ hh hm=>⟨_,_,(fun _ _ hq=>wq ⟨o,hm,hc⟩ lo hm hd hq),Bp hh _ d (aS (aw hm)) hd,⟨⟨_,aT _ rfl,rfl,rfl⟩,aB _ hm⟩⟩
theorem uR{A:Around}{E:Value->Shared->Prop}{s:Shared}{a:Addr}{o:Obj}{es:Array DictEntry}{ep:Nat}{R:List Value->Shared->Prop}(hh:A.handled=none)(lo:(a==sysModules)=false)(hm:s.heap.get? a=some o)(hc:o.cls=.type "dict")(hd:o.data=.dict es ep)(hn:es.size<=sizeLine)
  (h:∀(h':Heap) (tk:Nat),(∀b o,s.heap.get? b=some o->h'.get? b=some o)->R (es.toList.map (·.key)) {s with heap:=h',toks:=tk}):wpAny (model prog w) A (collect (.ref a)) R E s:=by
 have dX:a<s.heap.objs.size:=aw hm;have items:∀(acc:Array Value),ItemsOf (fun i v=>∃e,es[i]?=some e/\v=e.key) acc es.size->acc.toList=es.toList.map (·.key):=fun acc hi=>by
  refine pL fun i=>?_
  rw[aU,cI,cI];cases e:acc[i]? with
  |none=>
   have h1:acc.size<=i:=lq.mp e;rw[hi.1]at h1;rw[lq.mpr h1];rfl
  |some v=>
   obtain⟨x,ex,ev⟩:=hi.2 i v e;rw[ex,ev];rfl
 unfold collect;refine aa (wpAny_runValue (dQ entry_proto_collect' ?_));rw[eC vm _];show wpAny _ A.in1 (newList []>>=fun l=>again (.builtin "list.__iadd__" ⟨[l,.ref a],[]⟩)) _ _ s;refine aa (eG ?_);refine af ⟨dB lz _,dQ entry_list_iadd' ?_⟩;rw[eC lz _];have hL:(s.heap.push {cls:=.type "list",data:=.seq ([]:List Value).toArray}).get? s.heap.objs.size=some {cls:=.type "list",data:=.seq #[]}:=aT _ rfl;show wpAny _ A.in1 (Builtin.List.listExtendWith (.ref s.heap.objs.size) (.ref a) (.ref s.heap.objs.size)) _ _ _;have key:=PySem.W.kdl_extend (prog:=prog) (w:=w) (A:=A) (s:={s with heap:=s.heap.push {cls:=.type "list",data:=.seq ([]:List Value).toArray}})
  (R:=fun(q:Result) (s':Shared)=>∃(h':Heap) (tk:Nat) (gR:Array Value) (c':Nat),q=.ok (.ret (.ref s.heap.objs.size))/\s'={s with heap:=h',toks:=tk}/\
   (∀b o,s.heap.get? b=some o->h'.get? b=some o)/\h'.get? s.heap.objs.size=some {cls:=.type "list",dict:=none,data:=.seq gR c',slots:=#[]}/\ItemsOf (fun i v=>∃e,es[i]?=some e/\v=e.key) gR es.size)
  (Dy lo hc hd) hh (aB _ hm) s.heap.objs.size (cp dX) (cp dX) (.ref s.heap.objs.size) 0 hL
  (fun h' tk gR c' hk yo ny=>⟨h',tk,gR,c',rfl,rfl,fun b o e=>hk b o (aS (aw e)) (aB _ e),yo,ny⟩) hn
 refine dC key (fun fin s' x=>?_) fun e s' x=>?_
 ·cases fin with
  |done f=>
   obtain⟨h',tk,gR,c',e,rfl,hk,yo,ny⟩:=x;cases e;show wpAny _ A (load s.heap.objs.size>>=_) _ _ _;refine aa (jy yo ?_);refine af ?_
   rw[items gR ny];exact h h' tk hk
  |again c₁=>
   refine⟨x.1,fM x.2 fun q mV y=>?_⟩;obtain⟨h',tk,gR,c',rfl,rfl,hk,yo,ny⟩:=y;show wpAny _ A (load s.heap.objs.size>>=_) _ _ _;refine aa (jy yo ?_);refine af ?_
   rw[items gR ny];exact h h' tk hk
 ·obtain⟨_,_,_,_,e',_⟩:=x;cases e'
end
end L2
namespace L2
open PySem PySem.Spec PySem.Calls PyProof.Rows
theorem nE{prog:Program}{w:World}{h h':Heap}{d:Addr}{xs:List (List Key×Addr×Value)}(k:∀b o,h.get? b=some o->h'.get? b=some o)(x:h.DictOfH (tupleKind (ax prog w)) d xs):h'.DictOfH (tupleKind (ax prog w)) d xs:=by
 obtain⟨o,es,ep,e1,e2,e3,e4,e5,e6⟩:=x;exact⟨o,es,ep,k _ _ e1,e2,e3,e4,fun x hx=>fV (e5 x hx) h' k,e6⟩
abbrev Bq(d x:Str)(p1 p2 p3 p4 p5:Pos)(n1:Nat):Expr:=.Tuple [.Subscript (.Name d p1) (.Name x p2) p3,.Name x p4] n1 p5
structure Dz(scope:Scope)(d x:Str):Prop where
 kind:scope.kind=.function
 co:scope.isCoroutine=false
 gen:scope.isGenerator=false
 lx:scope.names.lookup x=some .local
 ld:scope.names.lookup d=some .free
 uo:∀y∈scope.names,y.2≠ .cell
 dx:(x==("__debug__":Str))=false
 dd:(d==("__debug__":Str))=false
 dc:(d==("__classdict__":Str))=false
section
variable {prog:Program}{w:World}{A:Around}{E:Value->Shared->Prop}{s:Shared}
theorem DA{f c' cell da b:Addr}{nm qual:Str}{params:Arguments}{scope:Scope}{oB:List (Str×Addr)}{pm yq:Value}{d x:Str}{p1 p2 p3 p4 p5:Pos}{n1:Nat}{xs:List (List Key×Addr×Value)}{k:List Key}{pv:Addr×Value}{Q:Value->Shared->Prop}
  (hu:∀env:Env,(A.deeper env).units+1<cLine) (N1:A.depth<recursionLimit) (Ie:s.heap.NoLimit)
  (ho:s.heap.get? f=some (PySem.W.kla_obj nm qual params (Bq d x p1 p2 p3 p4 p5 n1) scope oB pm c' yq)) (n6:s.heap.CodeRec (.ref c') qual)
  (hb:∀v,bindArgs (PySem.W.kla_fn nm qual params (Bq d x p1 p2 p3 p4 p5 n1) scope oB pm (.ref c') yq) ⟨[v],[]⟩=pure [(x,v)]) (S:Dz scope d x)
  (xE:oB.lookup d=some cell) (JH:s.heap.IsCell cell (some (.ref da))) (hm:s.heap.DictOfH (tupleKind (ax prog w)) da xs) (hk:(tupleKind (ax prog w)).is s.heap k b) (hp:atKey xs k=some pv)
  (h:∀h' tk tp,(∀b o,s.heap.get? b=some o->h'.get? b=some o)->s.heap.objs.size<=tp->h'.get? tp=some {cls:=.type "tuple",data:=.seq #[pv.2,.ref b]}->Q (.ref tp) {s with heap:=h',toks:=tk}):
  wpAny (model prog w) A (call (.ref f) [.ref b]) Q E s:=by
 refine wpAny_call (PySem.W.kla_callFunE N1 ho rfl S.co S.gen rfl n6 ?_);rw[hb];refine af (wpAny_newFunctionEnv S.uo (fun y hy=>by rw[cn.mp hy];exact S.lx) (fun di Aq Cg=>?_) S.kind);have wM:∀b o,s.heap.get? b=some o->di.get? b=some o:=fun b o e=>Cg.extBut b o (aS (aw e)) (aB _ e);refine⟨Ie.fresh _ Cg,?_⟩;have JL:di.Ns s.heap.objs.size (fun y=>[(x,Value.ref b)].reverse.lookup y):=Aq;have T6:[(x,Value.ref b)].reverse.lookup x=some (.ref b):=by simp
 have nM:di.IsCell cell (some (.ref da)):=by obtain⟨o,e,r⟩:=JH;exact⟨o,wM _ _ e,r⟩
 refine PySem.W.kla_codeExpr (wpAny_Tuple_spliced ?_);show wpAny _ _ (spliced ((false,eval (.Subscript (.Name d p1) (.Name x p2) p3) _)::backTo p5 (starEach [.Name x p4] _))) _ _ _;refine jj (Subscript_ ?_);refine gC (wpAny_loadName_free S.kind S.ld xE nM ?_ S.dc) S.dd;refine gC (lF S.kind S.lx JL T6 ?_) S.dx;refine tail_any (T:="dict") (nE wM hm).typeIs oZ.lookup (wpAny_getItem_heap (iQ (hu _)) (fV hk di wM) (nE wM hm) hp ?_) rfl;show wpAny _ _ (spliced ((false,eval (.Name x p4) _)::backTo p5 (starEach [] _))) _ _ _;refine jj (gC (lF S.kind S.lx JL T6 ?_) S.dx);refine lL ⟨by show 2<=sizeLine;decide,?_⟩;exact h _ _ di.objs.size (fun b o e=>aB _ (wM b o e)) (fL (bx (jn _) (by obtain⟨o,es,ep,e,_⟩:=JL;exact aw e))) (aT _ rfl)
end
end L2
namespace L2
open PySem PySem.Spec PySem.Calls PyProof.Rows
section
variable {prog:Program}{w:World}{A:Around}{E:Value->Shared->Prop}{s:Shared}
structure kf(s:Shared)(D kS e1:Nat)(ks:List (List Int))(kv:List Value)(h:Heap):Prop where
 old:∀b o,b≠D->s.heap.get? b=some o->h.get? b=some o
 d:h.get? D=some (seqObj "list" #[] e1)
 k:∃e,h.get? kS=some (seqObj "list" kv.toArray e)
 t:∀(i:Nat) (v:Value) (k:List Int),kv[i]?=some v->ks[i]?=some k->TK h v k
theorem kf.upd {D kS e1:Nat}{ks:List (List Int)}{kv R0:List Value}{h:Heap}{g:Array Value->Array Value}(x:kf s D kS e1 ks kv h)(hn:s.heap.objs.size<=kS)(hD:kS≠D)(hg:g kv.toArray=R0.toArray)(ht:∀(i:Nat) (v:Value) (k:List Int),R0[i]?=some v->ks[i]?=some k->TK h v k):
  kf s D kS e1 ks R0 (h.update kS (Obj.mapSeq g)):=by
 obtain⟨e,ek⟩:=x.k;have sb:=eE h kS (Obj.mapSeq g);refine⟨fun b o n q=>(sb.2 b (fun z=>?_)).trans (x.old b o n q),(sb.2 D hD.symm).trans x.d,⟨_,by rw[<-hg];exact jw ek g⟩,fun i v k e1 e2=>(ht i v k e1 e2).keep fun b o xs n hc hd q=>(sb.2 b fun z=>?_).trans q⟩
 ·rw[z]at q;exact absurd (aw q) (Nat.not_lt.mpr hn)
 ·rw[z,ek]at q;cases q;exact absurd (show Value.type "list"=Value.type "tuple"from hc) (by decide)
theorem yr{D f:Addr}{vs:List Value}{ks:List (List Int)}{n0:Nat}{P:PySem.Fin->Shared->Prop}(hu:A.units<cLine)(ho:s.heap.get? D=some (seqObj "list" vs.toArray n0))(hl:vs.length=ks.length)(BD:ks.length<64)(FF:ks.Nodup)(wK:∀k∈ks,∀k'∈ks,k.length=k'.length)
  (N2:∀(i:Nat) (v:Value) (k:List Int) (h1:Heap) (oy:Nat) (C:Value->Shared->Prop),vs[i]?=some v->ks[i]?=some k->(∀b o,b≠D->s.heap.get? b=some o->h1.get? b=some o)->(∀h' tk u,(∀b o,h1.get? b=some o->h'.get? b=some o)->TK h' u k->C u {s with heap:=h',toks:=tk})->
   wpAny (model prog w) A (call (.ref f) [v]) C (fun _ _=>False) {s with heap:=h1,toks:=oy})
  (h:∀h' tk c,(∀b o,b≠D->s.heap.get? b=some o->h'.get? b=some o)->h'.get? D=some (seqObj "list" ((bY ks).map fun i=>vs.getD i Value.none).toArray c)->P (.done (.ret .none)) {s with heap:=h',toks:=tk}):
  wpAny (model prog w) A (PyProof.Rows.ksk_tree D (.ref f) false) P E s:=by
 have R1:D<s.heap.objs.size:=aw ho;have s1:=eE s.heap D (Obj.mapSeq fun _=>(#[]:Array Value));obtain⟨e1,GJ⟩:∃e1,(s.heap.update D (Obj.mapSeq fun _=>(#[]:Array Value))).get? D=some (seqObj "list" #[] e1):=⟨_,jw ho fun _=>#[]⟩;unfold PyProof.Rows.ksk_tree;refine aa (listItems_at ho rfl ?_);refine aa (ir ho rfl ?_ (by rw[bc,bS];omega) (bG _));refine aa (seqEpoch_at GJ rfl ?_);refine aa (lX ?_ (by show vs.length<=_;rw[bS];omega));refine aa (jx ?_ (bG _));refine cB ?_
 have Ff:((s.heap.update D (Obj.mapSeq fun _=>(#[]:Array Value))).push (seqObj "tuple" vs.toArray 0)).objs.size=s.heap.objs.size+1:=by rw[size_push',Heap.size_update]
 have K0:kf s D (s.heap.objs.size+1) e1 ks [] (((s.heap.update D (Obj.mapSeq fun _=>(#[]:Array Value))).push (seqObj "tuple" vs.toArray 0)).push (seqObj "list" #[] 0)):=
  ⟨fun b o n q=>aB _ (aB _ ((s1.2 b n).trans q)),aB _ (aB _ GJ),⟨0,by rw[<-Ff];exact aT _ rfl⟩,fun i v k e=>by simp at e⟩
 show wpAny (model prog w) A (PyProof.Rows.ksk_rest D (.ref f) false vs.toArray e1 (.ref ((s.heap.update D (Obj.mapSeq fun _=>(#[]:Array Value))).push (seqObj "tuple" vs.toArray 0)).objs.size)) P E {s with heap:=((s.heap.update D (Obj.mapSeq fun _=>(#[]:Array Value))).push (seqObj "tuple" vs.toArray 0)).push (seqObj "list" #[] 0)};rw[Ff];have R3:s.heap.objs.size+1≠D:=cp (h9 R1);generalize Xw:s.heap.objs.size+1=kS at K0 R3;have T7:s.heap.objs.size<=kS:=by omega
 generalize ((s.heap.update D (Obj.mapSeq fun _=>(#[]:Array Value))).push (seqObj "tuple" vs.toArray 0)).push (seqObj "list" #[] 0)=h0 at K0;unfold PyProof.Rows.ksk_rest;refine aa (eO ?_)
 first
  |rw[List.forIn_toArray]
  |(rw[<-lG];simp only[List.toList_toArray])
  |rw[<-lG]
 refine aa (ig _ (fun rest _ s'=>∃done kv h1 oy,vs=done++rest/\kv.length=done.length/\s'={s with heap:=h1,toks:=oy}/\kf s D kS e1 ks kv h1) _ ?_ ?_ vs PUnit.unit ⟨[],[],h0,s.toks,rfl,rfl,rfl,K0⟩)
 ·rintro x rest _ s' ⟨done,kv,h1,oy,ev,KR,rfl,K⟩
  have hi:vs[done.length]?=some x:=by rw[ev];simp
  have O3:done.length<ks.length:=by rw[<-hl,ev];simp
  have Pr:ks[done.length]?=some ks[done.length]:=aF O3
  refine aa (gx (dC (N2 done.length x _ h1 oy (fun u D_=>∃h' tk,D_={s with heap:=h',toks:=tk}/\(∀b o,h1.get? b=some o->h'.get? b=some o)/\TK h' u ks[done.length]) hi Pr K.old fun h' tk u kp tu=>⟨h',tk,rfl,kp,tu⟩) (fun u D_ hq=>?_) fun _ _ hF=>hF.elim));obtain⟨h',tk,rfl,kp,tu⟩:=hq;have K1:kf s D kS e1 ks kv h':=⟨fun b o n q=>kp _ _ (K.old b o n q),kp _ _ K.d,let⟨e,q⟩:=K.k;⟨e,kp _ _ q⟩,fun i v k e1 e2=>(K.t i v k e1 e2).keep fun b o _ _ _ _ q=>kp b o q⟩;obtain⟨e,ek⟩:=K1.k
  try dsimp only
  have T8:kv.length<64:=by omega
  refine aa (ir (s:={s with heap:=h',toks:=tk}) ek rfl ?_ (by rw[bc,bS];omega) (bt (Nat.le_of_eq (Array.size_push ..)) (by rw[bc,bS];omega)));refine af ⟨done++[x],kv++[u],h'.update kS (Obj.mapSeq (·.push u)),tk,by rw[ev,gV];rfl,by rw[bj,bj,KR];rfl,rfl,?_⟩;refine K1.upd T7 R3 (by simp) fun i v k e1 e2=>?_
  by_cases z:i<kv.length
  ·rw[ck z]at e1;exact K1.t i v k e1 e2
  ·have hz:=(cX.mp e1).1;rw[bj,j6]at hz;have T9:i=kv.length:=by omega
   rw[T9,d_ (ar _),gy]at e1;cases e1;rw[T9,KR,Pr]at e2;cases e2;exact tu
 ·rintro _ s' ⟨done,kv,h1,oy,ev,KR,rfl,K⟩
  rw[dw]at ev;subst ev;obtain⟨e,ek⟩:=K.k
  try dsimp only
  refine aa (listItems_at (s:={s with heap:=h1,toks:=oy}) ek rfl ?_);have hz:∀n,n<=vs.length->n<=sizeLine:=fun n hn=>by rw[bS];omega
  have fin:∀st:SortSt,(arrOf st).map (·.2)=((bY ks).map fun i=>vs.getD i Value.none).toArray->failedOf st=none->wpAny (model prog w) A (PyProof.Rows.ksk_tail D false e1 (.ref kS) st) P E {s with heap:=h1,toks:=oy}:=by
   intro st R4 hf;unfold PyProof.Rows.ksk_tail
   try dsimp only
   rw[R4];simp only[bV,bC];refine aa (ir (s:={s with heap:=h1,toks:=oy}) ek rfl ?_ (by rw[bc];exact hz _ (by omega)) (bG _));refine aa (gB ?_);have sb:=eE h1 kS (Obj.mapSeq fun _=>(#[]:Array Value));have hd2:(h1.update kS (Obj.mapSeq fun _=>(#[]:Array Value))).get? D=some (seqObj "list" #[] e1):=(sb.2 D R3.symm).trans K.d;refine aa (seqEpoch_at hd2 rfl ?_);have hsz:(((bY ks).map fun i=>vs.getD i Value.none).toArray).size<=sizeLine:=by rw[bc,ai,(dj ks).length_eq,gb];exact hz _ (by omega)
   refine aa (ir hd2 rfl ?_ (bG _) (bt hsz (gz _)));rw[hf];simp only[hZ,bV,bC];refine af ?_
   have Pk:=eE (h1.update kS (Obj.mapSeq fun _=>(#[]:Array Value))) D (Obj.mapSeq fun _=>((bY ks).map fun i=>vs.getD i Value.none).toArray);refine h _ oy _ (fun b o n q=>?_) (jw hd2 fun _=>((bY ks).map fun i=>vs.getD i Value.none).toArray);refine(Pk.2 b n).trans ((sb.2 b fun z=>?_).trans (K.old b o n q));rw[z]at q;exact absurd (aw q) (Nat.not_lt.mpr T7)
  unfold PyProof.Rows.ksk_end
  try dsimp only
  simp only[bV,bC];have T_:kv.length=vs.length:=KR;by_cases h2:ks.length<2
  ·have Jh:vs.toArray.size<2:=by rw[bc,hl];exact h2
   rw[ab Jh,ab Jh];refine aa (af ?_);rw[StateT.run_pure];refine aa (af ?_);dsimp only;refine fin _ ?_ rfl
   rw[mH h2,<-hl,dn];show((List.toArray kv).zip (List.toArray vs)).map (·.2)=_;apply Array.toList_inj.mp;simp only[Array.toList_map,Array.toList_zip];exact List.map_snd_zip (by omega)
  ·have h2:2<=ks.length:=by omega
   have OX:¬vs.toArray.size<2:=by rw[bc,hl];omega
   rw[ae OX,ae OX];obtain⟨p,er,hp,hs⟩:=we (zJ FF) h2;have ep:=tK FF hp hs;have R8:kv.length=ks.length:=by omega
   obtain⟨fs,aC,fl,JE⟩:=kT R8 K.t;refine aa (PySem.W.kat_kind (s:={s with heap:=h1,toks:=oy}) (T:=.type "int") aC (by rw[fl];omega) (fun v hv=>by obtain⟨z,t,rfl⟩:=JE v hv;exact .of_pure rfl) (by decide) ?_);rw[show(Value.type "int" !=Value.type "tuple")=true by decide];refine aa (PySem.W.kat_run (Q:=fun rV s'=>wpAny (model prog w) A (PyProof.Rows.ksk_tail D false e1 (.ref kS) rV) P E s') (G:=fun q s'=>s'={s with heap:=h1,toks:=oy}/\q.toList=bY ks) T_ (by omega) (by omega) (fun p' rV s' a1 a2 a3 a4=>?_) ?_)
   ·obtain⟨rfl,a5⟩:=a4;exact fin rV (by rw[PySem.W.kat_snds T_ a2,a5]) a3
   ·rw[hl];refine nk (fun i j C hi hj rQ hC=>?_) _ er ⟨rfl,ep⟩;have vi:kv[i]?=some (kv[i]'(by omega)):=aF (by omega)
    have vj:kv[j]?=some (kv[j]'(by omega)):=aF (by omega)
    have ki:ks[i]?=some ks[i]:=aF hi
    have kj:ks[j]?=some ks[j]:=aF hj
    show wpAny _ _ (keyLt' _ (kv.getD i Value.none) (kv.getD j Value.none)) _ _ _;rw[bH,bH,vi,vj];refine GY (s:={s with heap:=h1,toks:=oy}) hu (K.t i _ _ vi ki) (K.t j _ _ vj kj) (wK _ (ib hi) _ (ib hj)) (fun e=>rQ ((gp FF).mp e)) ?_
    unfold Pu at hC;rw[bH,bH,ki,kj]at hC;exact hC
end
end L2
namespace L2
open PySem PySem.Spec PySem.Calls PyProof.Rows
def Br(K:PySem.W.Frag)(c P:Addr):Bool:=match K.lookup c with
 |some ⟨.type "code",_,.fields vs,_⟩=>decide (vs[11]?=some (.ref P))&&((match vs.getD 18 .none with|.str _ _=>true|_=>false)&&((match vs.getD 7 .none with|.int _ _=>true|_=>false)&&((match vs.getD 9 .none with|.bool _=>true|_=>false)&&((match vs.getD 10 .none with|.int _ _=>true|_=>false)&&decide (c≠P)))))
 |_=>false
theorem DB{K:PySem.W.Frag}{c P:Addr}{h:Heap}(X:K.In h)(e:Br K c P=true):PySem.W.CodeHd h c P:=by
 unfold Br at e;split at e
 ·rename_i od vs sl hk;rw[aK,aK,aK,aK,aK,cK,cK]at e;obtain⟨h1,h2,h3,h4,h5,h6⟩:=e;have g:=X _ _ hk;have R9:vs.getD 11 .none=.ref P:=by rw[cj,h1];rfl
  cases e2:vs.getD 18 .none with
  |str f tf=>
   cases e3:vs.getD 7 .none with
   |int fl tg=>
    cases e4:vs.getD 9 .none with
    |bool b=>
     cases e5:vs.getD 10 .none with
     |int tx tt=>exact⟨_,vs,f,tf,fl,tg,b,tx,tt,g,rfl,rfl,h1,R9,e2,e3,e4,e5,h6⟩
     |_=>rw[e5]at h5;cases h5
    |_=>rw[e4]at h4;cases h4
   |_=>rw[e3]at h3;cases h3
  |_=>rw[e2]at h2;cases h2
 ·cases e
def R_(mg:Str->Option Value)(base:Heap):Prop:=∃bm ob,mg "__builtins__"=some (.ref bm)/\bm≠builtinsNs/\bm≠mainGlobals/\base.get? bm=some ob/\ob.cls=.type "module"/\ob.dict=some builtinsNs/\ob.data=.plain
theorem wN{i j:Int}{t u:Tok}{c:Value}:∀{l:List Value},TriplesOk l->TriplesOk (l++[.int i t,.int j u,c])
 |[],_=>trivial
 |.int _ _:: .int _ _::_::rest,h=>wN (l:=rest) h
theorem tR{q:Pos}{i j:Int}{t u:Tok}{c v:Value}:∀{l:List Value},TriplesOk l->codeAmong q (l++[.int i t,.int j u,c])=some v->codeAmong q l=some v\/v=c
 |[],_,e=>by
  have e:(if(i==q.line&&j==q.col)=true then some c else codeAmong q [])=some v:=e;split at e
  ·exact .inr (Option.some.inj e).symm
  ·cases e
 |.int a _:: .int b _::d::rest,h,e=>by
  have e:(if(a==q.line&&b==q.col)=true then some d else codeAmong q (rest++[.int i t,.int j u,c]))=some v:=e;show(if(a==q.line&&b==q.col)=true then some d else codeAmong q rest)=some v\/_;split at e
  ·rename_i z;rw[ab z];exact .inl e
  ·rename_i z;rw[ae z];exact tR (l:=rest) h e
section
variable {X:Cx}{pins:List (Addr×Obj)}{σ:St}{H:Hp}{s:Shared}
theorem DC{nm q:Str}{params:Arguments}{body:Expr}{scope:Scope}{oB:List (Str×Addr)}{c P:Addr}{pos:Pos}{fl:Nat}{A:Around}{E:Value->Shared->Prop}{Q:Value->Shared->Prop}(I:Inv X pins σ H s)(C:PySem.W.CodeHd X.base c P)(Bm:R_ X.mg X.base)(hP:H P=some (.vb #[.str q 0])) (tT:X.env.code=.ref c) (K3:X.env.globals=mainGlobals)
  (xE:closureFor scope X.env=pure oB)
  (h:∀f c' pm yq h' tk H',Inv X pins σ H' {s with heap:=h',toks:=tk}->au H H'->H' f=none->s.heap.objs.size<=f->h'.get? f=some (PySem.W.kla_obj nm q params body scope oB pm c' yq)->h'.CodeRec (.ref c') q->Q (.ref f) {s with heap:=h',toks:=tk}):
  wpAny (model X.prog X.w) A (makeFunction nm q params (.expr body) scope X.env [] [] [] pos fl) Q E s:=by
 obtain⟨qs,hp,tr,rec⟩:=(show bu X.prog X.w H s.heap P (.vb #[.str q 0])from I.bN P _ hP);have hC:=C.keeps I.bk;have hg:=I.mod.glob.keeps I.bk;obtain⟨bm,ob,b1,b2,b3,b4,b5,b6,b7⟩:=Bm;have WA:bm≠P:=fun z=>by
  have e:=I.bk _ _ b4;rw[z,hp]at e;cases e;cases b5
 have hB:s.heap.BuiltinsAt X.mg P:=⟨bm,ob,b1,b2,b3,WA,I.bk _ _ b4,b5,b6,b7⟩;have WB:mainGlobals≠P:=fun z=>by
  obtain⟨o,es,ep,e,hd,_⟩:=hg;rw[z,hp]at e;cases e;cases hd
 cases hf:codeAmong pos qs.toList with
 |some v=>
  obtain⟨c',oc,vs,q',t,rfl,e2,e3,e4,e5,e6⟩:=rec pos v hf;have eq:q=q':=by
   have z:=bB (fun a:Array Value=>a[0]?) e2;simp at z;exact z
  subst eq;refine PySem.W.kla_makeFunctionHit xE K3 hg tT hC hp tr hf hB fun yq h' tk kp hsz=>?_
  have I1:Inv X pins σ H {s with heap:=h',toks:=tk}:=I.kept kp;refine h _ c' _ yq _ tk H (I1.kept fun b o e=>aB _ e) (au.refl H) (I1.bN.fresh (ar _)) hsz (aT _ rfl) ⟨c',oc,vs,t,rfl,aB _ (kp _ _ e4),e5,e6⟩
 |none=>
  refine PySem.W.kla_makeFunction xE K3 hg tT hC hp tr hf WB hB fun c' yq h' tk hx DD dX R' T'=>?_
  obtain⟨c₂,oc,vs,t,e2,Kt,hd,hv⟩:=R';cases e2;have JM:H c'=none:=I.bN.fresh DD;have Xx:c'≠P:=cp (bx (aw hp) DD);have bN:kr X.prog X.w (upd H c' (.own P)) (h'.push (PySem.W.kla_obj nm q params body scope oB ((X.mg "__name__").getD .none) c' yq)):=by
   intro b u e;by_cases z:b=c'
   ·subst z;rw[aH]at e;cases e;exact⟨oc,aB _ Kt⟩
   ·rw[ah z]at e;by_cases zP:b=P
    ·subst zP;rw[hP]at e;cases e;refine⟨_,aB _ T',?_,fun pos' v' ev=>?_⟩
     ·rw[Array.toList_append];exact wN tr
     ·rw[Array.toList_append]at ev;rcases tR tr ev with ev|rfl
      ·obtain⟨c₂,N3,N4,Sa,Sb,f1,f2,f3,f4,f5⟩:=rec pos' v' ev;refine⟨c₂,N3,N4,Sa,Sb,f1,f2,(ah fun z=>by rw[z,JM]at f3;cases f3).trans f3,aB _ (hx _ _ (fun z=>?_) f4),f5⟩;rw[z,hP]at f3;cases f3
      ·exact⟨c',oc,vs,q,t,rfl,rfl,aH,aB _ Kt,hd,hv⟩
    ·refine(I.bN b u e).kE (fun d o BI e'=>aB _ (hx d o (fun zd=>?_) e')) (fun d e'=>(ah fun zd=>by rw[zd,JM]at e';cases e').trans e') fun d xs e'=>(ah fun zd=>by rw[zd,JM]at e';cases e').trans e';rcases BI with BI|BI
     ·exact zP (BI.symm.trans zd)
     ·rw[zd,hP]at BI;cases BI
  have I1:Inv X pins σ (upd H c' (.own P)) {s with heap:=h'.push (PySem.W.kla_obj nm q params body scope oB ((X.mg "__name__").getD .none) c' yq),toks:=tk}:=by
   refine I.un (t':=tk) ⟨fun b o e n _ _=>aB _ (hx _ _ (fun z=>by rw[z,hP]at n;cases n) e),fun b o e n _ _=>⟨o.slots,aB _ (hx _ _ (fun z=>by rw[z,hP]at n;cases n) e)⟩,fun b o e n _=>(ah fun z=>by rw[z]at e;exact absurd (aw e) (Nat.not_lt.mpr DD)).trans n,fun b o e _=>?_,fun b xs e=>(ah fun z=>by rw[z,JM]at e;cases e).trans e,fun b o u e=>(ah fun z=>by rw[z,JM]at e;cases e).trans e,fun b ps e=>⟨#[],by rw[Array.append_empty];exact(ah fun z=>by rw[z,JM]at e;cases e).trans e⟩⟩ bN;by_cases z:b=P
   ·exact⟨_,by rw[z];exact aB _ T'⟩
   ·exact⟨o,aB _ (hx _ _ z e)⟩
  have Ks:h'.objs.size≠c':=cp dX;refine h _ c' _ yq _ tk _ I1 (au.upd JM) ?_ ?_ (aT _ rfl) ⟨c',oc,vs,t,rfl,aB _ Kt,hd,hv⟩
  ·rw[ah Ks];refine I.bN.fresh (bt DD (fL dX))
  ·exact bt DD (fL dX)
end
end L2
namespace L2
open PySem PySem.Spec PySem.Calls PyProof.Rows
def gM(aC:List (List Key×Tr)):List Tr:=aC.map fun p=>.tup [p.2,.tup (p.1.map mi)]
def DE:Tr->Tr
 |.tup [_,k]=>k
 |_=>.cg
def uS:Tr->Rs Tr
 |.bf aC=>if oN (gM aC)=true/\((gM aC).all fun t=>(cF t).length==3)=true then .ok (.lst ((dq (gM aC)).map DE))else .bad
 |_=>.bad
def kU(x q:Str)(r:Rs Tr)(A:Ab):Rz Tr:=match(A[0]? :Option Ao)with
 |some (.tb x' q')=>if x'=x/\q'=q then aq (r.bind uS) A else .bad
 |_=>.bad
theorem yt{X:Cx}{H:Hp}{xc:Tr->Ab->Prop}{x q:Str}{ρ:az}{i:Nat}{A:Ab}{k:Tr->Ab->Prop}(h:dH xc (kU x q (ay ρ i) A) k):A[0]?=some (.tb x q)/\∃aC,ay ρ i=.ok (.bf aC)/\oN (gM aC)=true/\((gM aC).all fun t=>(cF t).length==3)=true/\k (.lst ((dq (gM aC)).map DE)) A:=by
 unfold kU at h;split at h
 ·rename_i x' q' e;obtain⟨⟨rfl,rfl⟩,h2⟩:=mn h
  clear h
  refine⟨e,?_⟩;cases e2:ay ρ i with
  |bad=>rw[e2]at h2;exact(show False from h2).elim
  |exc c=>rw[e2]at h2;exact(show False from h2).elim
  |ok t=>
   rw[e2]at h2;have h4:dH xc (aq (uS t) A) k:=h2
   clear h2
   cases t with
   |bf aC=>
    by_cases z:oN (gM aC)=true/\((gM aC).all fun t=>(cF t).length==3)=true
    ·have e3:uS (.bf aC)=.ok (.lst ((dq (gM aC)).map DE)):=ab z;rw[e3]at h4;exact⟨aC,rfl,z.1,z.2,h4⟩
    ·have e3:uS (.bf aC)=.bad:=ae z;rw[e3]at h4;exact(show False from h4).elim
   |_=>exact(show False from h4).elim
 ·exact(show False from h).elim
theorem DF{xs:List (List Key×Addr×Value)}(nd:(xs.map (·.1)).Nodup):∀{i:Nat} {x:List Key×Addr×Value},xs[i]?=some x->atKey xs x.1=some x.2:=by
 induction xs with
 |nil=>intro i x e;simp at e
 |cons y xs ih=>
  intro i x e;rw[aA,dy]at nd;unfold atKey;cases i with
  |zero=>
   cases e;rw[dz,bA rfl];rfl
  |succ i=>
   have e:xs[i]?=some x:=e
   have fb:¬y.1=x.1:=fun z=>nd.1 (by rw[z];exact List.mem_map_of_mem (bJ e));rw[dz,aY fb];exact ih nd.2 e
section
variable {X:Cx}
theorem FL{d x N5 q:Str}{i:Nat}{c P:Addr}{p pd p1 p2 p3 p4 p5 kp pos JN:Pos}{n1:Nat}{params:Arguments}{scope:Scope}(hu:X.A.units+40<cLine)(Xy:X.A.depth+3<recursionLimit)(Sd:PySem.W.tabIn X.K N5=some (c,P))(Se:Br X.K c P=true)(tT:X.env.code=.ref c)
  (hm:X.mg "sorted"=none) (hN:X.N[i]?=some d) (JO:X.env.scope.names.lookup d=some .cell) (S:Dz scope d x) (KO:∀y∈scope.names,y.2=.free->y.1=d) (hq:X.env.qual++"<lambda>"=q)
  (JP:defaultsOf params X.env=([],[])) (vG:∀(nm qual:Str) (oB:List (Str×Addr)) (pm:Value) (c':Addr) (yq v:Value),bindArgs (PySem.W.kla_fn nm qual params (Bq d x p1 p2 p3 p4 p5 n1) scope oB pm (.ref c') yq) ⟨[v],[]⟩=pure [(x,v)])
  (K3:X.env.globals=mainGlobals) (hc:X.calm=true) (hg:Gl X "sorted") (Sf:∀env:Env,(X.A.in1.in1.deeper env).units+1<cLine) (hk:X.env.kindOf d=some .cell):
  PE X (.Call (.Name "sorted" p) [.Name d pd] [⟨some "key",.Lambda params (Bq d x p1 p2 p3 p4 p5 n1) scope JN,kp⟩] pos) (tE X fun ρ A=>kU N5 q (ay ρ i) A):=by
 intro pins s σ H Q I ⟨B,A,ρ,ha,r,n,qq⟩;obtain⟨eA,aC,eg,ok,h3,k⟩:=yt (X:=X) (H:=H) qq;obtain⟨P',sU,BI,⟨c',G0⟩,hP⟩:=ha.ob 0 _ eA;cases Sd.symm.trans G0;obtain⟨v,t,ev,rv,et⟩:=vL (X:=X) (k:=fun t=>t=.bf aC) r (by rw[eg];rfl);subst et;obtain⟨da,av,rfl,WC,ek,rr⟩:=rv.oO;have N6:Hn X.env.scope d:=Or.inr (Or.inl JO);obtain⟨m,hn,R8⟩:=id I.loc;obtain⟨u,ru,look⟩:=R8 i d _ hN ev N6;cases(show u=Value.ref da from ru);obtain⟨cell,xE,nM⟩:∃cell,X.env.cells.lookup d=some cell/\s.heap.IsCell cell (some (.ref da)):=by
  rcases look with⟨FG,_⟩|⟨_,cc,e1,e2⟩
  ·rw[hk]at FG;cases FG
  ·exact⟨cc,e1,e2⟩
 have Sg:∀(Q':Value->Shared->Prop),Q' (.ref da) s->wpAny (model X.prog X.w) X.A (eval (.Name d pd) X.env) Q' X.xe s:=fun Q' Jz=>gC (pN I.ok.kind hk xE nM Jz) S.dd;refine jk (kF (u:=.builtin "sorted") I hg hm rfl ?_ (by decide) (by decide));refine callWith_kw ?_ (by rw[aX _ _ rfl];rfl) (cb (es:=[.Name d pd]) rfl)
 show wpAny _ _ (spliced ((false,eval (.Name d pd) X.env)::backTo pos (starEach [] X.env))) _ _ _;refine jj (Sg _ (lL ?_));refine kws_cons (PySem.W.kla_eval JP ?_);rw[hq];have jH:∀y∈scope.names,y.2=.free->∃c,X.env.cells.lookup y.1=some c:=fun y hy z=>by rw[KO y hy z];exact⟨cell,xE⟩
 have sub:∀x c,(um scope X.env).lookup x=some c->X.env.cells.lookup x=some c:=kH scope.names [] jH (fun x c e=>by simp at e);obtain⟨DG,N7⟩:∃c,(um scope X.env).lookup d=some c:=o5.mp (kI scope.names [] d (.inr (f' S.ld)));have N8:DG=cell:=by have z:=sub d DG N7;rw[xE]at z;exact(Option.some.inj z).symm
 subst N8;refine DC I (DB I.mod.Lh Se) I.mod.bm hP tT K3 (iU jH) fun f cd pm yq BC WD H3 I3 sm Ks Xz L0 n6=>kws_nil ?_
 have JQ:BC.IsCell DG (some (.ref da)):=by
  obtain⟨m3,_,PC⟩:=I3.loc;obtain⟨u3,WE,N9⟩:=PC i d _ hN ev N6;cases(show u3=Value.ref da from WE);rcases N9 with⟨FG,_⟩|⟨_,cc,f1,f2⟩
  ·rw[hk]at FG;cases FG
  ·rw[xE]at f1;cases f1;exact f2
 have N_:Rd H3 da (.dT av):=(WC.same aE).same sm;obtain⟨hz,Si,xs,rel,o,es,ep,g1,g2,g3,g4,g5⟩:=(show bu X.prog X.w H3 BC da (.dT av)from N_.ok I3.bN);obtain⟨_,_,Vc,WG,dd⟩:=qw I3.bN N_;have bN:∀x∈xs,(tupleKind (ax X.prog X.w)).is BC x.1 x.2.1:=by
  have all:∀{l:List (List Key×V)} {m:List (List Key×Addr×Value)},KT H3 l m->∀x∈m,(tupleKind (ax X.prog X.w)).is BC x.1 x.2.1:=by
   intro l m q
   induction q with
   |nil=>intro x hx;exact nomatch hx
   |@cons p q ps qs hq t ih=>
    intro x hx;rcases aP.mp hx with e|hx
    ·subst e;exact jG I3.bN (by rw[<-hq.1];exact hq.2.1)
    ·exact ih x hx
  exact all rel
 have dd:BC.DictOfH (tupleKind (ax X.prog X.w)) da xs:=⟨o,es,ep,g1,g2,g3,g4,bN,g5⟩;have Sj:xs.length=aC.length:=by
  have z1:=Paired.length rel;have z2:=bB List.length ek;rw[ai,ai]at z2;omega
 obtain⟨WH,BD,nd,same⟩:=ra ok;have Ua:(gM aC).length=aC.length:=by unfold gM;rw[ai]
 have Oa:∀(j:Nat) (xj:List Key×Addr×Value),xs[j]?=some xj->∃kt hh a b,aC[j]?=some kt/\kt.2=.int hh/\kt.1=[.inl a,.inl b]/\(gM aC)[j]?=some (.tup [.int hh,.tup [.int a,.int b]])/\xj.1=[.inl a,.inl b]/\(∃t,xj.2.2=.int hh t)/\H3 xj.2.1=some (.tup [.int a,.int b]):=by
  intro j xj ej;have hj:j<aC.length:=by rw[<-Sj];exact(cX.mp ej).1
  have G_:aC[j]?=some aC[j]:=aF hj
  generalize aC[j]=kt at G_;have Sk:(gM aC)[j]?=some (.tup [kt.2,.tup (kt.1.map mi)]):=by unfold gM;rw[aU,G_];rfl
  have JI:=WH _ (bJ Sk);have PC:(cF (.tup [kt.2,.tup (kt.1.map mi)])).length=3:=eq_of_beq (bF.mp h3 _ (bJ Sk));obtain⟨vk,Sl,Ub⟩:=yh rel ej;have e1:(av.map (·.1))[j]?=some xj.1:=by rw[aU,Sl];rfl
  rw[ek,aU,G_]at e1;have Eb:kt.1=xj.1:=Option.some.inj e1;obtain⟨vv,Uc,Sm⟩:=rr.get (i:=j) (t:=kt.2) (by rw[aU,G_];rfl);rw[aU,Sl]at Uc;cases Uc;obtain⟨k1,k2⟩:=kt;have Eb:k1=xj.1:=Eb;have Sm:Rep X.K (aN B H) vk k2:=Sm;unfold Bk at JI;split at JI
  ·rename_i a b e;rw[<-Option.some.inj JI]at PC;cases PC
  ·rename_i hh a b e;injection e with e
   injection e with e2 e
   injection e with e3 _
   injection e3 with e3
   have e2:k2=.int hh:=e2;subst e2;have WI:k1=[.inl a,.inl b]:=by
    match k1,e3 with
    |[.inl x,.inl y],e3=>injection e3 with z1 z2;injection z2 with z2 _;injection z1 with z1;injection z2 with z2;rw[z1,z2]
    |[.inl x,.inr y],e3=>injection e3 with z1 z2;injection z2 with z2 _;cases z2
    |[.inr x,_],e3=>injection e3 with z1 z2;cases z1
   subst WI;cases Sm.int_inv;have So:RelV (.int hh) xj.2.2:=by
    have gen:∀{l:List (List Key×V)} {m:List (List Key×Addr×Value)},KT H3 l m->∀{j:Nat} {y:List Key×Addr×Value} {w':V} {kk:List Key},m[j]?=some y->l[j]?=some (kk,w')->RelV w' y.2.2:=by
     intro l m q
     induction q with
     |nil=>intro j y w' kk e;simp at e
     |@cons p q' ps qs hq t ih=>
      intro j y w' kk e1 e2;cases j with
      |zero=>cases e1;cases e2;exact hq.2.2
      |succ j=>exact ih (show qs[j]?=some y from e1) (show ps[j]?=some (kk,w')from e2)
    exact gen rel ej Sl
   refine⟨_,hh,a,b,G_,rfl,rfl,Sk,Eb.symm,So,?_⟩;rw[<-Eb]at Ub;exact Ub
  ·cases JI
 refine call_function_entry_kw kind_sorted plain_sorted entry_sorted (ksk_s1 _ _) ?_
 unfold Builtin.«sorted»;refine aa (m:=checkCount "sorted" 1 1 _) (af ?_);have NO:es.size=xs.length:=by rw[<-bK,g4,ai]
 refine aa (uR (A:=X.A.in1) (s:={s with heap:=BC,toks:=WD}) (I3.ok.hd hc) Si g1 g2.1 g3 (by rw[NO,bS];omega) fun h4 Sq Sr=>?_);have WJ:es.toList.map (·.key)=xs.map fun x=>Value.ref x.2.1:=by rw[g4,bq];rfl
 rw[WJ];refine aa (jx ?_ (by rw[ai,bS];omega));have D9:(h4.push (seqObj "list" (xs.map fun x=>Value.ref x.2.1).toArray 0)).get? h4.objs.size=some (seqObj "list" (xs.map fun x=>Value.ref x.2.1).toArray 0):=aT _ rfl;have Pt:∀{b:Addr} {o:Obj},BC.get? b=some o->b≠h4.objs.size:=fun{b o} e=>aS (aw (Sr _ _ e));refine aa (cB (wpAny_call_entry_kw slot_list_sort ⟨_,D9,rfl⟩ entry_list_sort ?body (ksk_l1 _ _)))
 case body=>
  show wpAny _ X.A.in1.in1 (Builtin.«list.sort» ⟨[.ref h4.objs.size],[(Str.ofString "key",.ref f)]⟩) _ _ _;rw[ksk_t1];refine yr (s:={s with heap:=h4.push (seqObj "list" (xs.map fun x=>Value.ref x.2.1).toArray 0),toks:=Sq}) (ks:=(gM aC).map cF) (by show X.A.units+1+1<cLine;omega) D9 (by rw[ai,ai,Ua,Sj]) (by rw[ai];exact BD) nd same (fun j v' ky h1 oy C ej G_ WK hC=>?_) fun h5 WL c5 WM WN=>?_
  ·rw[aU]at ej;cases Ob:xs[j]? with
   |none=>rw[Ob]at ej;cases ej
   |some xj=>
    rw[Ob]at ej;cases ej;obtain⟨kt,hh,a,b,e1,e2,e3,e4,e5,⟨t5,e6⟩,e7⟩:=Oa j xj Ob;rw[aU,e4]at G_;cases G_;have JR:∀b o,BC.get? b=some o->h1.get? b=some o:=fun b o e=>WK b o (Pt e) (aB _ (Sr b o e));refine DA (s:={s with heap:=h1,toks:=oy}) Sf (by show X.A.in1.in1.depth<recursionLimit;show X.A.depth<_;omega) ((I3.nolimit).keeps JR) (JR _ _ L0) (n6.keeps JR) (vG _ _ _ _ _ _) S N7 (by obtain⟨oc,ec,rc⟩:=id JQ;exact⟨oc,JR _ _ ec,rc⟩) (nE JR dd) (fV (bN xj (bJ Ob)) h1 JR) (DF g5 Ob) fun h6 WO tp Ud _ Ri=>hC h6 WO _ Ud ?_
    show Pw h6 (.ref tp) hh a b;obtain⟨aV,BB,⟨ot,t1,t2,nt,t3⟩,_⟩:=I3.tuple (.inl (.inl e7));obtain⟨w1,w2,rfl,⟨Ss,rfl⟩,⟨Su,rfl⟩⟩:=vals2 BB;exact⟨tp,_,t5,0,.ref xj.2.1,rfl,Ri,rfl,by rw[e6],xj.2.1,ot,Ss,Su,nt,rfl,Ud _ _ (JR _ _ t1),t2,t3⟩
  ·
   refine⟨_,rfl,af ⟨_,rfl,?_⟩⟩;have J:Inv X pins σ H3 {s with heap:=h4,toks:=Sq}:=(I3.kept (t':=Sq) Sr);have Sv:H3 h4.objs.size=none:=J.fresh;have Ue:HB B H3:=ha.hb.same sm;have Oc:((gM aC).map cF).length=xs.length:=by rw[ai,Ua,Sj]
   have I5:=J.laid (t':=WL) (o:=.lst ((bY ((gM aC).map cF)).map fun j=>(xs.map fun x=>V.ref x.2.1).getD j .cg)) (h':=h5) (fun b o e=>WM b o (aS (aw e)) (aB _ e)) (ar _) ⟨by rw[ai,(dj _).length_eq,gb,ai,bS];omega,_,c5,uP fun j hj=>?_,WN⟩
   ·refine⟨.ref h4.objs.size,_,I5,rfl,k _ B _ (.of (sm.trans (au.upd Sv))) (ha.same (sm.trans (au.upd Sv))) (.xO Ue Sv ?_)⟩;rw[<-tL nd,bq];refine uI fun j hj=>?_
    have wg:=cT hj;rw[Oc]at wg;obtain⟨kt,hh,a,b,e1,e2,e3,e4,e5,_,e7⟩:=Oa j xs[j] (aF wg);show Rep _ _ ((xs.map fun x=>V.ref x.2.1).getD j .cg) (DE ((gM aC).getD j .cg));rw[bH,bH,aU,aF wg,e4];exact .tup (Ue.tup e7) (.cons (.int a) (.cons (.int b) .nil))
   ·have wg:=cT hj;rw[Oc]at wg;rw[bH,bH,aU,aU,aF wg];exact rfl
end
end L2
namespace L2
open PySem PySem.Spec PySem.Calls PyProof.Rows
def gO:Option Int->List Int->Option Int
 |c,[]=>c
 |none,n::ns=>gO (some n) ns
 |some m,n::ns=>gO (some (if n>m then n else m)) ns
def Ha:Option (Int×Tok)->Array Value
 |none=>#[]
 |some (m,t)=>#[.int m t,.int m t]
theorem DH(a d:Value):argsOk "max" ⟨[a],[(Str.ofString "default",d)]⟩:=by unfold argsOk;kernel_rfl
section
variable {prog:Program}{w:World}{A:Around}{s:Shared}
theorem wO{id:String}{b:Builtin}{args:List Value}{kw:List (Str×Value)}{E:Value->Shared->Prop}{Q:Value->Shared->Prop}(hk:builtinKind id=none)(hp:plainId id=true)(hb:entryFor table id=some b)(ha:argsOk id ⟨args,kw⟩)
  (hc:wpAny (model prog w) A.in1 (b ⟨args,kw⟩) (fun fin s'=>match fin with
   |.done f=>(match(Except.ok f:Result)with|.ok (.ret v)=>Q v s'|.ok _=>False|.error e=>E e s')
   |.again c'=>c'.quiet=true/\codeAny (model prog w) A c' (fun r s'=>match r with|.ok (.ret v)=>Q v s'|.ok _=>False|.error e=>E e s') s') E s):wpAny (model prog w) A (call (.builtin id) args kw) Q E s:=by
 refine wpAny_call (codeAny_call_builtin hp hb ?_);simp only[checkBuiltinCall,hk];cases Sw:Manifest.signature? id with
 |none=>exact af hc
 |some sig=>
  have h2:Bind.checkArgs id sig ⟨args,kw⟩=pure ():=by simpa only[argsOk,Sw]using ha
  simp only[h2];exact af hc
theorem Bs{h0:Heap}{I S:Addr}{aV:List Value}{ns:List Int}{It:Nat->Heap->Prop}{d:Value}{R:Result->Shared->Prop}(hh:A.handled=none)(W:Nz prog w A.in1 h0 I aV It)(hv:IntsAre aV ns)(NX:h0.get? S=none)(NC:h0.get? I=none)(K2:S≠I)
  (hR:∀h' tk v,(∀b o,h0.get? b=some o->h'.get? b=some o)->(match gO none ns with|none=>v=d|some m=>∃t,v=.int m t)->R (.ok (.ret v)) {s with heap:=h',toks:=tk}):
  ∀(r i:Nat) (h:Heap) (tk:Nat) (cur:Option (Int×Tok)),ns.length - i=r->i<=ns.length->gO (cur.map (·.1)) (ns.drop i)=gO none ns->(∀b o,h0.get? b=some o->h.get? b=some o)->It i h->(∃c,h.get? S=some (seqObj "list" (Ha cur) c))->
   codeAny (model prog w) A (.builtin "max.loop" ⟨[.ref I,.none,.ref S],[(Str.ofString "default",d)]⟩) R {s with heap:=h,toks:=tk}:=by
 have hlen:aV.length=ns.length:=hv.length;have nS:∀{b:Addr} {o:Obj},h0.get? b=some o->b≠S:=fun{b o} e z=>by rw[z,NX]at e;cases e
 have nI:∀{b:Addr} {o:Obj},h0.get? b=some o->b≠I:=fun{b o} e z=>by rw[z,NC]at e;cases e
 have nm:(toString "max"++toString ".loop":String)="max.loop":=by decide
 intro r
 induction r with
 |zero=>
  intro i h tk cur hr hi hm kp it ⟨c,hS⟩;have e:i=ns.length:=by omega
  subst e;rw[jl]at hm;refine dQ PySem.F.entry_max_loop ?_
  rw[eC j5 _];show wpAny _ A.in1 (seqItems? (.ref S)>>=_) _ _ {s with heap:=h,toks:=tk};refine aa (dA hS rfl ?_);show wpAny _ A.in1 (tryCatch (pyNext (.ref I)) _>>=_) _ _ {s with heap:=h,toks:=tk};refine aa (lZ (W.stop (s:={s with heap:=h,toks:=tk}) hh it kp (by rw[hlen];exact ar _) fun h' eb=>?_));have zz:∀b o,h0.get? b=some o->h'.get? b=some o:=fun b o q=>eb b o (nI q) (kp b o q);cases cur with
  |none=>
   have hm:none=gO none ns:=hm;show wpAny _ A.in1 (rule _>>=fun _=>ret d) _ _ _;refine aa (eO (af (hR h' tk d zz ?_)));rw[<-hm]
  |some mt=>
   obtain⟨m,t⟩:=mt;have hm:some m=gO none ns:=hm;have zK:=eb S _ K2 hS;show wpAny _ A.in1 (updateSeq S (fun _=>#[])>>=_) _ _ _;refine aa (jr (hz:=show 2<=sizeLine by decide) zK rfl (aa (gB (af ?_))));refine hR _ tk (.int m t) (fun b o q=>(gU _ _ (b_ (nS q))).trans (zz b o q)) ?_
   rw[<-hm];exact⟨t,rfl⟩
 |succ r ih=>
  intro i h tk cur hr hi hm kp it ⟨c,hS⟩;have dX:i<ns.length:=by omega
  have KU:i<aV.length:=by omega
  obtain⟨tv,ev⟩:∃t,aV[i]=.int ns[i] t:=by
   have gen:∀{vs:List Value} {ms:List Int},IntsAre vs ms->∀{j:Nat} (h1:j<vs.length) (h2:j<ms.length),∃t,vs[j]=Value.int ms[j] t:=by
    intro vs ms hq
    induction hq with
    |nil=>intro j h1;exact absurd h1 (pV _)
    |cons n t _ ih=>
     intro j h1 h2;cases j with
     |zero=>exact⟨t,rfl⟩
     |succ j=>exact ih (Nat.lt_of_succ_lt_succ h1) (Nat.lt_of_succ_lt_succ h2)
   exact gen hv KU dX
  rw[lh dX]at hm;refine dQ PySem.F.entry_max_loop ?_
  rw[eC j5 _];show wpAny _ A.in1 (seqItems? (.ref S)>>=_) _ _ {s with heap:=h,toks:=tk};refine aa (dA hS rfl ?_);show wpAny _ A.in1 (tryCatch (pyNext (.ref I)) _>>=_) _ _ {s with heap:=h,toks:=tk};refine aa (lZ (W.item (s:={s with heap:=h,toks:=tk}) it kp (x:=.int ns[i] tv) (by rw[aF KU,ev]) fun h' KW sb=>?_));have zz:∀b o,h0.get? b=some o->h'.get? b=some o:=fun b o q=>(sb.2 b (nI q)).trans (kp b o q);have zK:h'.get? S=some (seqObj "list" (Ha cur) c):=(sb.2 S K2).trans hS;have put:∀(oq:Nat),gO (some ns[i]) (ns.drop (i+1))=gO none ns->codeAny (model prog w) A (.builtin "max.loop" ⟨[.ref I,.none,.ref S],[(Str.ofString "default",d)]⟩) R {s with heap:=h'.update S (Obj.mapSeq fun _=>#[.int ns[i] tv,.int ns[i] tv]),toks:=oq}:=fun oq WQ=>
   ih (i+1) _ oq (some (ns[i],tv)) (by omega) dX WQ (fun b o q=>(gU _ _ (b_ (nS q))).trans (zz b o q)) (W.keep KW fun o q=>(gU _ _ K2).trans q) ⟨_,jw zK fun _=>#[.int ns[i] tv,.int ns[i] tv]⟩
  cases cur with
  |none=>
   show wpAny _ A.in1 (updateSeq S (fun _=>#[.int ns[i] tv,.int ns[i] tv])>>=_) _ _ _;refine aa (jr zK rfl ?_);rw[nm];exact af ⟨dB j5 _,put tk hm⟩
  |some mt=>
   obtain⟨m,t⟩:=mt;have hm:gO (some (if ns[i]>m then ns[i]else m)) (ns.drop (i+1))=gO none ns:=hm;show wpAny _ A.in1 (tryCatch (holding [.int ns[i] tv,.int ns[i] tv] (richCompare .Gt (.int ns[i] tv) (.int m t)>>=_)) _>>=_) _ _ _;refine aa (lZ (cB (aa (show wpAny _ _ (compareOp .Gt _ _) _ _ _ from PyProof.Rows.gt_int ?_))));refine aa (cB (jo ?_));refine aa (gB (af ?_));by_cases q:m<ns[i]
   ·rw[bA q,ab rfl];refine aa (jr (hz:=show 2<=sizeLine by decide) zK rfl (aa (gB ?_)));rw[nm];rw[ab q]at hm;exact af ⟨dB j5 _,put tk hm⟩
   ·rw[aY q,ae cz];refine aa (gB ?_);rw[nm];rw[ae q]at hm;exact af ⟨dB j5 _,ih (i+1) h' tk (some (m,t)) (by omega) dX hm zz KW ⟨c,zK⟩⟩
end
def wQ(ts d:Tr):Rs Tr:=match ts,d with
 |.lst ts,.int d=>(match jR ts with
  |some ns=>.ok (.int ((gO none ns).getD d))
  |none=>.bad)
 |_,_=>.bad
section
variable {X:Cx}{l e:Expr}{p kp pos:Pos}{F G:az->Rs Tr}
theorem JS(hm:X.mg "max"=none)(hl:PE X l (tP X F))(he:PE X e (tP X G))(hc:X.calm=true:=by rfl) (hg:Gl X "max":=by rfl) (cZ:ba [l]=true:=by rfl):
  PE X (.Call (.Name "max" p) [l] [⟨some "default",e,kp⟩] pos) (tP X fun ρ=>(F ρ).bind fun a=>(G ρ).bind fun b=>wQ a b):=by
 intro pins s σ H Q I ⟨B,ρ,hB,r,q⟩;refine jk (kF (u:=.builtin "max") I hg hm rfl ?_ (by decide) (by decide));refine callWith_kw (du (iS hl kG (aX _ _ (aG cZ).1) pos pins s σ H (fun vs H1=>∃tl,aJ X.K (aN B H1) vs [tl]/\au H H1/\Fi X H ((G ρ).bind fun b=>wQ tl b) fun t=>∀v H',au H H'->Rep X.K (aN B H') v t->Q v H') I ?_) fun us s1 ⟨vs,H1,I1,rv,tl,rl,sm,k1⟩=>?_) (by rw[aX _ _ (aG cZ).1];rfl) (cb cZ)
 ·exact⟨B,ρ,hB,r,q.bind.mono fun tl qt v H1 s1 r1=>⟨tl,.cons r1 .nil,s1,qt⟩⟩
 obtain⟨y,rfl,WR⟩:=f_ rl;refine kws_cons (du (he pins s1 σ H1 (fun x H2=>∃o,Rep X.K (aN B H2) x o/\au H1 H2/\Fi X H (wQ tl o) fun t=>∀v H',au H H'->Rep X.K (aN B H') v t->Q v H') I1 ⟨B,ρ,hB.same sm,r.same sm,(k1.bind.same sm).mono fun o qo v H2 s2 r2=>⟨o,r2,s2,qo⟩⟩) fun u2 s2 ⟨x,H2,I2,rx,ot,ro,Ug,k2⟩=>kws_nil ?_);have key:∃ts d ns,tl=.lst ts/\ot=.int d/\jR ts=some ns/\∀v H',au H H'->Rep X.K (aN B H') v (.int ((gO none ns).getD d))->Q v H':=by
  have k3:=k2
  clear k2
  cases tl with
  |lst ts=>
   cases ot with
   |int d=>
    have k4:Fi X H (match jR ts with|some ns=>.ok (.int ((gO none ns).getD d))|none=>.bad) fun t=>∀v H',au H H'->Rep X.K (aN B H') v t->Q v H':=k3
    clear k3
    cases e:jR ts with
    |none=>rw[e]at k4;exact(show False from k4).elim
    |some ns=>rw[e]at k4;exact⟨ts,d,ns,rfl,rfl,e,k4⟩
   |_=>exact(show False from k3).elim
  |_=>exact(show False from k3).elim
 obtain⟨ts,d,ns,rfl,rfl,en,kq⟩:=key;cases ro.int_inv;obtain⟨td,rfl⟩:=(show∃t,u2=Value.int d t from rx);obtain⟨a,xs,rfl,BA,Cr⟩:=WR.lst_inv;obtain⟨w1,rfl,WS⟩:=vals1 rv;cases(show w1=Value.ref a from WS);cases sS Cr en;obtain⟨aV,xn,pl,_⟩:=I2.list (.of (Ug _ _ (fq BA)));have WT:IntsAre aV ns:=by
  have gen:∀{ms:List Int} {us:List Value},Vals (ms.map V.int) us->IntsAre us ms:=by
   intro ms
   induction ms with
   |nil=>intro us hq;cases hq;exact .nil
   |cons m ms ih=>intro us hq;cases hq with|cons h1 h2=>obtain⟨t,rfl⟩:=(show∃t,_=Value.int m t from h1);exact .cons m t (ih h2)
  exact gen xn
 refine wO PySem.F.kind_max PySem.F.plain_max PySem.F.entry_max (DH _ _) ?_
 have nm:(toString "max"++toString ".loop":String)="max.loop":=by decide
 have Sz:=pl.isList;have dX:a<s2.heap.objs.size:=by obtain⟨_,e,_⟩:=Sz;exact aw e
 show wpAny _ X.A.in1 (Builtin.Builtins.bindParams "max" ["key","default"] 0 ⟨[],[(Str.ofString "default",.int d td)]⟩>>=_) _ _ s2;refine aa (wpAny_of_eq (show Builtin.Builtins.bindParams "max" ["key","default"] 0 ⟨[],[(Str.ofString "default",.int d td)]⟩=pure [none,some (.int d td)]from rfl) ?_);refine aa (af ?_);refine aa (ic Sz ?_);refine aa (eG ?_);rw[nm];have hI:∀o:Obj,(s2.heap.push o).objs.size=s2.heap.objs.size+1:=fun o=>fK ..;refine af ⟨dB j5 _,?_⟩;show codeAny _ _ (.builtin "max.loop" ⟨[.ref s2.heap.objs.size,.none,.ref (s2.heap.push {cls:=.type "list_iterator",data:=.fields #[.ref a,.int 0 0]}).objs.size],[(Str.ofString "default",.int d td)]⟩) _ {s2 with heap:=(s2.heap.push {cls:=.type "list_iterator",data:=.fields #[.ref a,.int 0 0]}).push {cls:=.type "list",data:=.seq #[]}};rw[hI];refine Bs (s:=s2) (h0:=s2.heap) (A:=X.A) (I2.ok.hd hc) (zy Sz) WT (jh (gz _)) (jh (ar _)) (Nat.succ_ne_self _) (fun h' tk v kp hv=>?_) _ 0 _ s2.toks none rfl (bG _) rfl (fun b o e=>aB _ (aB _ e)) ⟨_,aB _ (aT _ rfl),rfl,rfl⟩ ⟨0,by show Heap.get? _ (s2.heap.objs.size+1)=_;rw[<-hI];exact aT _ rfl⟩;have fin:∀m:Int,(∃t,v=Value.int m t)->m=(gO none ns).getD d->EP X pins σ Q v {s2 with heap:=h',toks:=tk}:=fun m Pz em=>by
  refine⟨.int m,H2,I2.kept kp,Pz,kq _ H2 (sm.trans Ug) ?_⟩;rw[<-em];exact .int m
 cases e:gO none ns with
 |none=>rw[e]at hv;exact fin d ⟨td,hv⟩ (by rw[e];rfl)
 |some m=>rw[e]at hv;exact fin m hv (by rw[e];rfl)
theorem JT(hm:X.mg "max"=none)(hl:QE X l F)(he:QE X e G)(hc:X.calm=true:=by rfl) (hg:Gl X "max":=by rfl) (cZ:ba [l]=true:=by rfl):
  QE X (.Call (.Name "max" p) [l] [⟨some "default",e,kp⟩] pos) (fun ρ=>(F ρ).bind fun a=>(G ρ).bind fun b=>wQ a b):=⟨JS hm hl.h he.h hc hg cZ⟩
end
end L2
namespace L2
open PySem PySem.Spec PyProof.Rows PySem.W
def DI(K:Frag)(D:Addr):Bool:=decide (findIn K (.ref D) "__getattribute__"=some (some (.builtin "BaseException.__getattribute__")))&&(decide (findIn K (.ref D) "__getattr__"=some none)&&(decide (findIn K (.ref D) "__class__"=some (some (.builtin "object.__class__")))&&(decide (mroIn K D (.type "object")=some true)&&decide (mroIn K D (.type "BaseException")=some true))))
theorem FN{K:Frag}{D:Addr}(h:DI K D=true):Ng K D:=by
 unfold DI at h;rw[aK,aK,aK,aK]at h;exact⟨bM h.1,bM h.2.1,bM h.2.2.1,bM h.2.2.2.1,bM h.2.2.2.2⟩
def Od(K:Frag)(u:Value)(tab:List (Str×Bool)):Bool:=tab.all fun p=>decide (kitOne K (.ref (clsAt K p.1)) u=some p.2)
def Oe(K:Frag)(xs:List Str):Bool:=xs.all fun x=>DI K (clsAt K x)&&(clsIn K (clsAt K x)).isSome
theorem nF{α:Type}{z:Str}:∀{l:List (Str×α)} {a:α},l.lookup z=some a->(z,a)∈l
 |[],_,h=>by cases h
 |(y,b)::l,a,h=>by
  rw[cL]at h;cases e:(z==y)with
  |true=>rw[e]at h;cases h;rw[eq_of_beq e];exact aM ..
  |false=>rw[e]at h;exact aW _ (nF h)
theorem JU{K:Frag}{u:Value}{tab:List (Str×Bool)}{xs:List Str}(h:Od K u tab=true)(q:Oe K xs=true)(e:tab.map (·.1)=xs):GI K u tab:=⟨fun x b hx=>by
 have m:=nF hx;have h1:=bM (bF.mp h _ m);have mx:x∈xs:=by rw[<-e];exact List.mem_map_of_mem m
 have h2:=bF.mp q x mx;rw[aK]at h2;exact⟨h1,FN h2.1,h2.2⟩⟩
def Of(K:Frag)(c:Str)(xs:List Str):Bool:=xs.all fun x=>decide (exmOne K (.ref (clsAt K x)) (.ref (clsAt K c))=some true)
theorem DJ{K:Frag}{mg:Str->Option Value}{c:Str}{xs:List Str}(m:mg c=some (.ref (clsAt K c)))(h:Of K c xs=true):zo K mg c xs:=⟨m,fun x hx=>bM (bF.mp h x hx)⟩
theorem K4{P:List Value->Prop}(h:P []):∀us:List Value,us.length=0->P us
 |[],_=>h
theorem SA{P:List Value->Prop}{n:Nat}(h:∀a us,us.length=n->P (a::us)):∀us:List Value,us.length=n+1->P us
 |a::us,e=>h a us (Nat.succ.inj e)
theorem K5{P:List Value->Prop}(h:∀a,P [a]):∀us:List Value,us.length=1->P us:=SA fun a=>K4 (P:=fun l=>P (a::l)) (h a)
theorem K6{P:List Value->Prop}(h:∀a b,P [a,b]):∀us:List Value,us.length=2->P us:=SA fun a=>K5 (P:=fun l=>P (a::l)) (h a)
theorem Og{P:List Value->Prop}(h:∀a b c,P [a,b,c]):∀us:List Value,us.length=3->P us:=SA fun a=>K6 (P:=fun l=>P (a::l)) (h a)
end L2
namespace L2
open PySem PySem.Spec PyProof.Rows PySem.W
section
variable {K:Frag}{c m f:Str}{C:Addr}
def FP(K:Frag)(C:Addr):Bool:=plainGet K C Str.empty&&(hasDictIn K C&&(plainOver K C&&decide (findIn K (.ref C) "__setattr__"=some (some (.builtin "object.__setattr__")))))
theorem DK(h:FP K C=true):Kv K C:=by
 unfold FP at h;rw[aK,aK,aK]at h;exact⟨h.1,h.2.1,h.2.2.1,bM h.2.2.2⟩
def SD(K:Frag)(C:Addr)(fs:List Str):Bool:=fs.all fun f=>decide (findIn K (.ref C) f=some none)
end
end L2
namespace L2
open PySem PySem.Spec PyProof.Rows PySem.W
structure Df where
 c:Option Str
 x:Str
 q:Str
 st:Stmt
 ps:List Str
def WU(K:Frag)(c m:Str):Addr:=match findIn K (.ref (clsAt K c)) m with
 |some (some (.ref a))=>a
 |_=>0
def Oh(K:Frag)(a:Addr):FuncData:=match K.lookup a with
 |some ⟨_,_,.func d,_⟩=>d
 |_=>default
def SE(K:Frag)(a:Addr):Bool:=match K.lookup a with
 |some ⟨_,_,.func _,_⟩=>true
 |_=>false
theorem JV{K:Frag}{a:Addr}(h:SE K a=true):∃oc od yO,K.lookup a=some ⟨oc,od,.func (Oh K a),yO⟩:=by
 unfold SE at h;unfold Oh;split at h
 ·rename_i e;rw[e];exact⟨_,_,_,rfl⟩
 ·cases h
namespace Df
def adr(K:Frag)(d:Df):Addr:=match d.c with
 |none=>clsAt K d.x
 |some c=>WU K c d.x
def fd(K:Frag)(d:Df):FuncData:=Oh K (d.adr K)
def re(d:Df)(f:FuncData):FuncData:=fnOf d.x d.q (oE d.st) (cP d.st) (aD d.st) .none f.kwdefaults f.doc f.pyModule f.annotations f.code f.closureTuple
def isAt(K:Frag)(d:Df):Bool:=match d.c with
 |none=>decide (nsIn K mainGlobals d.x=some (some (.ref (d.adr K))))
 |some c=>decide (findIn K (.ref (clsAt K c)) d.x=some (some (.ref (d.adr K))))&&(isFn K (.ref (d.adr K))&&FP K (clsAt K c))
def Hb(K:Frag)(d:Df):Bool:=SE K (d.adr K)&&(codeIn K (d.fd K).code d.q&&(keepIn K (.ref (d.adr K))&&d.isAt K))
structure Ok(K:Frag)(mg:Str->Option Value)(d:Df):Prop where
 fn:r9 K d.x d.q d.st (d.adr K) (d.fd K)
 m0:d.c=none->mg d.x=some (.ref (d.adr K))
 m1:∀c,d.c=some c->Meth K (clsAt K c) d.x (d.adr K)/\Kv K (clsAt K c)
theorem of{K:Frag}{mg:Str->Option Value}{d:Df}{h:Heap}(X:K.In h)(G:h.Ns mainGlobals mg)(e:d.fd K=d.re (d.fd K))(k:d.Hb K=true):d.Ok K mg:=by
 unfold Hb at k;rw[aK,aK,aK]at k;obtain⟨k1,k2,k3,k4⟩:=k;obtain⟨oc,od,yO,l⟩:=JV k1;refine⟨⟨⟨oc,od,_,_,_,_,_,_,yO,e,l,k2⟩,k3⟩,fun z=>?_,fun c z=>?_⟩<;>unfold isAt at k4<;>rw[z]at k4
 ·exact mg_of X G (bM k4)
 ·rw[aK,aK]at k4;exact⟨⟨bM k4.1,k4.2.1,k3⟩,DK k4.2.2⟩
end Df
theorem DL{K:Frag}{mg:Str->Option Value}{h:Heap}(X:K.In h)(G:h.Ns mainGlobals mg):∀{ds:List Df},ds.map (Df.fd K)=ds.map (fun d=>d.re (d.fd K))->ds.all (Df.Hb K)=true->∀d∈ds,d.Ok K mg
 |[],_,_,d,m=>nomatch m
 |a::ds,e,k,d,m=>by
  rw[fE,aK]at k;rw[aA,aA]at e;injection e with e1 e2
  rcases aP.mp m with rfl|m
  ·exact Df.of X G e1 k.1
  ·exact DL X G e2 k.2 d m
section
variable {P:Program}{w:World}{K:Frag}{mg:Str->Option Value}{base:Heap}{d:Df}{N:List Str}{k n:Nat}
structure tU(P:Program)(w:World)(K:Frag)(mg:Str->Option Value)(base:Heap)(CX:xA)(n:Nat)(d:Df)(sp:Sp):Prop where
 ok:fQ P w K mg base CX n (d.adr K) (d.fd K) d.ps sp
 bd:Binds K (d.fd K) d.ps []
 df:d.Ok K mg
abbrev Oi(d:Df):Prop:=∀(kV doc pm:Value) (an:Option Addr) (cO ct:Value) (us:List Value),us.length=d.ps.length->bindArgs (fnOf d.x d.q (oE d.st) (cP d.st) (aD d.st) .none kV doc pm an cO ct) ⟨us,[]⟩=pure (d.ps.zip us)
abbrev PD(CX:xA)(P:Program)(w:World)(K:Frag)(mg:Str->Option Value)(base:Heap)(N:List Str)(d:Df):=jb CX P w K mg base N d.q (aD d.st) (d.adr K)
abbrev zM(K:Frag)(d:Df)(k:Nat)(cO:Value)(A:Around)(s:Shared):Prop:=de k (A.deeper (envOfC d.q (aD d.st) s.heap.objs.size (d.adr K) cO))
theorem Oj(N:List Str){a b:Nat}{G:az->Ab->Rz Out}(D:d.Ok K mg)(hb:N.Nodup->∀cO A outer s H E,zM K d k cO A s->ZB (PD (oM P w) P w K mg base N d cO A outer s H E) (cP d.st) G)(S:dD N d.ps (aD d.st):=by exact⟨rfl,rfl,rfl,by decide+kernel,rfl,by decide+kernel,by decide+kernel⟩) (B:Oi d:=by exact fun _ _ _ _ _ _=>by first|exact K4 rfl|exact K5 fun _=>rfl|exact K6 fun _ _=>rfl|exact Og fun _ _ _=>rfl|exact PH fun _ _ _ _=>rfl|exact PJ fun _ _ _ _ _=>rfl) (ha:d.ps.length=a:=by rfl) (hn:N.length=b:=by rfl):
  tU P w K mg base (oM P w) (k+1) d (uG K (ni a b G)):=by
 subst ha;subst hn;exact⟨r9.Rw D.fn S (fun ts A e=>qO e) fun cO A outer s H E hr=>⟨G,hb S.nd cO A outer s H E hr,fun ts A e=>zm e⟩,D.fn.binds B,D⟩
theorem FQ(N:List Str){a b:Nat}{G:az->Rs Out}(D:d.Ok K mg)(hb:N.Nodup->∀cO A outer s H E,zM K d k cO A s->QB (PD kX P w K mg base N d cO A outer s H E).Bz (cP d.st) G)(S:dD N d.ps (aD d.st):=by exact⟨rfl,rfl,rfl,by decide+kernel,rfl,by decide+kernel,by decide+kernel⟩) (B:Oi d:=by exact fun _ _ _ _ _ _=>by first|exact K4 rfl|exact K5 fun _=>rfl|exact K6 fun _ _=>rfl|exact Og fun _ _ _=>rfl|exact PH fun _ _ _ _=>rfl|exact PJ fun _ _ _ _ _=>rfl) (ha:d.ps.length=a:=by rfl) (hn:N.length=b:=by rfl):
  tU P w K mg base kX (k+1) d (spT K (Cv a b G)):=by
 subst ha;subst hn;exact⟨r9.Vv D.fn S (fun ts t e=>Fd e) fun cO A outer s H E hr=>⟨G,hb S.nd cO A outer s H E hr,fun ts t e=>IJ e⟩,D.fn.binds B,D⟩
theorem JW(N:List Str){a b:Nat}{G:az->Ab->Rz Out}(D:d.Ok K mg)(hb:N.Nodup->∀cO A outer s H E,zM K d k cO A s->ZB (PD kX P w K mg base N d cO A outer s H E).Bz (cP d.st) G)(S:dD N d.ps (aD d.st):=by exact⟨rfl,rfl,rfl,by decide+kernel,rfl,by decide+kernel,by decide+kernel⟩) (B:Oi d:=by exact fun _ _ _ _ _ _=>by first|exact K4 rfl|exact K5 fun _=>rfl|exact K6 fun _ _=>rfl|exact Og fun _ _ _=>rfl|exact PH fun _ _ _ _=>rfl|exact PJ fun _ _ _ _ _=>rfl) (ha:d.ps.length=a:=by rfl) (hn:N.length=b:=by rfl):
  tU P w K mg base kX (k+1) d (spT K (sg a b G)):=by
 subst ha;subst hn;exact⟨r9.Rv D.fn S (fun ts t e=>CW e) fun cO A outer s H E hr=>⟨G,hb S.nd cO A outer s H E hr,fun ts t e=>Fq e⟩,D.fn.binds B,D⟩
theorem SF(D:d.Ok K mg)(B:Oi d:=by exact fun _ _ _ _ _ _=>by first|exact K4 rfl|exact K5 fun _=>rfl|exact K6 fun _ _=>rfl|exact Og fun _ _ _=>rfl|exact PH fun _ _ _ _=>rfl|exact PJ fun _ _ _ _ _=>rfl):tU P w K mg base kX k d (spT K fun _=>.bad):=
 ⟨⟨fun vs H Q E ⟨_,ts,_,_,t,e,_⟩=>(nomatch e),fun A outer s H args us vs Q E _ _ _ _ ⟨_,ts,_,_,t,e,_⟩=>(nomatch e)⟩,D.fn.binds B,D⟩
theorem tU.Rt {h:List Tr->Rs Tr}(C:tU P w K mg base kX n d (spT K h)):tU P w K mg base (oM P w) n d (uG K fun ts A=>aq (h ts) A):=⟨C.ok.Rt,C.bd,C.df⟩
theorem tU.da {CX:xA}{sp:Sp}{x:Str}(C:tU P w K mg base CX n d sp)(hc:d.c=none)(hx:d.x=x)(hq:d.q=x):sG K mg x d.st d.ps (d.adr K) (d.fd K):=
 ⟨by have f:=C.df.fn;rw[hx,hq]at f;exact f,C.bd,by have m:=C.df.m0 hc;rw[hx]at m;exact m⟩
structure SG(K:Frag)(mg:Str->Option Value)(c:Str):Prop where
 m:makesIn K (clsAt K c)=true
 k:keepIn K (.ref (clsAt K c))=true
 g:mg c=some (.ref (clsAt K c))
end
section
variable {X:Cx}{d:Df}{n k:Nat}{o e l:Expr}{es:List Expr}{p kp pos apos:Pos}{x c m:Str}
section
variable {F O:az->Rs Tr}{L:az->Rs (List Tr)}{h:List Tr->Rs Tr}(C:tU X.prog X.w X.K X.mg X.base kX n d (spT X.K h))
include C
theorem fm(hr:de k X.A)(ha:QA X (e::es) L)(hn:n<=k:=by first|decide|omega) (hc:d.c=none:=by rfl) (hx:d.x=x:=by rfl) (hq:d.q=x:=by rfl) (hg:Gl X x:=by rfl) (iT:(x==("__debug__":Str))=false:=by decide) (cZ:ba (e::es)=true:=by rfl):QE X (.Call (.Name x p) (e::es) [] pos) (fun ρ=>aI h (L ρ)):=
 Nm (C.da hc hx hq) (C.ok.mono hn) hr ha hg iT cZ
end
section
variable {F:az->Ab->Rz Tr}{L:az->Ab->Rz (List Tr)}{h:List Tr->Ab->Rz Tr}(C:tU X.prog X.w X.K X.mg X.base (oM X.prog X.w) n d (uG X.K h))
include C
theorem wR(hr:de k X.A)(ha:ZL X (e::es) L)(hn:n<=k:=by first|decide|omega) (hc:d.c=none:=by rfl) (hx:d.x=x:=by rfl) (hq:d.q=x:=by rfl) (he:X.ex=[]:=by rfl) (hg:Gl X x:=by rfl) (iT:(x==("__debug__":Str))=false:=by decide) (cZ:ba (e::es)=true:=by rfl):ZE X (.Call (.Name x p) (e::es) [] pos) (fun ρ A=>(L ρ A).bind h):=
 Nr (C.da hc hx hq) (C.ok.mono hn) hr ha he hg iT cZ
end
end
end L2
namespace L2
open PySem PySem.Spec PyProof.Rows PySem.W
theorem FR{k:Nat}{A:Around}(hr:de k A):A.units+4<cLine:=by have:=hr.un;omega
theorem WV{k:Nat}{A:Around}(hr:de k A):A.units+6<cLine:=by have:=hr.un;omega
structure TabAt(K:Frag)(x:Str)(c P:Addr):Prop where
 t:tabIn K x=some (c,P)
 h:Br K c P=true
theorem DM{K:Frag}{x:Str}{c P:Addr}(h:tabIn K x=some (c,P)):(Oh K (clsAt K x)).code=.ref c:=by
 unfold tabIn at h;unfold Oh clsAt;split at h
 ·rename_i f hf;rw[hf];split at h
  ·rename_i fd _ L0;show(match K.lookup f with|some ⟨_,_,.func d,_⟩=>d|_=>default).code=_;rw[L0];split at h
   ·rename_i c' hc;split at h
    ·split at h
     ·cases h;exact hc
     ·cases h
    ·cases h
   ·cases h
  ·cases h
 ·cases h
section
variable {P:Program}{w:World}{K:Frag}{mg:Str->Option Value}{base:Heap}{d:Df}{N:List Str}{k n:Nat}
theorem Ol(N:List Str){a b:Nat}{G:az->Ab->Rz Out}(D:d.Ok K mg)(hb:N.Nodup->∀cO A outer s H E,cO=(d.fd K).code->zM K d k cO A s->ZB (PD (oM P w) P w K mg base N d cO A outer s H E) (cP d.st) G)(S:dD N d.ps (aD d.st):=by exact⟨rfl,rfl,rfl,by decide+kernel,rfl,by decide+kernel,by decide+kernel⟩) (B:Oi d:=by exact fun _ _ _ _ _ _=>by first|exact K4 rfl|exact K5 fun _=>rfl|exact K6 fun _ _=>rfl|exact Og fun _ _ _=>rfl|exact PH fun _ _ _ _=>rfl|exact PJ fun _ _ _ _ _=>rfl) (ha:d.ps.length=a:=by rfl) (hn:N.length=b:=by rfl):
  tU P w K mg base (oM P w) (k+1) d (uG K (ni a b G)):=by
 subst ha;subst hn;refine⟨?_,D.fn.binds B,D⟩;obtain⟨oc,od,kV,doc,pm,an,cO,ct,yO,e9,lk,n6⟩:=D.fn.ex;have WW:cO=(d.fd K).code:=by rw[e9]
 rw[e9]at lk⊢;have nb:∀{B:bQ} {A:Ab} {H:Hp} {E:XK} {ts:List Tr} {k:Tr->Ab->Prop},dH (Ph K B H E) (ni d.ps.length N.length G ts A) k->ni d.ps.length N.length G ts A≠ .bad:=fun{B A H E ts k} q z=>by rw[z]at q;exact q
 refine BZ lk n6 S (fun vs H Q E ⟨B,A,ts,ha,r,q⟩=>by rw[r.length];exact qO (nb q)) fun A outer s H vs Q E hr ⟨B,A1,ts,ha,r,q⟩=>?_
 have hG:=(hb S.nd cO A outer s H E WW hr).h;refine⟨_,hG,B,H,B,A1,startT N.length ts,ha.hb,.refl,ha,bg.start r,kR,?_⟩;rw[zm (nb q)]at q;refine(dH.bind q).imp (fun c A2 z B' H' g d0 e s x=>v7 x (z B' H' g d0))|>.mono fun o A2 z=>?_
 cases o with
 |nx ρ=>exact fun bP B' H' g d0 r' n'=>z .cg B' H' g d0 .cg
 |ret t=>exact fun v B' H' g d0 r'=>z v B' H' g d0 r'
 |bk ρ=>exact(show False from z).elim
 |ct ρ=>exact(show False from z).elim
end
theorem FT{X:Cx}{d x N5 q:Str}{c P:Addr}{p pd p1 p2 p3 p4 p5 kp pos JN:Pos}{n1 k:Nat}{params:Arguments}{scope:Scope}(i:Nat)(hr:de (k+2) X.A)(T:TabAt X.K N5 c P)(tT:X.env.code=.ref c)(hm:X.mg "sorted"=none)(hN:X.N[i]?=some d:=by rfl) (JO:X.env.scope.names.lookup d=some .cell:=by rfl)
  (S:Dz scope d x:=by exact⟨rfl,rfl,rfl,rfl,rfl,by decide,by decide,by decide,by decide⟩) (KO:∀y∈scope.names,y.2=.free->y.1=d:=by decide) (hq:X.env.qual++"<lambda>"=q:=by rfl)
  (JP:defaultsOf params X.env=([],[]):=by rfl) (vG:∀(nm qual:Str) (oB:List (Str×Addr)) (pm:Value) (c':Addr) (yq v:Value),bindArgs (PySem.W.kla_fn nm qual params (Bq d x p1 p2 p3 p4 p5 n1) scope oB pm (.ref c') yq) ⟨[v],[]⟩=pure [(x,v)]:=by exact fun _ _ _ _ _ _ _=>rfl)
  (K3:X.env.globals=mainGlobals:=by rfl) (hc:X.calm=true:=by rfl) (hg:Gl X "sorted":=by rfl) (hk:X.env.kindOf d=some .cell:=by rfl):
  ZE X (.Call (.Name "sorted" p) [.Name d pd] [⟨some "key",.Lambda params (Bq d x p1 p2 p3 p4 p5 n1) scope JN,kp⟩] pos) (fun ρ A=>kU N5 q (ay ρ i) A):=
 ⟨FL (m9 hr) (by have:=hr.dp;omega) T.t T.h tT hm hN JO S KO hq JP vG K3 hc hg (fun env=>by have:=hr.un;show X.A.units+1+1+3+1<cLine;omega) hk⟩
end L2
namespace L2
open PySem PySem.Spec PySem.Calls PyProof.Rows
def DN(h:Heap):Value->List Int
 |.ref a=>match h.get? a with
  |some o=>match o.data with
   |.seq xs _=>match xs.toList with
    |[.int a _,.int b _]=>[a,b]
    |_=>[]
   |_=>[]
  |none=>[]
 |_=>[]
theorem JX{h:Heap}{v:Value}{a b:Int}(x:yp h v a b):DN h v=[a,b]:=by
 obtain⟨ad,o,t,u,n,rfl,h1,h2,h3⟩:=x;unfold DN;simp only[h1,h3]
def vg(ts:List Tr):Bool:=ts.all fun t=>(cF t).length==2
theorem Om{t:Tr}(h:((cF t).length==2)=true):∃a b,t=.tup [.int a,.int b]:=by
 unfold cF at h;unfold Bk at h;split at h
 ·exact⟨_,_,rfl⟩
 ·cases h
 ·cases h
def pE(x y:Tr):Bool:=decide (cF y=cF x)
theorem JY{x y:Tr}(hx:((cF x).length==2)=true)(hy:((cF y).length==2)=true):eqT y x=pE x y:=by
 obtain⟨a,b,rfl⟩:=Om hx;obtain⟨c,d,rfl⟩:=Om hy;show((c==a)&&((d==b)&&true))=decide ([c,d]=[a,b]);by_cases e1:c=a
 ·by_cases e2:d=b
  ·subst e1 e2;simp
  ·simp[e1,e2]
 ·simp[e1]
section
variable {X:Cx}{pins:List (Addr×Obj)}{σ:St}{H:Hp}{s:Shared}{B:bQ}
theorem DO(I:Inv X pins σ H s){v:V}{t:Tr}{u:Value}(r:Rep X.K (aN B H) v t)(h:((cF t).length==2)=true)(rv:RelV v u):DN s.heap u=cF t:=by
 obtain⟨a,b,rfl⟩:=Om h;exact JX (uQ I r rv)
theorem yu(I:Inv X pins σ H s){x:Tr}:∀{vs:List V} {ts:List Tr} {us:List Value},aJ X.K (aN B H) vs ts->vg ts=true->Vals vs us->us.map (fun u=>decide (DN s.heap u=cF x))=ts.map (pE x)
 |[],_,_,r,_,rv=>by cases r;cases rv;rfl
 |_::_,_,_,r,f,rv=>by
  cases r with
  |cons h r=>
   cases rv with
   |cons h1 rv=>
    unfold vg at f;rw[fE,aK]at f;rw[aA,aA,DO I h f.1 h1,yu I r f.2 rv]
    rfl
theorem DP(I:Inv X pins σ H s){A:Around}(hu:A.units+1<cLine){x:V}{t:Tr}{v:Value}(rx:Rep X.K (aN B H) x t)(p:((cF t).length==2)=true)(rv:RelV x v):∀{vs:List V} {ts:List Tr} {us:List Value},aJ X.K (aN B H) vs ts->vg ts=true->Vals vs us->∀u∈us,SeqAt.EqAt A s u v (decide (DN s.heap u=cF t))
 |[],_,_,r,_,q=>fun u m=>by cases q;cases m
 |_::_,_,_,r,f,q=>fun u m=>by
  cases r with
  |cons h r=>
   cases q with
   |cons h1 q=>
    unfold vg at f;rw[fE,aK]at f;rcases aP.mp m with rfl|m
    ·rw[DO I h f.1 h1];have e:=JY p f.1;obtain⟨a,b,rfl⟩:=Om f.1;obtain⟨c,d,rfl⟩:=Om p;show SeqAt.EqAt A s u v (pE _ _);rw[<-e];exact Ct I 1 (by show 0+1<=1;decide) rfl rfl h.up rx.up h1 rv hu
    ·exact DP I hu rx p rv r f.2 q u m
end
def Oo:Tr->Tr->Rs Tr
 |x,.tup ts=>if vg [x]=true/\vg ts=true then .ok (.bl (ts.any (pE x)))else .bad
 |_,_=>.bad
def wU(ts:List Tr)(x:Tr):Rs Tr:=if vg [x]=true/\vg ts=true then(match ts.findIdx? (pE x)with|some j=>.ok (.int j)|none=>.bad)else .bad
theorem Oq{x:Tr}(h:vg [x]=true):((cF x).length==2)=true:=by
 unfold vg at h;rw[fE,aK]at h;exact h.1
section
variable {X:Cx}{o e:Expr}{F G:az->Rs Tr}{apos dg:Pos}
theorem Ot(hu:X.A.units+4<cLine):xm X (compareOp .In) Oo:=by
 intro pins s σ H x y v u Q I rx ry ⟨B,tx,ty,hb,r1,r2,q⟩;unfold Oo at q;split at q
 ·obtain⟨f,q⟩:=fi q;obtain⟨a,vs,rfl,h,rr⟩:=r2.cQ;cases(show u=Value.ref a from ry);obtain⟨aV,rv,pl,_⟩:=I.tuple h.up;refine SeqAt.in_tupleAt (fun u=>decide (DN s.heap u=cF tx)) pl (fun w hw=>DP I (by show X.A.units+1+1<cLine;omega) r1 (Oq f.1) rx rr f.2 rv w (by simpa using hw)) ⟨.bl _,H,I,rfl,?_⟩;have e:aV.any (fun u=>decide (DN s.heap u=cF tx))=(aV.map fun u=>decide (DN s.heap u=cF tx)).any id:=by rw[List.any_map];rfl
  rw[show aV.toArray.any (fun u=>decide (DN s.heap u=cF tx))=aV.any (fun u=>decide (DN s.heap u=cF tx)) by simp,e,yu I rr f.2 rv,List.any_map];exact q _ H (au.refl H) (.bl _)
 ·exact(show False from q).elim
def DQ(r a:Rs Tr):Rs Tr:=r.bind fun t=>match t with
 |.tup ts=>a.bind fun x=>wU ts x
 |_=>.bad
theorem DR{α β:Type}{f:α->Bool}{g:β->Bool}{us:List α}{ts:List β}{j:Nat}(e:us.map f=ts.map g)(h:ts.findIdx? g=some j):∃hj:j<us.length,f us[j]=true/\∀m (hm:m<us.length),m<j->f us[m]=false:=by
 obtain⟨hj,h1,h2⟩:=vl.mp h;have hl:us.length=ts.length:=by have q:=bB List.length e;rw[ai,ai]at q;exact q
 have at_:∀(i:Nat) (h1:i<us.length) (h2:i<ts.length),f us[i]=g ts[i]:=fun i h1 h2=>by
  have q:=bB (fun l:List Bool=>l[i]?) e;simp only[aU,aF h1,aF h2]at q;exact Option.some.inj q
 refine⟨by rw[hl];exact hj,by rw[at_ j _ hj];exact h1,fun m hm SH=>?_⟩;rw[at_ m hm (by rw[<-hl];exact hm)];have q:=h2 m SH;cases z:g ts[m]with
 |false=>rfl
 |true=>exact absurd z q
theorem DT(hu:X.A.units+4<cLine)(ho:QE X o F)(he:QE X e G)(ql:isCall o=false:=by rfl) (cZ:ba [e]=true:=by rfl) (qm:(apos.endLine==dg.line)=true:=by rfl):QE X (.Call (.Attribute o "index" apos) [e] [] dg) (fun ρ=>DQ (F ρ) (G ρ)):=by
 refine⟨fun pins s σ H Q I ⟨B,ρ,hb,r,q⟩=>?_⟩;have hO:=ho.h pins s σ H (fun v H1=>∃t,Fi X H (match t with
  |.tup ts=>(G ρ).bind fun x=>wU ts x
  |_=>Rs.bad) (fun t=>∀v H',au H H'->Rep X.K (aN B H') v t->Q v H')/\au H H1/\Rep X.K (aN B H1) v t) I ⟨B,ρ,hb,r,(Fi.bind q).mono fun t qt v H1 s1 r1=>⟨t,qt,s1,r1⟩⟩
 refine wpAny_Call_method_late (uq ql) (by rw[md cZ];rfl) qm rfl (du hO fun v s1 ⟨x,H1,I1,WX,t,qt,sm,r1⟩=>?_);split at qt
 ·rename_i ts;obtain⟨a,vs,rfl,hq,rr⟩:=r1.iV;cases(show v=Value.ref a from WX);have Uh:H1 a=some (.tup vs):=aE _ _ hq;obtain⟨hz,aV,rv,⟨ob,g1,g2,n,g3,g4⟩⟩:=I1.bN a _ Uh;refine⟨"tuple","tuple.index",PySem.F.plainAttrs_tuple,PySem.F.slot_tuple_index,PySem.F.type_tuple_index,⟨ob,g1,g2⟩,fun a ea=>by cases ea;exact⟨ob,g1,g4⟩,?_⟩;have hA:=(Cm he.h Gn (aG cZ).1) dg pins s1 σ H1 (fun ws H3=>∃y ty,ws=[y]/\au H1 H3/\Rep X.K (aN B H3) y ty/\Fi X H (wU ts ty) fun t=>∀v H',au H H'->Rep X.K (aN B H') v t->Q v H') I1 ⟨B,ρ,hb.same sm,r.same sm,(Rn (B:=B) sm (Fi.bind qt)).mono fun zs ⟨x,ez,qx⟩ ws H3 s3 r3=>by
   subst ez;obtain⟨y,rfl,ry⟩:=f_ r3;exact⟨y,x,rfl,s3,ry,qx⟩⟩
  rw[aX _ _ (aG cZ).1]at hA⊢;refine pz (by show(false||(backTo dg (starEach [] X.env)).any (·.1))=false;rw[cb (es:=[]) rfl];rfl) (pI ?_);refine du hA fun us s4 ⟨ws,H4,I4,r4,y,ty,ew,SI,ry,qf⟩=>?_
  subst ew;obtain⟨u,rfl,ru⟩:=vals1 r4;have WY:H4 a=some (.tup vs):=SI _ _ Uh;have Ui:aJ X.K (aN B H4) vs ts:=rr.same (aZ SI);obtain⟨Ou,Uj,pl,XB⟩:=I4.tuple (.inl (.inl WY));unfold wU at qf;obtain⟨f,qf⟩:(vg [ty]=true/\vg ts=true)/\Fi X H (match ts.findIdx? (pE ty)with|some j=>Rs.ok (Tr.int j)|none=>.bad) fun t=>∀v H',au H H'->Rep X.K (aN B H') v t->Q v H':=by
   by_cases z:vg [ty]=true/\vg ts=true
   ·rw[ab z]at qf;exact⟨z,qf⟩
   ·rw[ae z]at qf;exact(show False from qf).elim
  cases e:ts.findIdx? (pE ty)with
  |none=>rw[e]at qf;exact(show False from qf).elim
  |some j=>
   rw[e]at qf;obtain⟨hj,k1,k2⟩:=DR (yu I4 (x:=ty) Ui f.2 Uj) e;obtain⟨⟨cls,dd,data,sl⟩,Uk,Ul,n4,Um⟩:=(show s4.heap.IsTuple a Ou.toArray from pl);simp only at Ul Um;subst Ul Um;refine gD PySem.F.slot_tuple_index ⟨_,Uk,rfl⟩ PySem.F.entry_tuple_index (PySem.F.args_tuple_index_2 _ _) (SeqAt.sf a Ou.toArray n4 dd sl u (fun u=>decide (DN s4.heap u=cF ty)) j (by simpa using hj) (by simpa using k1) fun m hm SH=>by simpa using k2 m (by simpa using hm) SH) ⟨Uk,fun y hy=>DP I4 (A:=X.A.in1) (by show X.A.units+1+1<cLine;omega) ry (Oq f.1) ru Ui f.2 Uj y (by simpa using hy),?_⟩;exact⟨.int j,H4,I4.tok _,⟨_,rfl⟩,qf _ H4 (sm.trans SI) (.int _)⟩
 ·exact(show False from qt).elim
end
end L2
namespace L2
open PySem PySem.Spec PyProof.Rows PySem.W
structure K7 where
 bl:List Str
 own:List Str
 Uo:List Str
 fl:List (Str×List Str)
 kd:List Df
 er:List Str
 xs:List (Str⊕String)
 cs:List Str
 rs:List Str
namespace K7
def val(K:Frag):Str⊕String->Value
 |.inl c=>.ref (clsAt K c)
 |.inr c=>.type c
def tab(er:List Str):Str⊕String->List (Str×Bool)
 |.inl c=>er.map fun x=>(x,x==c)
 |.inr _=>er.map fun x=>(x,true)
def Hb(K:Frag)(o:K7):Bool:=o.bl.all (fun x=>decide (nsIn K mainGlobals x=some none))&&(o.own.all (fun c=>decide (nsIn K mainGlobals c=some (some (.ref (clsAt K c)))))&&(o.Uo.all (fun c=>makesIn K (clsAt K c)&&(keepIn K (.ref (clsAt K c))&&decide (nsIn K mainGlobals c=some (some (.ref (clsAt K c))))))&&
 (o.fl.all (fun p=>FP K (clsAt K p.1)&&SD K (clsAt K p.1) p.2)&&(o.kd.all (fun d=>decide (specialIn K (.ref (d.adr K)) "__get__"=some (some (.builtin "function.__get__")))&&decide (takesIn K (.ref (d.adr K))=some false))&&
 (Oe K o.er&&(o.xs.all (fun c=>Od K (val K c) (tab o.er c))&&(o.cs.all (fun c=>Of K c o.er)&&o.rs.all (fun c=>excIn K (clsAt K c) Tq "ValueError.__new__"))))))))
structure Ok(o:K7)(K:Frag)(mg:Str->Option Value):Prop where
 bl:∀{x},o.bl.contains x=true->mg x=none
 PK:∀{c},o.own.contains c=true->mg c=some (.ref (clsAt K c))
 XC:∀{c},o.Uo.contains c=true->SG K mg c
 fl:∀{c f fs},o.fl.lookup c=some fs->fs.contains f=true->Nd K [c] f
 bn:∀(i:Nat) {d:Df},o.kd[i]?=some d->Nh K (d.adr K)
 xc:∀(i:Nat) {c},o.xs[i]?=some c->GI K (val K c) (tab o.er c)
 ca:∀{c},o.cs.contains c=true->o.own.contains c=true->zo K mg c o.er
 er:∀{c},o.rs.contains c=true->o.own.contains c=true->Nc K mg c
theorem ok{o:K7}{K:Frag}{mg:Str->Option Value}{h:Heap}(X:K.In h)(G:h.Ns mainGlobals mg)(k:o.Hb K=true):o.Ok K mg:=by
 unfold Hb at k;simp only[aK,bF,cK]at k;obtain⟨k1,k2,k3,k4,k5,k6,k7,k8,k9⟩:=k;have PK:∀{c},o.own.contains c=true->mg c=some (.ref (clsAt K c)):=fun m=>mg_of X G (k2 _ (j7.mp m));refine⟨fun m=>mg_none_of X G (k1 _ (j7.mp m)),PK,fun m=>?_,fun{c f fs} l m=>?_,fun i d e=>?_,fun i c e=>?_,fun m n=>DJ (PK n) (k8 _ (j7.mp m)),fun m n=>⟨PK n,k9 _ (j7.mp m)⟩⟩
 ·have q:=k3 _ (j7.mp m);exact⟨q.1,q.2.1,mg_of X G q.2.2⟩
 ·have q:=k4 _ (nF l);refine⟨fun x hx=>?_⟩;cases cn.mp hx;exact⟨DK q.1,(bM (bF.mp q.2 f (j7.mp m)):findIn K (.ref (clsAt K c)) f=some none)⟩
 ·have q:=k5 _ (bJ e);exact⟨q.1,q.2⟩
 ·refine JU (k7 _ (bJ e)) k6 ?_
  cases c<;>simp[tab,Function.comp_def]
end K7
end L2
namespace mJ
open PySem L2
def top(i:Nat):Stmt:=PySem.Challenge.pw_talkhall_k32_whole_one_order.main.body.getD i (.Pass ⟨0,0,0,0⟩)
def eX:Df:=⟨none,"followers_of","followers_of",top 1,["known"]⟩
def eY:Df:=⟨none,"heights_of","heights_of",top 2,["letters"]⟩
def rf:Df:=⟨none,"height","height",top 3,["letters","mark"]⟩
def uT:Df:=⟨none,"order","order",top 4,["letters"]⟩
def rg:Df:=⟨none,"_law_cell","_law_cell",top 6,["_law_script","_law_k"]⟩
def uU:Df:=⟨none,"_law_mix","_law_mix",top 7,["_law_cell_here","_law_prime","_law_many"]⟩
def mK:Df:=⟨none,"_law_same","_law_same",top 8,["_law_found","_law_due"]⟩
def g6:Df:=⟨none,"_law_letters","_law_letters",top 9,["_law_cell_here","_law_many"]⟩
def nG:Df:=⟨none,"_law_mixed","_law_mixed",top 10,["_law_some","_law_cell_here"]⟩
def yv:Df:=⟨none,"_law_height","_law_height",top 11,["_law_letters_here","_law_mark"]⟩
def kC:Df:=⟨none,"law","law",top 12,["_law_script"]⟩
def DS:List Df:=[eX,eY,rf,uT,rg,uU,mK,g6,nG,yv,kC]
structure Hc(K:PySem.W.Frag)(w:World)(mg:Str->Option Value)(tc tP:Addr):Prop where
 d:∀(i:Nat) {e:Df},DS[i]?=some e->e.Ok K mg
 all:mg "all"=none
 bool:mg "bool"=none
 dict:mg "dict"=none
 int:mg "int"=none
 isinstance:mg "isinstance"=none
 len:mg "len"=none
 list:mg "list"=none
 max:mg "max"=none
 range:mg "range"=none
 set:mg "set"=none
 sorted:mg "sorted"=none
 str:mg "str"=none
 tuple:mg "tuple"=none
 zip:mg "zip"=none
 tab:TabAt K "order" tc tP
abbrev CS(n:Nat)(d:Df)(a b:Nat):={F:az->Ab->Rz Out//∀{P:Program} {w:World} {K:PySem.W.Frag} {mg:Str->Option Value} {base:Heap} {tc tP:Addr},Hc K w mg tc tP->tU P w K mg base (oM P w) n d (uG K (ni a b F))}
abbrev CP(n:Nat)(d:Df)(a b:Nat):={F:az->Rs Out//∀{P:Program} {w:World} {K:PySem.W.Frag} {mg:Str->Option Value} {base:Heap} {tc tP:Addr},Hc K w mg tc tP->tU P w K mg base kX n d (spT K (Cv a b F))}
abbrev CZ(n:Nat)(d:Df)(a b:Nat):={F:az->Ab->Rz Out//∀{P:Program} {w:World} {K:PySem.W.Frag} {mg:Str->Option Value} {base:Heap} {tc tP:Addr},Hc K w mg tc tP->tU P w K mg base kX n d (spT K (sg a b F))}
abbrev CR(n:Nat)(d:Df)(a b:Nat)(r:List Tr->Rs Tr):={F:az->Rs Out//∀{P:Program} {w:World} {K:PySem.W.Frag} {mg:Str->Option Value} {base:Heap} {k:Nat} {tc tP:Addr},Hc K w mg tc tP->n<=k->tU P w K mg base kX k d (spT K r)->tU P w K mg base kX (k+1) d (spT K (Cv a b F))}
abbrev KS(n:Nat)(d:Df)(m:List Tr->Ab->Rz Tr):Prop:=∀{P:Program} {w:World} {K:PySem.W.Frag} {mg:Str->Option Value} {base:Heap} {tc tP:Addr},Hc K w mg tc tP->tU P w K mg base (oM P w) n d (uG K m)
abbrev KP(n:Nat)(d:Df)(m:List Tr->Rs Tr):Prop:=∀{P:Program} {w:World} {K:PySem.W.Frag} {mg:Str->Option Value} {base:Heap} {tc tP:Addr},Hc K w mg tc tP->tU P w K mg base kX n d (spT K m)
def eZ:CS 1 eX 1 4:=⟨_,fun T=>Oj ["known","followers","mark","other"] (T.d 0 rfl) fun nd _ _ _ _ _ _ hr=>(bo (dJ (i:=1) (Bi (qV (FR hr) rfl) T.dict (FE (N':=["mark"]) (ix:=[none]) (fR.of (N:=["known","followers","mark","other"]) (sc:=aD eX.st) rfl rfl (by decide+kernel)) (zx (aj 0)) (fun s H ex=>NB.of (by show List.Nodup (["mark"]:List Str);decide+kernel)))) nd) (bo (Js (zx (aj 0)) (dW 2 nd) (dU 2) (c0 (wo (mz (s_ (f9 hr) (aj 0) (aj 2))) (dW 3 nd) (dU 3) (c0 (wm (ke (fU (GO (f9 hr)) (aj 3) (aj 0))) (c0 (nv (qR iN j4 fo nh (Fv (a_ (s_ (f9 hr) (aj 1) (aj 3)))) (c_ (a_ (aj 2)) fy)))) nV))))) (c0 (jU (a_ (aj 1))))))⟩
def e8:=ni 1 4 eZ.1
theorem rh:KS 1 eX e8:=eZ.2
def gg:CZ 2 eY 1 10:=⟨_,fun T=>JW ["letters","known","followers","waits","heights","level","height_now","freed","mark","follower"] (T.d 1 rfl) fun nd _ _ _ _ _ _ hr=>(bo (dJ (i:=1) (a_ (Vu (qS (qV (FR hr) rfl) T.dict (ak (aj 0) aR)))) nd) (bo (dJ (i:=2) (wR (rh T) hr (c_ (a_ (aj 1)) fy)) nd) (bo (dJ (i:=3) (qQ (qS (qV (FR hr) rfl) T.dict (ak (Nq (N':=["mark","known"]) (ix:=[none,some 1]) (fR.of (N:=["letters","known","followers","waits","heights","level","height_now","freed","mark","follower"]) (sc:=aD eY.st) rfl rfl (by first|decide+kernel|exact rfl|kernel_rfl)) (zx (aj 1)) ⟨fun s H ex=>⟨(dW 0 (by show List.Nodup (["mark","known"]:List Str);decide+kernel)),zq,(mr (ak (aj 0) (ak (cu kP T.len (ak (yf (N':=["other","known"]) (ix:=[none,some 1]) (fR.of (N:=["mark","known"]) (sc:=_) rfl rfl (by first|decide+kernel|exact rfl|kernel_rfl)) (mz (s_ (f9 hr) (aj 1) (aj 0))) ⟨fun s H ex=>⟨(dW 0 (by show List.Nodup (["other","known"]:List Str);decide+kernel)),(sY (fU (GO (f9 hr)) (aj 0) (aj 1))),(aj 0)⟩⟩ (dU 0)) aR)) aR)))⟩⟩ (dU 0)) aR))) nd) (bo (dJ (i:=4) (qQ Jk) nd) (bo (C9 (i:=5) (N':=["mark","waits"]) (ix:=[none,some 3]) (fR.of (N:=["letters","known","followers","waits","heights","level","height_now","freed","mark","follower"]) (sc:=aD eY.st) rfl rfl (by first|decide+kernel|exact rfl|kernel_rfl)) (zx (aj 1)) ⟨fun s H ex=>⟨(dW 0 (by show List.Nodup (["mark","waits"]:List Str);decide+kernel)),(sY (fU (xQ (m9 hr)) (s_ (f9 hr) (aj 1) (aj 0)) bD)),(aj 0)⟩⟩ (dU 0) nd) (bo (dJ (i:=6) (a_ bD) nd) (bo (zr 100 (uK (fU MB (cu kP T.len (ak (aj 5) aR)) bD)) (bo (dJ (i:=7) (qQ (zt aR)) nd) (bo (zA 100 (a_ (aj 5)) (dW 8 nd) (dU 8) (bo (Fx (f9 hr) (Fv (a_ (aj 4))) (a_ (aj 8)) (a_ (aj 6))) (c0 (zA 100 (a_ (s_ (f9 hr) (aj 2) (aj 8))) (dW 9 nd) (dU 9) (bo (Fy (f9 hr) (Fv (a_ (aj 3))) (a_ (aj 9)) (a_ bD)) (c0 (wm (uK (fU (xQ (m9 hr)) (s_ (f9 hr) (aj 3) (aj 9)) bD)) (c0 (nv (qR iN j4 fo nh (Fv (a_ (aj 7))) (c_ (a_ (aj 9)) fy)))) nV))))))) (bo (dJ (i:=5) (a_ (aj 7)) nd) (c0 (Jo 6 (a_ bD))))))) (c0 (jU (a_ (aj 4)))))))))))⟩
def e_:=sg 1 10 gg.1
theorem mL:KP 2 eY e_:=gg.2
def wV:CP 3 rf 2 2:=⟨_,fun T=>FQ ["letters","mark"] (T.d 2 rfl) fun nd _ _ _ _ _ _ hr=>(mw (my (Jq (f9 hr) (fm (mL T) hr (ak (aj 0) aR)) (aj 1))))⟩
def gP:=Cv 2 2 wV.1
theorem wW:KP 3 rf gP:=wV.2
def uV:CS 6 uT 1 2:=⟨_,fun T=>Ol ["letters","heights"] (T.d 3 rfl) fun nd _ _ _ _ _ _ n6 hr=>(bo (dJ (i:=1) (a_ (fm (mL T) hr (ak (aj 0) aR))) nd) (c0 (jU (C8 fG T.tuple (c_ (FT (q:="order.<locals>.<lambda>") 1 hr T.tab (n6.trans (DM T.tab.t)) T.sorted) fy)))))⟩
def fI:=ni 1 2 uV.1
theorem uW:KS 6 uT fI:=uV.2
def wX:CP 1 rg 2 2:=⟨_,fun T=>FQ ["_law_script","_law_k"] (T.d 4 rfl) fun nd _ _ _ _ _ _ hr=>(nr (C4 (fU Rf (aj 1) (cu kP T.len (ak (aj 0) aR))) (mw (my (C7 (f9 hr) (aj 0) (aj 1)))) wk) (mw (my bD)))⟩
def dM:=Cv 2 2 wX.1
theorem ri:KP 1 rg dM:=wX.2
def zN:CP 1 uU 3 4:=⟨_,fun T=>FQ ["_law_cell_here","_law_prime","_law_many","_law_blend"] (T.d 5 rfl) fun nd _ _ _ _ _ _ hr=>(nr (Nn (i:=3) (dI Cs (dI vQ (aj 0) bD) (aj 1)) nd) (mw (my (dI Cs (dI Cs (dI vQ (aj 3) (dI iH (aj 3) bD)) (aj 1)) (aj 2)))))⟩
def br:=Cv 3 4 zN.1
theorem g7:KP 1 uU br:=zN.2
def wY(r:List Tr->Rs Tr):CR 0 mK 2 2 r:=⟨_,fun T hk G=>FQ ["_law_found","_law_due"] (T.d 6 rfl) fun _ _ _ _ _ _ _ hr=>(nr (C4 (sX (cu sL T.isinstance (ak (aj 1) (ak (wj T.tuple) aR)))) (nr (C4 (ye (Nl (Nj (sX (cu sL T.isinstance (ak (aj 0) (ak (wj T.tuple) aR))))) (GL (fU (Cu (m9 hr)) (cu kP T.len (ak (aj 0) aR)) (cu kP T.len (ak (aj 1) aR)))))) (mw (my yd)) wk) (mw (my (cu (MG rfl) T.all (ak (yf (N':=["_law_one","_law_other"]) (ix:=[none,none]) (fR.of (N:=["_law_found","_law_due"]) (sc:=aD mK.st) rfl rfl (by decide+kernel)) (Np T.zip (ak (aj 0) (ak (aj 1) aR))) ⟨fun s H ex=>⟨(C6 (is:=[0,1]) (nu (i:=0) (nu (i:=1) C5 (by show List.Nodup (["_law_one","_law_other"]:List Str);decide+kernel)) (by show List.Nodup (["_law_one","_law_other"]:List Str);decide+kernel))),zq,(fm G hr (ak (aj 0) (ak (aj 1) aR)))⟩⟩ (xM [0,1])) aR))))) wk) (nr (C4 (fU MC (aj 1) GK) (mw (my (C2 MC (aj 0) GK))) wk) (nr (C4 (ye (Nl (sX (cu sL T.isinstance (ak (aj 1) (ak (wj T.bool) aR)))) (GL (sX (cu sL T.isinstance (ak (aj 0) (ak (wj T.bool) aR))))))) (mw (my (C3 (cu sL T.isinstance (ak (aj 1) (ak (wj T.bool) aR))) (C3 (cu sL T.isinstance (ak (aj 0) (ak (wj T.bool) aR))) (GN (C2 (xQ (m9 hr)) (aj 0) (aj 1))))))) wk) (mw (my (C3 (cu IT T.isinstance (ak (aj 0) (ak (mr (ak (wj T.int) (ak (wj T.str) aR))) aR))) (GN (C2 (xQ (m9 hr)) (aj 0) (aj 1)))))))))⟩
def dt:Nat->List Tr->Rs Tr
 |0=>fun _=>.bad
 |n+1=>Cv 2 2 (wY (dt n)).1
theorem tV{P:Program}{w:World}{K:PySem.W.Frag}{mg:Str->Option Value}{base:Heap}{tc tP:Addr}(T:Hc K w mg tc tP):∀n:Nat,tU P w K mg base kX (0+n) mK (spT K (dt n))
 |0=>SF (T.d 6 rfl)
 |n+1=>(wY _).2 T (jm ..) (tV T n)
def j1:CZ 2 g6 2 8:=⟨_,fun T=>JW ["_law_cell_here","_law_many","_law_marks","_law_found","_law_k","_law_seed","_law_mark","_law_behind"] (T.d 7 rfl) fun nd _ _ _ _ _ _ hr=>(bo (dJ (i:=2) (qQ (zt aR)) nd) (bo (dJ (i:=3) (qQ (zt aR)) nd) (bo (wo (qP T.range (ak (fm (g7 T) hr (ak (aj 0) (ak bD (ak (dI iH (aj 1) bD) aR)))) aR)) (dW 4 nd) (dU 4) (bo (dJ (i:=5) (a_ (dI iH (aj 0) (dI vQ bD (aj 4)))) nd) (bo (dJ (i:=6) (a_ (mr (ak (fm (g7 T) hr (ak (aj 5) (ak bD (ak bD aR)))) (ak (aj 4) aR)))) nd) (bo (Fw (i:=7) (N':=["_law_one","_law_seed"]) (ix:=[none,some 5]) (fR.of (N:=["_law_cell_here","_law_many","_law_marks","_law_found","_law_k","_law_seed","_law_mark","_law_behind"]) (sc:=aD g6.st) rfl rfl (by first|decide+kernel|exact rfl|kernel_rfl)) (mz (aj 2)) ⟨fun s H ex=>⟨(dW 0 (by show List.Nodup (["_law_one","_law_seed"]:List Str);decide+kernel)),(sY (fU (xQ (m9 hr)) (fm (g7 T) hr (ak (dI iH (aj 1) (dI vQ bD (C7 (f9 hr) (aj 0) bD))) (ak bD (ak bD aR)))) bD)),(aj 0)⟩⟩ (dU 0) nd) (bo (wm (ke (fU (xQ (m9 hr)) (fm (g7 T) hr (ak (aj 5) (ak bD (ak bD aR)))) bD)) (c0 (nv (qR iN j4 fo nh (Fv (a_ (aj 7))) (c_ (a_ (mr (ak (fm (g7 T) hr (ak (aj 5) (ak bD (ak bD aR)))) (ak (dI iH bD (fm (g7 T) hr (ak (aj 5) (ak bD (ak bD aR))))) aR)))) fy)))) nV) (bo (nv (qR iN j4 fo nh (Fv (a_ (aj 2))) (c_ (a_ (aj 6)) fy))) (c0 (nv (qR iN j4 fo nh (Fv (a_ (aj 3))) (c_ (yg (mr (ak (aj 6) (ak (eU fG T.tuple (ak (FK (WV hr) T.sorted T.set (aj 7)) aR)) aR)))) fy)))))))))) (c0 (jU (a_ (aj 3)))))))⟩
def fX:=sg 2 8 j1.1
theorem wZ:KP 2 g6 fX:=j1.2
def nH:CZ 2 nG 2 4:=⟨_,fun T=>JW ["_law_some","_law_cell_here","_law_left","_law_found"] (T.d 8 rfl) fun nd _ _ _ _ _ _ hr=>(bo (dJ (i:=2) (qQ (qS Ft T.list (ak (aj 0) aR))) nd) (bo (dJ (i:=3) (qQ (zt aR)) nd) (bo (zr 100 (uK (sX (aj 2))) (c0 (nv (qR iN j4 fo nh (Fv (a_ (aj 3))) (c_ (qR PySem.F.slot_list_pop PySem.F.type_list_pop Ca Jd (Fv (a_ (aj 2))) (c_ (yg (fm (g7 T) hr (ak (dI iH (aj 1) (dI vQ bD (cu kP T.len (ak (aj 2) aR)))) (ak bD (ak (cu kP T.len (ak (aj 2) aR)) aR))))) fy)) fy))))) (c0 (jU (yg (eU fG T.tuple (ak (aj 3) aR))))))))⟩
def gm:=sg 2 4 nH.1
theorem Bt:KP 2 nG gm:=nH.2
def zO:CS 14 kC 1 11:=⟨_,fun T=>Oj ["_law_script","_law_k","_law_letters_here","_law_told","_law_turn","_law_mark","_law_behind","_law_some","_law_new","_law_longer","_law_most"] (T.d 10 rfl) fun nd _ _ _ _ _ _ hr=>(bo (wo (qP T.range (ak bD aR)) (dW 1 nd) (dU 1) (bo (dJ (i:=2) (a_ (fm (wZ T) hr (ak (dI iH (fm (ri T) hr (ak (aj 0) (ak (aj 1) aR))) (aj 1)) (ak bD aR)))) nd) (bo (dJ (i:=3) (wR (uW T) hr (c_ (a_ (eU fG T.tuple (ak (aj 2) aR))) fy)) nd) (bo (wm (ke (fU (Cu (m9 hr)) (cu (nC (FR hr)) T.sorted (ak (aj 3) aR)) (cu (nC (FR hr)) T.sorted (ak (yf (N':=["_law_mark","_law_behind"]) (ix:=[none,none]) (fR.of (N:=["_law_script","_law_k","_law_letters_here","_law_told","_law_turn","_law_mark","_law_behind","_law_some","_law_new","_law_longer","_law_most"]) (sc:=aD kC.st) rfl rfl (by first|decide+kernel|exact rfl|kernel_rfl)) (mz (aj 2)) ⟨fun s H ex=>⟨(C6 (is:=[0,1]) (nu (i:=0) (nu (i:=1) C5 (by show List.Nodup (["_law_mark","_law_behind"]:List Str);decide+kernel)) (by show List.Nodup (["_law_mark","_law_behind"]:List Str);decide+kernel))),zq,(aj 0)⟩⟩ (xM [0,1])) aR)))) (c0 (jU (a_ yd))) nV) (bo (wo (qP T.range (ak bD aR)) (dW 4 nd) (dU 4) (c0 (wm (Jm (Jl (wR (tV T 5).Rt hr (c_ (wR (uW T) hr (c_ (a_ (fm (Bt T) hr (ak (aj 2) (ak (dI iH (fm (ri T) hr (ak (aj 0) (ak (dI iH bD (aj 4)) aR))) (aj 1)) aR)))) fy)) (c_ (a_ (aj 3)) fy))))) (c0 (jU (a_ yd))) nV))) (bo (wo (mz (aj 2)) (C6 (is:=[5,6]) (nu (i:=5) (nu (i:=6) C5 nd) nd)) (xM [5,6]) (c0 (wm (ke (sX (yf (N':=["_law_one","_law_mark","_law_told"]) (ix:=[none,some 5,some 3]) (fR.of (N:=["_law_script","_law_k","_law_letters_here","_law_told","_law_turn","_law_mark","_law_behind","_law_some","_law_new","_law_longer","_law_most"]) (sc:=aD kC.st) rfl rfl (by first|decide+kernel|exact rfl|kernel_rfl)) (mz (aj 6)) ⟨fun s H ex=>⟨(dW 0 (by show List.Nodup (["_law_one","_law_mark","_law_told"]:List Str);decide+kernel)),(sY (ye (Nk (fU (Ot (FR hr)) (aj 0) (aj 2)) (Jj (fU MB (DT (FR hr) (aj 2) (aj 0)) (DT (FR hr) (aj 2) (aj 1))))))),(aj 0)⟩⟩ (dU 0)))) (c0 (jU (a_ yd))) nV))) (bo (dJ (i:=7) (a_ (eU fG T.tuple (ak (yf (N':=["_law_mark","_law_script"]) (ix:=[none,some 0]) (fR.of (N:=["_law_script","_law_k","_law_letters_here","_law_told","_law_turn","_law_mark","_law_behind","_law_some","_law_new","_law_longer","_law_most"]) (sc:=aD kC.st) rfl rfl (by first|decide+kernel|exact rfl|kernel_rfl)) (mz (aj 3)) ⟨fun s H ex=>⟨(dW 0 (by show List.Nodup (["_law_mark","_law_script"]:List Str);decide+kernel)),(sY (fU (xQ (m9 hr)) (fm (g7 T) hr (ak (dI iH (fm (ri T) hr (ak (aj 1) (ak bD aR))) (C7 (f9 hr) (aj 0) bD)) (ak bD (ak bD aR)))) bD)),(aj 0)⟩⟩ (dU 0)) aR))) nd) (bo (dJ (i:=8) (a_ (mr (ak (mr (ak (aj 1) (ak bD aR))) (ak (eU fG T.tuple (ak (cu (nC (FR hr)) T.sorted (ak (aj 7) aR)) aR)) aR)))) nd) (bo (dJ (i:=9) (wR (uW T) hr (c_ (a_ (dI iH (eU fG T.tuple (ak (aj 2) aR)) (mr (ak (aj 8) aR)))) fy)) nd) (bo (wm (ke (fU (Cu (m9 hr)) (eU fG T.tuple (ak (yf (N':=["_law_mark","_law_new"]) (ix:=[none,some 8]) (fR.of (N:=["_law_script","_law_k","_law_letters_here","_law_told","_law_turn","_law_mark","_law_behind","_law_some","_law_new","_law_longer","_law_most"]) (sc:=aD kC.st) rfl rfl (by first|decide+kernel|exact rfl|kernel_rfl)) (mz (aj 9)) ⟨fun s H ex=>⟨(dW 0 (by show List.Nodup (["_law_mark","_law_new"]:List Str);decide+kernel)),(sY (fU (Cu (m9 hr)) (aj 0) (C7 (f9 hr) (aj 1) bD))),(aj 0)⟩⟩ (dU 0)) aR)) (aj 3))) (c0 (jU (a_ yd))) nV) (bo (dJ (i:=10) (a_ (JT T.max (yf (N':=["_law_mark","_law_letters_here"]) (ix:=[none,some 2]) (fR.of (N:=["_law_script","_law_k","_law_letters_here","_law_told","_law_turn","_law_mark","_law_behind","_law_some","_law_new","_law_longer","_law_most"]) (sc:=aD kC.st) rfl rfl (by first|decide+kernel|exact rfl|kernel_rfl)) (mz (aj 7)) ⟨fun s H ex=>⟨(dW 0 (by show List.Nodup (["_law_mark","_law_letters_here"]:List Str);decide+kernel)),zq,(fm (wW T) hr (ak (eU fG T.tuple (ak (aj 1) aR)) (ak (aj 0) aR)))⟩⟩ (dU 0)) bD)) nd) (c0 (wm (ke (fU (Cu (m9 hr)) (fm (wW T) hr (ak (dI iH (eU fG T.tuple (ak (aj 2) aR)) (mr (ak (aj 8) aR))) (ak (C7 (f9 hr) (aj 8) bD) aR))) (dI iH bD (aj 10)))) (c0 (jU (a_ yd))) nV))))))))))))) (c0 (jU (a_ yd))))⟩
def tW:=ni 1 11 zO.1
theorem Ov:KS 14 kC tW:=zO.2
end mJ
namespace mJ
open PySem L2
abbrev Mk:=Int×Int
def tM(m:Mk):Tr:=.tup [.int m.1,.int m.2]
def kM(m:Mk):List Key:=[.inl m.1,.inl m.2]
theorem yw{a b:Mk}:kM a=kM b↔a=b:=by
 constructor
 ·intro e;unfold kM at e;injection e with e1 e2
  injection e2 with e2 _
  injection e1 with e1
  injection e2 with e2
  exact jz e1 e2
 ·intro e;rw[e]
theorem FU(m:Mk):mB (tM m)=some (kM m):=rfl
def fD(ks:List Mk)(g:Mk->Tr):List (List Key×Tr):=ks.map fun m=>(kM m,g m)
theorem mM(g:Mk->Tr)(m:Mk):∀ks:List Mk,hU (fD ks g) (kM m)=if m∈ks then some (g m)else none
 |[]=>rfl
 |k::ks=>by
  unfold hU fD;rw[aA,dz];by_cases e:k=m
  ·subst e;simp
  ·have h:decide (kM k=kM m)=false:=aY fun h=>e (yw.mp h);simp only[h];have:=mM g m ks;unfold hU fD at this;rw[this];have e':¬m=k:=fun h=>e h.symm;simp[e']
theorem DU(ks:List Mk)(g:Mk->Tr):Dg (fD ks g)=.ok (ks.map tM):=by
 unfold Dg;rw[ab]
 ·unfold fD;rw[bq];rfl
 ·rw[bF];intro p hp;obtain⟨m,_,rfl⟩:=aQ.mp hp
  rfl
theorem oR(ks:List Mk)(g:Mk->Tr):ox (.ok (.bf (fD ks g)))=.ok (ks.map tM):=DU ks g
theorem zQ(g:Mk->Tr):∀ks:List Mk,mC (ks.map fun m=>.tup [tM m,g m])=some (fD ks g)
 |[]=>rfl
 |k::ks=>by
  rw[aA,mC,FU,zQ g ks]
  rfl
theorem DV(ks:List Mk)(g:Mk->Tr)(m:Mk):((fD ks g).any fun kv=>decide (kv.1=kM m))=decide (m∈ks):=by
 induction ks with
 |nil=>rfl
 |cons k ks ih=>
  unfold fD at ih⊢;rw[aA,gw,ih];by_cases e:k=m
  ·subst e;simp
  ·have h:decide (kM k=kM m)=false:=aY fun h=>e (yw.mp h);have e':¬m=k:=fun h=>e h.symm;simp only[h,lT];simp[e']
theorem w4{ks:List Mk}{g:Mk->Tr}{m:Mk}{t:Tr}(h:m∉ks)(e:g m=t):jW (fD ks g) (kM m) t=fD (ks++[m]) g:=by
 unfold jW;rw[DV,aY h,ae (by decide)];unfold fD;rw[cY,aA,List.map_nil,e]
theorem DW{ks:List Mk}{g:Mk->Tr}{m:Mk}{t:Tr}(h:m∈ks):jW (fD ks g) (kM m) t=fD ks (fun x=>if x=m then t else g x):=by
 unfold jW;rw[DV,bA h,ab rfl];unfold fD;rw[bq];refine eD fun x _=>?_
 show(if kM x=kM m then(kM x,t)else(kM x,g x))=(kM x,if x=m then t else g x);by_cases e:x=m
 ·subst e;rw[ab rfl,ab rfl]
 ·rw[ae (fun h=>e (yw.mp h)),ae e]
theorem w6(g:Mk->Tr):∀(ks pre:List Mk),(pre++ks).Nodup->jX (fD pre g) (fD ks g)=fD (pre++ks) g
 |[],pre,_=>by rw[dw];rfl
 |k::ks,pre,h=>by
  show jX (jW (fD pre g) (kM k) (g k)) (fD ks g)=_;have e:pre++k::ks=(pre++[k])++ks:=by simp
  have hk:k∉pre:=by
   intro m;rw[h_]at h;exact h.2.2 k m k (aM ..) rfl
  rw[w4 hk rfl,w6 g ks (pre++[k]) (by rw[<-e];exact h),e]
theorem rj{ks:List Mk}(g:Mk->Tr)(h:ks.Nodup)(hl:ks.length<=100):eV [.lst (ks.map fun m=>.tup [tM m,g m])]=.ok (.bf (fD ks g)):=by
 show(match mC (ks.map fun m=>Tr.tup [tM m,g m])with
  |some aC=>if aC.length<=100000 then Rs.ok (Tr.bf (jX [] aC))else .bad
  |none=>.bad)=_
 rw[zQ];show(if(fD ks g).length<=100000 then Rs.ok (Tr.bf (jX [] (fD ks g)))else .bad)=_;rw[ab (by unfold fD;rw[ai];omega)];have:=w6 g ks [] h;rw[lM]at this;exact bB (fun x=>Rs.ok (Tr.bf x)) this
theorem DX{ks:List Mk}(g:Mk->Tr)(h:ks.Nodup)(hl:ks.length<=100):eV [.tup (ks.map fun m=>.tup [tM m,g m])]=.ok (.bf (fD ks g)):=rj g h hl
theorem nJ{ks:List Mk}{g:Mk->Tr}{m:Mk}(h:m∈ks):vf (.bf (fD ks g)) (tM m)=.ok (g m):=by
 show Aw (hU (fD ks g) (kM m))=_;rw[mM,ab h];rfl
theorem yx(ks:List Mk)(g:Mk->Tr)(m:Mk):Ee (tM m) (.bf (fD ks g))=.ok (.bl (decide (m∈ks))):=by
 show Rs.ok (Tr.bl (hU (fD ks g) (kM m)).isSome)=_;rw[mM];by_cases e:m∈ks
 ·rw[ab e,bA e];rfl
 ·rw[ae e,aY e];rfl
theorem rm{T:kL}{G:az->Ab->Rz Out}{t:Tr}{ts:List Tr}{ρ ρ1 ρ2:az}{A A2:Ab}(e1:T t ρ=.ok ρ1)(e2:G ρ1 A=.ok (.nx ρ2) A2):iY T G (t::ts) ρ A=iY T G ts ρ2 A2:=by
 rw[iY,e1];show(G ρ1 A).bind _=_;rw[e2];rfl
theorem Up{i j m:Nat}{G:az->Ab->Rz Out}{us:List Tr}{t:Tr}{ρ ρ2:az}{A A2:Ab}(h:A[j]?=some (.lst us))(ht:us[i]?=some t){x:Nat}(e2:G (ρ.set x (.sh t)) A=.ok (.nx ρ2) A2):fW (gN x) G j (m+1) i ρ A=fW (gN x) G j m (i+1) ρ2 A2:=by
 rw[fW,h];show(match us[i]? with
   |none=>Rz.ok (Out.nx ρ) A
   |some t=>_)=_
 rw[ht];show(G (ρ.set x (.sh t)) A).bind _=_;rw[e2];rfl
theorem Uq{i j m:Nat}{G:az->Ab->Rz Out}{us:List Tr}{ρ:az}{A:Ab}(h:A[j]?=some (.lst us))(ht:us[i]?=none){x:Nat}:fW (gN x) G j (m+1) i ρ A=.ok (.nx ρ) A:=by
 rw[fW,h];show(match us[i]? with
   |none=>Rz.ok (Out.nx ρ) A
   |some t=>_)=_
 rw[ht]
theorem FV{a b:Mk}{ks:List Mk}(ha:a∈ks)(hb:b∈ks)(e:ks.idxOf a=ks.idxOf b):a=b:=by
 have h1:=List.getElem_idxOf (lb ha);have h2:=List.getElem_idxOf (lb hb);rw[<-h1,<-h2];congr 1
theorem zR:∀(ks:List Mk) (n:Nat),ks.Nodup->Jy n (ks.map tM)=ks.map fun m=>.tup [tM m,.at (n+ks.idxOf m)]
 |[],_,_=>rfl
 |k::ks,n,h=>by
  rw[dy]at h;rw[aA,Jy,zR ks (n+1) h.2,aA,List.idxOf_cons_self];refine bB _ (eD fun x hx=>?_);have e:¬k=x:=fun e=>h.1 (e▸hx);have e2:(k::ks).idxOf x=ks.idxOf x+1:=by
   rw[List.idxOf_cons,dP e];rfl
  rw[e2,show n+1+ks.idxOf x=n+(ks.idxOf x+1) by omega]
theorem i0:∀ks:List Mk,f6 (ks.map tM)=true
 |[]=>rfl
 |k::ks=>by rw[aA,f6,i0 ks];rfl
end mJ
namespace mJ
open PySem L2
def bI:az->Ab->Rz Out:=fun ρ A=>AU (aq (gk (cq Ee (ay ρ 3) (ay ρ 0))) A) (fun A=>fj (v_ fw (aq (cq vf (ay ρ 1) (ay ρ 3)) A) fun A=>bX (aq (ay ρ 2) A) fun A=>Rz.ok [] A) ρ) fun A=>Rz.ok (Out.nx ρ) A
def bO:az->Ab->Rz Out:=fun ρ A=>i8 (gN 3) bI (aq (iD (cq vf (ay ρ 0) (ay ρ 2))) A) ρ
def gF:az->Ab->Rz Out:=fun ρ A=>bw (cy 1 (nA eV (qZ (ox (ay ρ 0)) A)) ρ) fun ρ A=>bw (NG (i8 (gN 2) bO (aq (ox (ay ρ 0)) A) ρ)) fun ρ A=>kQ (aq (ay ρ 1) A)
theorem Ow:eZ.1=gF:=rfl
def tB(bh:Mk->List Mk)(m:Mk):Tr:=.tup ((bh m).map tM)
def tI(ks:List Mk)(m:Mk):Tr:=.at (ks.idxOf m)
def AF(ks:List Mk)(F:Mk->List Mk)(A:Ab):Prop:=A.length=ks.length/\∀m∈ks,A[ks.idxOf m]?=some (.lst ((F m).map tM))
theorem AF.congr {ks:List Mk}{F G:Mk->List Mk}{A:Ab}(h:AF ks F A)(e:∀m∈ks,F m=G m):AF ks G A:=⟨h.1,fun m hm=>by rw[<-e m hm];exact h.2 m hm⟩
theorem Ox{ks:List Mk}{bh:Mk->List Mk}{F:Mk->List Mk}{A:Ab}{m b:Mk}(h:AF ks F A)(hb:b∈ks)(hl:(F b).length<=1000):
  bI [.sh (.bf (fD ks (tB bh))),.sh (.bf (fD ks (tI ks))),.sh (tM m),.sh (tM b)] A=.ok (.nx [.sh (.bf (fD ks (tB bh))),.sh (.bf (fD ks (tI ks))),.sh (tM m),.sh (tM b)]) (A.set (ks.idxOf b) (.lst ((F b++[m]).map tM))):=by
 show AU (aq (gk (Ee (tM b) (.bf (fD ks (tB bh))))) A) (fun A=>fj (v_ fw (aq (vf (.bf (fD ks (tI ks))) (tM b)) A) fun A=>bX (aq (Rs.ok (tM m)) A) fun A=>Rz.ok [] A) _) _=_;rw[yx,bA hb,nJ hb];show fj (if AX A (ks.idxOf b)=true then fw (ks.idxOf b) [tM m] A else .bad) _=_;have e:=h.2 b hb;have e1:AX A (ks.idxOf b)=true:=by unfold AX;rw[e]
 have e2:fw (ks.idxOf b) [tM m] A=.ok .cg (A.set (ks.idxOf b) (.lst ((F b++[m]).map tM))):=by
  unfold fw;simp only[e];rw[ab (by rw[ai];unfold i3;omega),cY]
  rfl
 rw[ab e1,e2]
 rfl
theorem JZ{ks:List Mk}{bh:Mk->List Mk}{A:Ab}{m b:Mk}{FO:Tr}(hb:b∉ks):
  bI [.sh (.bf (fD ks (tB bh))),.sh FO,.sh (tM m),.sh (tM b)] A=.ok (.nx [.sh (.bf (fD ks (tB bh))),.sh FO,.sh (tM m),.sh (tM b)]) A:=by
 show AU (aq (gk (Ee (tM b) (.bf (fD ks (tB bh))))) A) _ (fun A=>_)=_;rw[yx,aY hb]
 rfl
theorem AF.put {ks:List Mk}{F:Mk->List Mk}{A:Ab}{b:Mk}(h:AF ks F A)(hb:b∈ks)(l:List Mk):AF ks (fun x=>if x=b then l else F x) (A.set (ks.idxOf b) (.lst (l.map tM))):=by
 refine⟨by rw[gs];exact h.1,fun m hm=>?_⟩;by_cases e:m=b
 ·subst e;have:ks.idxOf m<A.length:=by rw[h.1];exact lb hm
  rw[ef this];simp
 ·have:ks.idxOf b≠ks.idxOf m:=fun q=>e (FV hb hm q).symm;rw[cw this,h.2 m hm];simp[e]
theorem inner{ks:List Mk}{bh:Mk->List Mk}(m:Mk):∀(bs:List Mk) (F:Mk->List Mk) (A:Ab) (c:Cell),bs.Nodup->AF ks F A->(∀b∈bs,(F b).length<=1000)->
  ∃A' c',iY (gN 3) bI (bs.map tM) [.sh (.bf (fD ks (tB bh))),.sh (.bf (fD ks (tI ks))),.sh (tM m),c] A=.ok (.nx [.sh (.bf (fD ks (tB bh))),.sh (.bf (fD ks (tI ks))),.sh (tM m),c']) A'/\AF ks (fun b=>if b∈bs then F b++[m]else F b) A'
 |[],F,A,c,_,h,_=>⟨A,c,rfl,h.congr fun _ _=>by simp⟩
 |b::bs,F,A,c,nd,h,hl=>by
  rw[dy]at nd;by_cases hb:b∈ks
  ·have h1:=h.put hb (F b++[m]);obtain⟨A',c',e,h2⟩:=inner (bh:=bh) m bs _ _ (.sh (tM b)) nd.2 h1 fun x hx=>by
    have:¬x=b:=fun e=>nd.1 (e▸hx);simp only[this,bC];exact hl x (aW _ hx)
   refine⟨A',c',?_,h2.congr fun x hx=>?_⟩
   ·rw[aA,rm (ρ1:=[.sh (.bf (fD ks (tB bh))),.sh (.bf (fD ks (tI ks))),.sh (tM m),.sh (tM b)]) rfl (Ox h hb (hl b (aM ..)))];exact e
   ·by_cases e:x=b
    ·subst e;simp[nd.1]
    ·simp[e]
  ·obtain⟨A',c',e,h2⟩:=inner (bh:=bh) m bs F A (.sh (tM b)) nd.2 h fun x hx=>hl x (aW _ hx);refine⟨A',c',?_,h2.congr fun x hx=>?_⟩
   ·rw[aA,rm (ρ1:=[.sh (.bf (fD ks (tB bh))),.sh (.bf (fD ks (tI ks))),.sh (tM m),.sh (tM b)]) rfl (JZ hb)];exact e
   ·have:¬x=b:=fun e=>hb (e▸hx);simp[this]
def mN(bh:Mk->List Mk)(ks:List Mk)(b:Mk):List Mk:=ks.filter fun m=>decide (b∈bh m)
theorem outer{ks:List Mk}{bh:Mk->List Mk}:∀(rest pre:List Mk) (A:Ab) (c d:Cell),(∀m∈rest,m∈ks/\(bh m).Nodup)->pre.length+rest.length<=100->AF ks (mN bh pre) A->
  ∃A' c' d',iY (gN 2) bO (rest.map tM) [.sh (.bf (fD ks (tB bh))),.sh (.bf (fD ks (tI ks))),c,d] A=.ok (.nx [.sh (.bf (fD ks (tB bh))),.sh (.bf (fD ks (tI ks))),c',d']) A'/\AF ks (mN bh (pre++rest)) A'
 |[],pre,A,c,d,_,_,h=>⟨A,c,d,rfl,by rw[dw];exact h⟩
 |m::rest,pre,A,c,d,hm,hl,h=>by
  obtain⟨hk,nd⟩:=hm m (aM ..);rw[bp]at hl;obtain⟨A1,c1,e1,h1⟩:=inner (bh:=bh) m (bh m) _ _ d nd h fun b _=>by
   have:(mN bh pre b).length<=pre.length:=je _ _;omega
  have Jp:AF ks (mN bh (pre++[m])) A1:=h1.congr fun x _=>by
   unfold mN;rw[List.filter_append,gr,List.filter_nil];by_cases e:x∈bh m<;>simp[e]
  obtain⟨A2,c2,d2,e2,h2⟩:=outer rest (pre++[m]) A1 (.sh (tM m)) c1 (fun x hx=>hm x (aW _ hx)) (by rw[bj,bp,dO];omega) Jp;refine⟨A2,c2,d2,?_,by rw[gV]at h2;exact h2⟩;have eb:bO [.sh (.bf (fD ks (tB bh))),.sh (.bf (fD ks (tI ks))),.sh (tM m),d] A=.ok (.nx [.sh (.bf (fD ks (tB bh))),.sh (.bf (fD ks (tI ks))),.sh (tM m),c1]) A1:=by
   show i8 (gN 3) bI (aq (iD (vf (.bf (fD ks (tB bh))) (tM m))) A) _=_;rw[nJ hk];exact e1
  rw[aA,rm (ρ1:=[.sh (.bf (fD ks (tB bh))),.sh (.bf (fD ks (tI ks))),.sh (tM m),d]) rfl eb];exact e2
theorem w8{ks:List Mk}{bh:Mk->List Mk}(nd:ks.Nodup)(hl:ks.length<=100)(hb:∀m∈ks,(bh m).Nodup):
  ∃A,e8 [.bf (fD ks (tB bh))] []=.ok (.bf (fD ks (tI ks))) A/\AF ks (mN bh ks) A:=by
 have h0:AF ks (mN bh []) (List.replicate ks.length (.lst [])):=⟨lB,fun m hm=>by
  rw[ly,ab (lb hm)]
  rfl⟩
 obtain⟨A,c,d,e,h⟩:=outer (bh:=bh) ks [] _ .no .no (fun m hm=>⟨hm,hb m hm⟩) (by rw[dO];omega) h0;refine⟨A,?_,h⟩;show g0 (eZ.1 [.sh (.bf (fD ks (tB bh))),.no,.no,.no] [])=_;rw[Ow];have e1:nA eV (qZ (ox (.ok (.bf (fD ks (tB bh))))) [])=.ok (.bf (fD ks (tI ks))) (List.replicate ks.length (.lst [])):=by
  rw[oR];show nA eV (if f6 (ks.map tM)=true/\(ks.map tM).length<=i3 then Rz.ok (.lst (Jy 0 (ks.map tM))) ([]++List.replicate (ks.map tM).length (.lst []))else .bad)=_;rw[ab ⟨i0 ks,by rw[ai];unfold i3;omega⟩];show aq (eV [.lst (Jy 0 (ks.map tM))]) _=_;rw[zR ks 0 nd,rj (fun m=>.at (0+ks.idxOf m)) nd hl,ai];have:(fun m:Mk=>Tr.at (0+ks.idxOf m))=tI ks:=funext fun m=>by unfold tI;rw[ju]
  rw[this]
  rfl
 show g0 (bw (cy 1 (nA eV (qZ (ox (.ok (.bf (fD ks (tB bh))))) [])) [.sh (.bf (fD ks (tB bh))),.no,.no,.no]) _)=_;rw[e1];show g0 (bw (NG (i8 (gN 2) bO (aq (ox (.ok (.bf (fD ks (tB bh))))) _) _)) _)=_;rw[oR];show g0 (bw (NG (iY (gN 2) bO (ks.map tM) [.sh (.bf (fD ks (tB bh))),.sh (.bf (fD ks (tI ks))),.no,.no] _)) _)=_;rw[e]
 rfl
end mJ
namespace mJ
open PySem L2
def Bu(s:(Mk->Int)×List Mk)(f:Mk):(Mk->Int)×List Mk:=(fun x=>if x=f then s.1 f - 1 else s.1 x,if s.1 f - 1=0 then s.2++[f]else s.2)
def oQ(E:List Mk)(s:(Mk->Int)×List Mk):(Mk->Int)×List Mk:=E.foldl Bu s
theorem mO{f:Mk}{E:List Mk}{s:(Mk->Int)×List Mk}:oQ (f::E) s=oQ E (Bu s f):=rfl
theorem FW{E E':List Mk}{s:(Mk->Int)×List Mk}:oQ (E++E') s=oQ E' (oQ E s):=List.foldl_append
theorem zS(s:(Mk->Int)×List Mk)(f:Mk):(Bu s f).2.length<=s.2.length+1:=by
 unfold Bu;by_cases e:s.1 f - 1=0
 ·simp[e]
 ·simp[e]
theorem zT:∀(E:List Mk) (s:(Mk->Int)×List Mk),(oQ E s).2.length<=s.2.length+E.length
 |[],s=>by show s.2.length<=_;omega
 |f::E,s=>by
  rw[mO,bp];have:=zT E (Bu s f);have:=zS s f;omega
theorem w_:∀(E:List Mk) (w:Mk->Int) (fs:List Mk),(∀m∈E,(E.count m:Int)<=w m)->
  (∀m,(oQ E (w,fs)).1 m=w m - E.count m)/\∃X,(oQ E (w,fs)).2=fs++X/\X.Nodup/\∀m,m∈X↔m∈E/\(E.count m:Int)=w m
 |[],w,fs,_=>⟨fun m=>by show w m=_;simp,[],by show fs=_;simp,ij,fun m=>by simp⟩
 |f::E,w,fs,h=>by
  have hc:∀m,(f::E).count m=E.count m+if m=f then 1 else 0:=fun m=>by
   rw[List.count_cons];by_cases e:m=f
   ·subst e;simp
   ·have:¬f=m:=fun h=>e h.symm;simp[e,this]
  obtain⟨h1,X,h2,h3,h4⟩:=w_ E (fun x=>if x=f then w f - 1 else w x) (if w f - 1=0 then fs++[f]else fs) (fun m hm=>by
   have:=h m (aW _ hm);rw[hc]at this;by_cases e:m=f
   ·subst e;simp at this⊢;omega
   ·simp[e]at this⊢;exact this)
  refine⟨fun m=>?_,?_⟩
  ·rw[mO];unfold Bu;rw[h1 m,hc];by_cases e:m=f
   ·subst e;simp;omega
   ·simp[e]
  ·rw[mO];unfold Bu;show∃X,(oQ E (fun x=>if x=f then w f - 1 else w x,if w f - 1=0 then fs++[f]else fs)).2=fs++X/\_;have hf:=h f (aM ..);rw[hc,ab rfl]at hf;have Oy:f∈E↔0<E.count f:=(List.count_pos_iff).symm;by_cases e0:w f - 1=0
   ·rw[ab e0]at h2⊢;have hz:E.count f=0:=by omega
    have WZ:f∉E:=fun h=>by have:=Oy.mp h;omega
    refine⟨f::X,by rw[h2];simp,?_,fun m=>?_⟩
    ·rw[dy];exact⟨fun hx=>WZ ((h4 f).mp hx).1,h3⟩
    ·rw[aP,aP,h4 m,hc];by_cases e:m=f
     ·subst e;simp[hz];omega
     ·simp[e]
   ·rw[ae e0]at h2⊢;refine⟨X,h2,h3,fun m=>?_⟩;rw[h4 m,aP,hc];by_cases e:m=f
    ·subst e;simp only[fO,true_or,true_and];constructor
     ·intro⟨_,q⟩;omega
     ·intro q;refine⟨Oy.mpr ?_,by omega⟩;omega
    ·simp[e]
structure oS(ks:List Mk)(bh:Mk->List Mk)(H:Mk->Nat):Prop where
 nd:ks.Nodup
 len:ks.length<=20
 PL:∀m∈ks,(bh m).Nodup
 FX:∀m∈ks,(bh m).length<=20
 pos:∀m∈ks,1<=H m
 lt:∀m∈ks,∀b∈bh m,b∈ks->H b<H m
 ex:∀m∈ks,H m=1\/∃b∈bh m,b∈ks/\H m=H b+1
 top:∀m∈ks,H m<=50
section
variable {ks:List Mk}{bh:Mk->List Mk}{H:Mk->Nat}
def cnt(ks:List Mk)(bh:Mk->List Mk)(H:Mk->Nat)(h:Nat)(m:Mk):Nat:=((bh m).filter fun b=>decide (b∈ks)&&decide (h<=H b)).length
structure Lv(ks:List Mk)(bh:Mk->List Mk)(H:Mk->Nat)(h:Nat)(hs ls:List Mk)(w:Mk->Int):Prop where
 h1:1<=h
 nd:hs.Nodup
 mem:∀m,m∈hs↔m∈ks/\H m<h
 K8:ls.Nodup
 uX:∀m,m∈ls↔m∈ks/\H m=h
 w:∀m∈ks,w m=cnt ks bh H h m
theorem dG{α:Type}{p:α->Bool}{l:List α}(h:l.Nodup):(l.filter p).Nodup:=List.Nodup.sublist List.filter_sublist h
theorem Bv(K:oS ks bh H){m:Mk}(hm:m∈ks)(b:Mk):(mN bh ks b).count m=if b∈bh m then 1 else 0:=by
 unfold mN;rw[List.Nodup.count (dG K.nd)];simp[bR,hm]
theorem zU:∀(ls:List Mk) (p:Mk->Prop) [DecidablePred p],(ls.map fun b=>if p b then 1 else 0).sum=(ls.filter fun b=>decide (p b)).length
 |[],_,_=>rfl
 |b::ls,p,_=>by
  rw[aA,List.sum_cons,zU ls p,gr];by_cases e:p b
  ·simp[e];omega
  ·simp[e]
theorem DY(K:oS ks bh H){ls:List Mk}{h:Nat}(K8:ls.Nodup)(lm:∀m,m∈ls↔m∈ks/\H m=h){m:Mk}(hm:m∈ks):
  (ls.flatMap (mN bh ks)).count m=((bh m).filter fun b=>decide (b∈ks)&&decide (H b=h)).length:=by
 rw[List.count_flatMap];have e:(List.count m∘mN bh ks)=fun b=>if b∈bh m then 1 else 0:=funext fun b=>Bv K hm b
 rw[e,zU];refine List.Perm.length_eq ((oY (dG K8) (dG (K.PL m hm))).mpr fun b=>?_);rw[bR,bR,lm];simp only[cK,aK];constructor
 ·rintro ⟨⟨a,b⟩,c⟩;exact⟨c,a,b⟩
 ·rintro ⟨c,a,b⟩;exact⟨⟨a,b⟩,c⟩
theorem mP{α:Type}:∀(l:List α) (p q r:α->Bool),(∀x∈l,p x=(q x||r x))->(∀x∈l,(q x&&r x)=false)->(l.filter p).length=(l.filter q).length+(l.filter r).length
 |[],_,_,_,_,_=>rfl
 |x::l,p,q,r,h1,h2=>by
  have e1:=h1 x (aM ..);have e2:=h2 x (aM ..);have ih:=mP l p q r (fun y hy=>h1 y (aW _ hy)) (fun y hy=>h2 y (aW _ hy));rw[gr,gr,gr,e1];cases hq:q x<;>cases hr:r x<;>simp[hq,hr]at e2⊢<;>omega
theorem Bw(h:Nat)(m:Mk):cnt ks bh H h m=((bh m).filter fun b=>decide (b∈ks)&&decide (H b=h)).length+cnt ks bh H (h+1) m:=by
 unfold cnt;refine mP _ _ _ _ (fun b _=>?_) fun b _=>?_
 ·by_cases e:b∈ks
  ·simp only[e,decide_true,Bool.true_and];by_cases e1:h<=H b
   ·by_cases e2:H b=h
    ·simp[e2]
    ·have:h+1<=H b:=by omega
     simp[e1,e2,this]
   ·have a:¬H b=h:=by omega
    have b:¬h+1<=H b:=by omega
    simp[e1,a,b]
  ·simp[e]
 ·by_cases e2:H b=h
  ·have:¬h+1<=H b:=by omega
   simp[this]
  ·simp[e2]
theorem Lv.next (K:oS ks bh H){h:Nat}{hs ls:List Mk}{w:Mk->Int}(L:Lv ks bh H h hs ls w):Lv ks bh H (h+1) (hs++ls) (oQ (ls.flatMap (mN bh ks)) (w,[])).2 (oQ (ls.flatMap (mN bh ks)) (w,[])).1:=by
 have sub:∀m∈ls.flatMap (mN bh ks),m∈ks:=fun m hm=>by
  obtain⟨b,_,hb⟩:=pS.mp hm;exact(bR.mp hb).1
 have hc:∀m∈ks,((ls.flatMap (mN bh ks)).count m:Int)=w m - cnt ks bh H (h+1) m:=fun m hm=>by
  rw[DY K L.K8 L.uX hm,L.w m hm,Bw h m];omega
 obtain⟨h1,X,h2,h3,h4⟩:=w_ (ls.flatMap (mN bh ks)) w [] (fun m hm=>by rw[hc m (sub m hm)];omega);rw[lM]at h2;refine⟨by have:=L.h1;omega,?_,fun m=>?_,by rw[h2];exact h3,fun m=>?_,fun m hm=>?_⟩
 ·rw[h_];refine⟨L.nd,L.K8,fun a ha b hb e=>?_⟩;subst e;have:=((L.mem a).mp ha).2;have:=((L.uX a).mp hb).2;omega
 ·rw[eM,L.mem,L.uX];constructor
  ·rintro (⟨a,b⟩|⟨a,b⟩)
   ·exact⟨a,by omega⟩
   ·exact⟨a,by omega⟩
  ·rintro ⟨a,b⟩
   by_cases e:H m=h
   ·exact .inr ⟨a,e⟩
   ·exact .inl ⟨a,by omega⟩
 ·rw[h2,h4];constructor
  ·rintro ⟨hm,he⟩
   have hk:=sub m hm;refine⟨hk,?_⟩;rw[hc m hk]at he;have hz:cnt ks bh H (h+1) m=0:=by omega
   obtain⟨b,hb,hf⟩:=pS.mp hm;have jc:=(L.uX b).mp hb;have LU:b∈bh m:=bM (bR.mp hf).2;have g1:=K.lt m hk b LU jc.1;rcases K.ex m hk with e|⟨b2,k1,k2,k3⟩
   ·have:=K.pos b jc.1;omega
   ·by_cases q:h+1<=H b2
    ·exfalso;unfold cnt at hz;have:b2∈(bh m).filter fun b=>decide (b∈ks)&&decide (h+1<=H b):=bR.mpr ⟨k1,by simp[k2,q]⟩;rw[o8.mp hz]at this;cases this
    ·omega
  ·rintro ⟨hk,he⟩
   rcases K.ex m hk with e|⟨b,k1,k2,k3⟩
   ·have:=L.h1;omega
   ·refine⟨pS.mpr ⟨b,(L.uX b).mpr ⟨k2,by omega⟩,bR.mpr ⟨hk,bA k1⟩⟩,?_⟩;rw[hc m hk];have hz:cnt ks bh H (h+1) m=0:=by
     unfold cnt;rw[o8,pf];intro a ha;by_cases q:a∈ks
     ·have:=K.lt m hk a ha q;have:¬h+1<=H a:=by omega
      simp[this]
     ·simp[q]
    omega
 ·rw[h1 m,hc m hm];omega
theorem Lv.last (K:oS ks bh H){h:Nat}{hs:List Mk}{w:Mk->Int}(L:Lv ks bh H h hs [] w):∀m∈ks,H m<h:=by
 have key:∀(n:Nat) (m:Mk),m∈ks->H m=h+n->False:=fun n=>by
  induction n with
  |zero=>exact fun m hm e=>by have:=(L.uX m).mpr ⟨hm,e⟩;cases this
  |succ n ih=>
   intro m hm e;rcases K.ex m hm with q|⟨b,k1,k2,k3⟩
   ·have:=L.h1;omega
   ·exact ih b k2 (by omega)
 intro m hm;by_cases q:H m<h
 ·exact q
 ·exact(key (H m - h) m hm (by omega)).elim
theorem Lv.start (K:oS ks bh H)(w:Mk->Int)(hw:∀m∈ks,w m=((bh m).filter fun b=>decide (b∈ks)).length):Lv ks bh H 1 [] (ks.filter fun m=>w m==0) w:=by
 have hc:∀m∈ks,cnt ks bh H 1 m=((bh m).filter fun b=>decide (b∈ks)).length:=fun m hm=>by
  unfold cnt;congr 1;refine List.filter_congr fun b _=>?_
  by_cases e:b∈ks
  ·have:=K.pos b e;simp[e];omega
  ·simp[e]
 refine⟨ar _,ij,fun m=>?_,dG K.nd,fun m=>?_,fun m hm=>by rw[hw m hm,hc m hm]⟩
 ·constructor
  ·intro h;cases h
  ·rintro ⟨a,b⟩;have:=K.pos m a;omega
 ·rw[bR];refine and_congr_right fun hm=>?_
  rw[hw m hm,iu];constructor
  ·intro e;rcases K.ex m hm with q|⟨b,k1,k2,k3⟩
   ·exact q
   ·have:b∈(bh m).filter fun b=>decide (b∈ks):=bR.mpr ⟨k1,bA k2⟩;have z:((bh m).filter fun b=>decide (b∈ks)).length=0:=by omega
    rw[o8.mp z]at this;cases this
  ·intro e;have:(bh m).filter (fun b=>decide (b∈ks))=[]:=by
    rw[pf];intro b hb q;have q:=bM q;have:=K.lt m hm b hb q;have:=K.pos b q;omega
   rw[this];rfl
end
end mJ
namespace mJ
open PySem L2
def bE:az->Ab->Rz Out:=fun ρ A=>bw (Dc (fun A=>aq (ay ρ 3) A) (fun A=>aq (ay ρ 9) A) (fun A=>aq (Rs.ok (Tr.int 1)) A) ρ A) fun ρ A=>AU (aq (gk (cq rR (cq vf (ay (bb A ρ) 3) (ay (bb A ρ) 9)) (Rs.ok (Tr.int 0)))) A) (fun A=>fj (v_ fw (aq (ay ρ 7) A) fun A=>bX (aq (ay ρ 9) A) fun A=>Rz.ok [] A) ρ) fun A=>Rz.ok (Out.nx ρ) A
def bL:az->Ab->Rz Out:=fun ρ A=>bw (GP (aq (ay ρ 6) A) (fun A=>aq (ay ρ 4) A) (fun A=>aq (ay ρ 8) A) ρ) fun ρ A=>loopAt (gN 9) bE 100 (aq (cq vf (ay ρ 2) (ay ρ 8)) A) ρ
def bW:az->Ab->Rz Out:=fun ρ A=>bw (cy 7 (ff (xI (Rs.ok [])) A) ρ) fun ρ A=>bw (loopAt (gN 8) bL 100 (aq (ay ρ 5) A) ρ) fun ρ A=>bw (cy 5 (aq (ay ρ 7) A) ρ) fun ρ A=>Jn 6 (fun A=>aq (Rs.ok (Tr.int 1)) A) ρ A
def cW:az->Ab->Rz Bool:=fun ρ A=>aq (gk (cq KH (aI iK (ag (ay (bb A ρ) 5) (Rs.ok []))) (Rs.ok (Tr.int 0)))) A
def PM(A:Ab)(ρ:az):Rs Tr:=gX [none,some 1] (gN 0) (fun _=>Rs.ok true) (fun ρ=>iW (ag (ay ρ 0) (ag (aI iK (ag (gX [none,some 1] (gN 0) (fun ρ=>gk (cq Ee (ay ρ 0) (ay ρ 1))) (fun ρ=>ay ρ 0) (iD (cq vf (ay ρ 1) (ay ρ 0))) ρ) (Rs.ok []))) (Rs.ok [])))) (ox (ay (bb A ρ) 1)) (bb A ρ)
def PN(A:Ab)(ρ:az):Rs Tr:=gX [none,some 3] (gN 0) (fun ρ=>gk (cq rR (cq vf (ay ρ 1) (ay ρ 0)) (Rs.ok (Tr.int 0)))) (fun ρ=>ay ρ 0) (ox (ay (bb A ρ) 1)) (bb A ρ)
def gH:az->Ab->Rz Out:=fun ρ A=>bw (cy 1 (aq (aI eV (ag (ay ρ 0) (Rs.ok []))) A) ρ) fun ρ A=>bw (cy 2 ((bX (aq (ay ρ 1) A) fun A=>Rz.ok [] A).bind e8) ρ) fun ρ A=>bw (cy 3 (ff (aI eV (ag (PM A ρ) (Rs.ok []))) A) ρ) fun ρ A=>bw (cy 4 (ff (Rs.ok (Tr.bf [])) A) ρ) fun ρ A=>bw (cy 5 (ff (PN A ρ) A) ρ) fun ρ A=>bw (cy 6 (aq (Rs.ok (Tr.int 1)) A) ρ) fun ρ A=>bw (eS cW bW 100 ρ A) fun ρ A=>kQ (aq (ay ρ 4) A)
theorem Oz:gg.1=gH:=rfl
def tH(H:Mk->Nat)(m:Mk):Tr:=.int (H m)
structure Sy(ks:List Mk)(bh:Mk->List Mk)(H:Mk->Nat)(A:Ab)(w:Mk->Int)(hs:List Mk)(lv:Nat)(ls:List Mk):Prop where
 f:∀m∈ks,A[ks.idxOf m]?=some (.lst ((mN bh ks m).map tM))
 w:A[ks.length]?=some (.bf (fD ks fun m=>.int (w m)))
 h:A[ks.length+1]?=some (.bf (fD hs (tH H)))
 l:A[lv]?=some (.lst (ls.map tM))
 hl:ks.length+1<lv
structure Sx(ks:List Mk)(bh:Mk->List Mk)(H:Mk->Nat)(A:Ab)(w:Mk->Int)(hs:List Mk)(lv:Nat)(ls:List Mk)(fr:Nat)(fs:List Mk):Prop where
 y:Sy ks bh H A w hs lv ls
 r:A[fr]?=some (.lst (fs.map tM))
 hr:lv<fr
section
variable {ks:List Mk}{bh:Mk->List Mk}{H:Mk->Nat}{A:Ab}{w:Mk->Int}{hs ls fs:List Mk}{lv fr:Nat}
theorem cS{α:Type}{l:List α}{i:Nat}{x:α}(h:l[i]?=some x):i<l.length:=by
 by_cases q:i<l.length
 ·exact q
 ·rw[List.getElem?_eq_none (by omega)]at h;cases h
theorem rn{m:Mk}(h:m∈ks):ks.idxOf m<ks.length:=lb h
theorem Sx.SJ (S:Sx ks bh H A w hs lv ls fr fs)(w':Mk->Int):Sx ks bh H (A.set ks.length (.bf (fD ks fun m=>.int (w' m)))) w' hs lv ls fr fs:=by
 have:=S.hr;have:=S.y.hl;refine⟨⟨fun m hm=>?_,?_,?_,?_,S.y.hl⟩,?_,S.hr⟩
 ·rw[cw (by have:=rn hm;omega)];exact S.y.f m hm
 ·rw[ef (cS S.y.w)]
 ·rw[cw (by omega)];exact S.y.h
 ·rw[cw (by omega)];exact S.y.l
 ·rw[cw (by omega)];exact S.r
theorem Sx.SK (S:Sx ks bh H A w hs lv ls fr fs)(FY:List Mk):Sx ks bh H (A.set (ks.length+1) (.bf (fD FY (tH H)))) w FY lv ls fr fs:=by
 have:=S.hr;have:=S.y.hl;refine⟨⟨fun m hm=>?_,?_,?_,?_,S.y.hl⟩,?_,S.hr⟩
 ·rw[cw (by have:=rn hm;omega)];exact S.y.f m hm
 ·rw[cw (by omega)];exact S.y.w
 ·rw[ef (cS S.y.h)]
 ·rw[cw (by omega)];exact S.y.l
 ·rw[cw (by omega)];exact S.r
theorem Sx.SM (S:Sx ks bh H A w hs lv ls fr fs)(Ae:List Mk):Sx ks bh H (A.set fr (.lst (Ae.map tM))) w hs lv ls fr Ae:=by
 have:=S.hr;have:=S.y.hl;refine⟨⟨fun m hm=>?_,?_,?_,?_,S.y.hl⟩,?_,S.hr⟩
 ·rw[cw (by have:=rn hm;omega)];exact S.y.f m hm
 ·rw[cw (by omega)];exact S.y.w
 ·rw[cw (by omega)];exact S.y.h
 ·rw[cw (by omega)];exact S.y.l
 ·rw[ef (cS S.r)]
def rW(T K:Tr)(ks:List Mk)(lv:Nat)(h:Int)(fr c d:Cell):az:=[.sh T,.sh K,.sh (.bf (fD ks (tI ks))),.sh (.at ks.length),.sh (.at (ks.length+1)),.sh (.at lv),.sh (.int h),fr,c,d]
theorem rq{n:Nat}{us:List Mk}{g:Mk->Int}(e:A[n]?=some (.bf (fD us fun m=>.int (g m))))(k:Nat):bT (k+1) A (.at n)=.bf (fD us fun m=>.int (g m)):=by
 rw[bT];simp only[e];unfold fD;rw[bq];congr 1;refine eD fun m _=>?_
 cases k<;>rfl
theorem rA{n:Nat}{us:List Mk}(e:A[n]?=some (.lst (us.map tM)))(k:Nat):bT (k+1) A (.at n)=.lst (us.map tM):=by
 rw[bT];simp only[e];rw[bq];congr 1;refine eD fun m _=>?_
 cases k<;>rfl
theorem K9(a b:Int):rR (.int a) (.int b)=.ok (.bl (a==b)):=ab ⟨rfl,rfl,by show 0<=40;decide⟩
theorem OA(S:Sx ks bh H A w hs lv ls fr fs)(kl:ks.length<=1000){T K:Tr}{h:Int}{c:Cell}{f:Mk}(hf:f∈ks)(hl:fs.length<=1000):
  ∃A',bE (rW T K ks lv h (.sh (.at fr)) c (.sh (tM f))) A=.ok (.nx (rW T K ks lv h (.sh (.at fr)) c (.sh (tM f)))) A'/\Sx ks bh H A' (Bu (w,fs) f).1 hs lv ls fr (Bu (w,fs) f).2:=by
 have S1:=S.SJ fun x=>if x=f then w f - 1 else w x
 have e1:Dc (fun A=>aq (ay (rW T K ks lv h (.sh (.at fr)) c (.sh (tM f))) 3) A) (fun A=>aq (ay (rW T K ks lv h (.sh (.at fr)) c (.sh (tM f))) 9) A) (fun A=>aq (Rs.ok (Tr.int 1)) A) (rW T K ks lv h (.sh (.at fr)) c (.sh (tM f))) A=.ok (.nx (rW T K ks lv h (.sh (.at fr)) c (.sh (tM f)))) (A.set ks.length (.bf (fD ks fun m=>.int (if m=f then w f - 1 else w m)))):=by
  have g1:C' A (.at ks.length) (tM f)=some (w f):=by
   show(match A[ks.length]? with
    |some (.bf aC)=>(match hU aC (kM f)with
     |some (.int n)=>some n
     |_=>none)
    |_=>none)=_
   rw[S.y.w];show(match hU (fD ks fun m=>.int (w m)) (kM f)with
     |some (.int n)=>some n
     |_=>none)=_
   rw[mM,ab hf]
  have g2:nW A (.at ks.length) (tM f) (.int (w f - 1))=some (A.set ks.length (.bf (fD ks fun m=>.int (if m=f then w f - 1 else w m)))):=by
   show(match A[ks.length]? with
    |some (.bf aC)=>if aC.length<i3 then some (A.set ks.length (.bf (jW aC (kM f) (.int (w f - 1)))))else none
    |_=>none)=_
   rw[S.y.w];show(if(fD ks fun m=>.int (w m)).length<i3 then some (A.set ks.length (.bf (jW (fD ks fun m=>.int (w m)) (kM f) (.int (w f - 1)))))else none)=_;rw[ab (by unfold fD i3;rw[ai];omega),DW hf];have:(fun x=>if x=f then Tr.int (w f - 1)else Tr.int (w x))=fun m=>Tr.int (if m=f then w f - 1 else w m):=funext fun x=>by by_cases e:x=f<;>simp[e]
   rw[this]
  show(match C' A (.at ks.length) (tM f)with
   |some n=>_
   |none=>Rz.bad)=_
  rw[g1];show(match nW A (.at ks.length) (tM f) (.int (w f - 1))with
   |some A'=>Rz.ok (Out.nx _) A'
   |none=>Rz.bad)=_
  rw[g2]
 have key:bE (rW T K ks lv h (.sh (.at fr)) c (.sh (tM f))) A=AU (aq (gk (cq rR (cq vf (.ok (bT 5 (A.set ks.length (.bf (fD ks fun m=>.int (if m=f then w f - 1 else w m)))) (.at ks.length))) (.ok (tM f))) (Rs.ok (Tr.int 0)))) (A.set ks.length (.bf (fD ks fun m=>.int (if m=f then w f - 1 else w m))))) (fun A=>fj (v_ fw (aq (Rs.ok (.at fr)) A) fun A=>bX (aq (.ok (tM f)) A) fun A=>Rz.ok [] A) (rW T K ks lv h (.sh (.at fr)) c (.sh (tM f)))) fun A=>Rz.ok (Out.nx (rW T K ks lv h (.sh (.at fr)) c (.sh (tM f)))) A:=by
  unfold bE;rw[e1]
  rfl
 rw[key,rq S1.y.w];show∃A',AU (aq (gk (cq rR (vf (.bf (fD ks fun m=>.int (if m=f then w f - 1 else w m))) (tM f)) (Rs.ok (Tr.int 0)))) _) _ _=_/\_;rw[nJ hf,ab rfl];show∃A',AU (aq (gk (rR (.int (w f - 1)) (Tr.int 0))) _) _ _=_/\_;rw[K9];by_cases z:w f - 1=0
 ·have e0:(Bu (w,fs) f)=(fun x=>if x=f then w f - 1 else w x,fs++[f]):=by unfold Bu;simp only[z,fO]
  rw[e0];refine⟨_,?_,S1.SM (fs++[f])⟩;have b0:((w f - 1:Int)==0)=true:=by rw[z];rfl
  rw[b0];show fj (if AX _ fr=true then fw fr [tM f] _ else .bad) _=_;have r1:=S1.r;have i1:AX (A.set ks.length (.bf (fD ks fun m=>.int (if m=f then w f - 1 else w m)))) fr=true:=by unfold AX;rw[r1]
  have a1:fw fr [tM f] (A.set ks.length (.bf (fD ks fun m=>.int (if m=f then w f - 1 else w m))))=.ok .cg ((A.set ks.length (.bf (fD ks fun m=>.int (if m=f then w f - 1 else w m)))).set fr (.lst ((fs++[f]).map tM))):=by
   unfold fw;simp only[r1];rw[ab (by rw[ai];unfold i3;omega),cY]
   rfl
  rw[ab i1,a1]
  rfl
 ·have e0:(Bu (w,fs) f)=(fun x=>if x=f then w f - 1 else w x,fs):=by unfold Bu;simp only[z,bC]
  rw[e0];refine⟨_,?_,S1⟩;have b0:((w f - 1:Int)==0)=false:=by simp[z]
  rw[b0]
  rfl
theorem zV(kl:ks.length<=1000){T K:Tr}{h:Int}{c:Cell}{b:Mk}(hb:b∈ks):∀(rem pre:List Mk) (n:Nat) (d:Cell) (A:Ab) (w:Mk->Int) (fs:List Mk),mN bh ks b=pre++rem->rem.length<n->fs.length+rem.length<=1000->Sx ks bh H A w hs lv ls fr fs->
  ∃A' d',fW (gN 9) bE (ks.idxOf b) n pre.length (rW T K ks lv h (.sh (.at fr)) c d) A=.ok (.nx (rW T K ks lv h (.sh (.at fr)) c d')) A'/\Sx ks bh H A' (oQ rem (w,fs)).1 hs lv ls fr (oQ rem (w,fs)).2
 |[],pre,n+1,d,A,w,fs,e,hn,hl,S=>⟨A,d,Uq (S.y.f b hb) (by rw[e];simp),S⟩
 |f::rem,pre,n+1,d,A,w,fs,e,hn,hl,S=>by
  have hf:f∈ks:=(bR.mp (show f∈mN bh ks b by rw[e];simp)).1;rw[bp]at hl hn;obtain⟨A1,e1,S1⟩:=OA S kl (T:=T) (K:=K) (h:=h) (c:=c) hf (by omega);obtain⟨A2,d2,e2,S2⟩:=zV kl (T:=T) (K:=K) (h:=h) (c:=c) hb rem (pre++[f]) n (.sh (tM f)) A1 _ _ (by rw[e];simp) (by omega) (by have:=zS (w,fs) f;simp only at this;omega) S1;refine⟨A2,d2,?_,by rw[mO];exact S2⟩;rw[Up (S.y.f b hb) (t:=tM f) (by rw[e];simp) (ρ2:=rW T K ks lv h (.sh (.at fr)) c (.sh (tM f))) e1];rw[bj,bp,dO]at e2;exact e2
 |[],_,0,_,_,_,_,_,hn,_,_=>by omega
 |_::_,_,0,_,_,_,_,_,hn,_,_=>by omega
end
end mJ
namespace mJ
open PySem L2
section
variable {ks:List Mk}{bh:Mk->List Mk}{H:Mk->Nat}{A:Ab}{w:Mk->Int}{hs ls fs:List Mk}{lv fr:Nat}
theorem zW(b:Mk):(mN bh ks b).length<=ks.length:=je _ _
theorem OB(kl:ks.length<=20)(S:Sx ks bh H A w hs lv ls fr fs){T K:Tr}{h:Int}{d:Cell}{m:Mk}(hm:m∈ks)(hh:(H m:Int)=h)(hn:m∉hs)(XD:hs.length<=1000)(hl:fs.length+(mN bh ks m).length<=1000):
  ∃A' d',bL (rW T K ks lv h (.sh (.at fr)) (.sh (tM m)) d) A=.ok (.nx (rW T K ks lv h (.sh (.at fr)) (.sh (tM m)) d')) A'/\Sx ks bh H A' (oQ (mN bh ks m) (w,fs)).1 (hs++[m]) lv ls fr (oQ (mN bh ks m) (w,fs)).2:=by
 have S1:=S.SK (hs++[m]);have g2:nW A (.at (ks.length+1)) (tM m) (.int h)=some (A.set (ks.length+1) (.bf (fD (hs++[m]) (tH H)))):=by
  show(match A[ks.length+1]? with
   |some (.bf aC)=>if aC.length<i3 then some (A.set (ks.length+1) (.bf (jW aC (kM m) (.int h))))else none
   |_=>none)=_
  rw[S.y.h];show(if(fD hs (tH H)).length<i3 then some (A.set (ks.length+1) (.bf (jW (fD hs (tH H)) (kM m) (.int h))))else none)=_;rw[ab (by unfold fD i3;rw[ai];omega),w4 hn (by unfold tH;rw[hh])]
 obtain⟨A2,d2,e2,S2⟩:=zV (by omega) (T:=T) (K:=K) (h:=h) (c:=.sh (tM m)) hm (mN bh ks m) [] 100 d _ _ _ rfl (by have:=zW (ks:=ks) (bh:=bh) m;omega) hl S1;refine⟨A2,d2,?_,S2⟩;show bw (match nW A (.at (ks.length+1)) (tM m) (.int h)with
  |some A'=>Rz.ok (Out.nx (rW T K ks lv h (.sh (.at fr)) (.sh (tM m)) d)) A'
  |none=>Rz.bad) (fun ρ A=>loopAt (gN 9) bE 100 (aq (cq vf (ay ρ 2) (ay ρ 8)) A) ρ)=_
 rw[g2];show loopAt (gN 9) bE 100 (aq (vf (.bf (fD ks (tI ks))) (tM m)) _) _=_;rw[nJ hm];show(match(A.set (ks.length+1) (.bf (fD (hs++[m]) (tH H))))[ks.idxOf m]? with
   |some (.lst ts)=>fW (gN 9) bE (ks.idxOf m) 100 0 (rW T K ks lv h (.sh (.at fr)) (.sh (tM m)) d) (A.set (ks.length+1) (.bf (fD (hs++[m]) (tH H))))
   |_=>Rz.bad)=_
 rw[S1.y.f m hm];exact e2
theorem zX(kl:ks.length<=20){T K:Tr}{h:Int}:∀(rem pre:List Mk) (n:Nat) (c d:Cell) (A:Ab) (w:Mk->Int) (hs fs:List Mk),ls=pre++rem->rem.length<n->(∀m∈rem,m∈ks/\(H m:Int)=h/\m∉hs)->rem.Nodup->hs.length+rem.length<=500->fs.length+rem.length*20<=1000->Sx ks bh H A w hs lv ls fr fs->
  ∃A' c' d',fW (gN 8) bL lv n pre.length (rW T K ks lv h (.sh (.at fr)) c d) A=.ok (.nx (rW T K ks lv h (.sh (.at fr)) c' d')) A'/\Sx ks bh H A' (oQ (rem.flatMap (mN bh ks)) (w,fs)).1 (hs++rem) lv ls fr (oQ (rem.flatMap (mN bh ks)) (w,fs)).2
 |[],pre,n+1,c,d,A,w,hs,fs,e,hn,hm,nd,h1,h2,S=>⟨A,c,d,Uq S.y.l (by rw[e];simp),by rw[dw];exact S⟩
 |m::rem,pre,n+1,c,d,A,w,hs,fs,e,hn,hm,nd,h1,h2,S=>by
  rw[bp]at h1 h2 hn;rw[dy]at nd;obtain⟨m1,m2,m3⟩:=hm m (aM ..);have fl:=zW (ks:=ks) (bh:=bh) m;obtain⟨A1,d1,e1,S1⟩:=OB kl S (T:=T) (K:=K) (h:=h) (d:=d) m1 m2 m3 (by omega) (by omega);obtain⟨A2,c2,d2,e2,S2⟩:=zX kl (T:=T) (K:=K) (h:=h) rem (pre++[m]) n (.sh (tM m)) d1 A1 _ _ _ (by rw[e];simp) (by omega) (fun x hx=>by
   obtain⟨a,b,c⟩:=hm x (aW _ hx);refine⟨a,b,fun q=>?_⟩;rcases eM.mp q with q|q
   ·exact c q
   ·rw[cn]at q;exact nd.1 (q▸hx)) nd.2 (by rw[bj,bp,dO];omega) (by have:=zT (mN bh ks m) (w,fs);simp only at this;omega) S1
  refine⟨A2,c2,d2,?_,?_⟩
  ·rw[Up S.y.l (t:=tM m) (by rw[e];simp) (ρ2:=rW T K ks lv h (.sh (.at fr)) (.sh (tM m)) d1) e1];rw[bj,bp,dO]at e2;exact e2
  ·rw[List.flatMap_cons,FW];rw[gV]at S2;exact S2
 |[],_,0,_,_,_,_,_,_,_,hn,_,_,_,_,_=>by omega
 |_::_,_,0,_,_,_,_,_,_,_,hn,_,_,_,_,_=>by omega
theorem Sy.new (S:Sy ks bh H A w hs lv ls):Sx ks bh H (A++[Ao.lst []]) w hs lv ls A.length []:=by
 have l1:=cS S.w;have l2:=cS S.h;have l3:=cS S.l;refine⟨⟨fun m hm=>?_,?_,?_,?_,S.hl⟩,?_,l3⟩
 ·rw[ck (by have:=rn hm;omega)];exact S.f m hm
 ·rw[ck l1];exact S.w
 ·rw[ck l2];exact S.h
 ·rw[ck l3];exact S.l
 ·rw[d_ (ar _),gy];rfl
theorem OC(S:Sy ks bh H A w hs lv ls){T K:Tr}{h:Int}{b c d:Cell}:cW (rW T K ks lv h b c d) A=.ok (decide (0<ls.length)) A:=by
 show aq (gk (cq KH (aI iK (ag (.ok (bT 5 A (.at lv))) (Rs.ok []))) (Rs.ok (Tr.int 0)))) A=_;rw[rA S.l];show Rz.ok (decide ((0:Int)<((ls.map tM).length:Int))) A=_;rw[ai];congr 1;exact decide_eq_decide.mpr (by omega)
theorem OD(K0:oS ks bh H){h:Nat}(L:Lv ks bh H h hs ls w)(S:Sy ks bh H A w hs lv ls){T K:Tr}{b c d:Cell}:
  ∃A' K_ b' c' d',bW (rW T K ks lv h b c d) A=.ok (.nx (rW T K ks K_ ((h+1:Nat):Int) b' c' d')) A'/\Sy ks bh H A' (oQ (ls.flatMap (mN bh ks)) (w,[])).1 (hs++ls) K_ (oQ (ls.flatMap (mN bh ks)) (w,[])).2:=by
 have Sn:=S.new;have hl:ls.length<=20:=bt (oV L.K8 fun m hm=>((L.uX m).mp hm).1) K0.len;have XF:hs.length<=20:=bt (oV L.nd fun m hm=>((L.mem m).mp hm).1) K0.len;obtain⟨A1,c1,d1,e1,S1⟩:=zX K0.len (T:=T) (K:=K) (h:=(h:Int)) ls [] 100 c d _ w hs [] rfl (by omega) (fun m hm=>by
  have:=(L.uX m).mp hm;exact⟨this.1,by omega,fun q=>by have:=((L.mem m).mp q).2;omega⟩) L.K8 (by omega) (by rw[dO];omega) Sn
 refine⟨A1,A.length,.sh (.at A.length),c1,d1,?_,?_⟩
 ·show bw (loopAt (gN 8) bL 100 (.ok (.at lv) (A++[Ao.lst []])) (rW T K ks lv h (.sh (.at A.length)) c d)) _=_;have:loopAt (gN 8) bL 100 (.ok (.at lv) (A++[Ao.lst []])) (rW T K ks lv h (.sh (.at A.length)) c d)=fW (gN 8) bL lv 100 0 (rW T K ks lv h (.sh (.at A.length)) c d) (A++[Ao.lst []]):=by
   show(match(A++[Ao.lst []])[lv]? with
    |some (.lst ts)=>fW (gN 8) bL lv 100 0 (rW T K ks lv h (.sh (.at A.length)) c d) (A++[Ao.lst []])
    |_=>Rz.bad)=_
   rw[Sn.y.l]
  rw[this,show(0:Nat)=([]:List Mk).length from rfl,e1]
  rfl
 ·exact⟨S1.y.f,S1.y.w,S1.y.h,S1.r,by have:=Sn.hr;have:=S.hl;omega⟩
theorem Hd(K0:oS ks bh H){T K:Tr}:∀(k n h lv:Nat) (A:Ab) (w:Mk->Int) (hs ls:List Mk) (b c d:Cell),k<n->(∀m∈ks,H m<h+k)->Lv ks bh H h hs ls w->Sy ks bh H A w hs lv ls->
  ∃A' K_ h' FY b' c' d',eS cW bW n (rW T K ks lv (h:Int) b c d) A=.ok (.nx (rW T K ks K_ h' b' c' d')) A'/\A'[ks.length+1]?=some (.bf (fD FY (tH H)))/\FY.Perm ks
 |k,0,h,lv,A,w,hs,ls,b,c,d,hk,_,_,_=>by omega
 |k,n+1,h,lv,A,w,hs,ls,b,c,d,hk,ht,L,S=>by
  rw[eS,OC S]
  match ls,L,S with
  |[],L,S=>
   refine⟨A,lv,h,hs,b,c,d,rfl,S.h,(oY L.nd K0.nd).mpr fun m=>?_⟩;rw[L.mem m];exact⟨fun q=>q.1,fun q=>⟨q,L.last K0 m q⟩⟩
  |m::ls,L,S=>
   have hm:=(L.uX m).mp (aM ..);have:=ht m hm.1;obtain⟨A1,W0,b1,c1,d1,e1,S1⟩:=OD K0 L S (T:=T) (K:=K) (b:=b) (c:=c) (d:=d)
   match k,hk,ht with
   |0,_,ht=>exact absurd (ht m hm.1) (by omega)
   |k+1,hk,ht=>
    obtain⟨A2,r⟩:=Hd K0 (T:=T) (K:=K) k n (h+1) W0 A1 _ _ _ b1 c1 d1 (by omega) (fun x hx=>by have:=ht x hx;omega) (L.next K0) S1;refine⟨A2,?_⟩;show∃K_ h' FY b' c' d',(bW (rW T K ks lv h b c d) A).bind _=_/\_;rw[e1];exact r
theorem He{P:Mk->Bool}{f:Mk->Tr}{Q:az->Rs Bool}{F:az->Rs Tr}{xs:List Cell}:∀(ms:List Mk) (c:Cell),(∀m∈ms,Q (.sh (tM m)::xs)=.ok (P m))->(∀m∈ms,P m=true->F (.sh (tM m)::xs)=.ok (f m))->k_ (gN 0) Q F (ms.map tM) (c::xs)=.ok ((ms.filter P).map f)
 |[],c,_,_=>rfl
 |m::ms,c,hQ,hF=>by
  have ih:=He (P:=P) (f:=f) (Q:=Q) (F:=F) (xs:=xs) ms (.sh (tM m)) (fun x hx=>hQ x (aW _ hx)) (fun x hx=>hF x (aW _ hx));rw[aA,k_];show(EU (Q (.sh (tM m)::xs))).bind _=_;rw[hQ m (aM ..)];cases p:P m with
  |true=>
   show(EU (F (.sh (tM m)::xs))).bind _=_;rw[hF m (aM ..) p];show(k_ (gN 0) Q F (ms.map tM) (.sh (tM m)::xs)).bind _=_;rw[ih,gr,p]
   rfl
  |false=>
   show k_ (gN 0) Q F (ms.map tM) (.sh (tM m)::xs)=_;rw[ih,gr,p]
   rfl
def w0(ks:List Mk)(bh:Mk->List Mk)(m:Mk):Int:=((bh m).filter fun b=>decide (b∈ks)).length
theorem j2{ix:List (Option Nat)}{Q:az->Rs Bool}{F:az->Rs Tr}{ms:List Mk}{ρ:az}(h:ms.length<=1000):gX ix (gN 0) Q F (.ok (ms.map tM)) ρ=(k_ (gN 0) Q F (ms.map tM) (mf ix ρ)).bind fun ys=>.ok (.lst ys):=by
 show(if(ms.map tM).length<=i3 then(k_ (gN 0) Q F (ms.map tM) (mf ix ρ)).bind fun ys=>Rs.ok (Tr.lst ys)else .bad)=_;rw[ab (by rw[ai];unfold i3;omega)]
theorem J0(K0:oS ks bh H){T:Tr}{FO c3 c4 c5 c6 c7 c8 c9:Cell}:PM A [.sh T,.sh (.bf (fD ks (tB bh))),FO,c3,c4,c5,c6,c7,c8,c9]=.ok (.lst (ks.map fun m=>.tup [tM m,.int (w0 ks bh m)])):=by
 have kl:=K0.len;unfold PM;show gX [none,some 1] (gN 0) _ _ (ox (.ok (.bf (fD ks (tB bh))))) _=_;rw[oR,j2 (by omega)];show(k_ (gN 0) _ _ (ks.map tM) [.no,.sh (.bf (fD ks (tB bh)))]).bind _=_;rw[He (P:=fun _=>true) (f:=fun m=>.tup [tM m,.int (w0 ks bh m)]) ks .no (fun _ _=>rfl) fun m hm _=>?_]
 ·rw[List.filter_eq_self.mpr (fun _ _=>rfl)];rfl
 ·show iW (ag (.ok (tM m)) (ag (aI iK (ag (gX [none,some 1] (gN 0) _ _ (iD (vf (.bf (fD ks (tB bh))) (tM m))) _) (Rs.ok []))) (Rs.ok [])))=_;rw[nJ hm];have bl:=K0.FX m hm;have e:gX [none,some 1] (gN 0) (fun ρ=>gk (cq Ee (ay ρ 0) (ay ρ 1))) (fun ρ=>ay ρ 0) (iD (.ok (tB bh m))) [.sh (tM m),.sh (.bf (fD ks (tB bh)))]=.ok (.lst (((bh m).filter fun b=>decide (b∈ks)).map tM)):=by
   show gX [none,some 1] (gN 0) (fun ρ=>gk (cq Ee (ay ρ 0) (ay ρ 1))) (fun ρ=>ay ρ 0) (.ok ((bh m).map tM)) _=_;rw[j2 (by omega)];show(k_ (gN 0) _ _ ((bh m).map tM) [.no,.sh (.bf (fD ks (tB bh)))]).bind _=_;rw[He (P:=fun b=>decide (b∈ks)) (f:=tM) (bh m) .no (fun b _=>by
    show gk (Ee (tM b) (.bf (fD ks (tB bh))))=_;rw[yx];rfl) (fun _ _ _=>rfl)]
   rfl
  rw[e];show Rs.ok (Tr.tup [tM m,.int ((((bh m).filter fun b=>decide (b∈ks)).map tM).length:Int)])=_;rw[ai]
  rfl
theorem xa:∀(us:List Mk) (g:Mk->Int),f6 ((fD us fun m=>.int (g m)).map (·.2))=true
 |[],_=>rfl
 |u::us,g=>by
  show(true&&f6 ((fD us fun m=>.int (g m)).map (·.2)))=true;rw[xa us g];rfl
theorem J1(K0:oS ks bh H){T:Tr}{FO c4 c5 c6 c7 c8 c9:Cell}{i:Nat}(e:A[i]?=some (.bf (fD ks fun m=>.int (w m)))):PN A [.sh T,.sh (.bf (fD ks (tB bh))),FO,.sh (.at i),c4,c5,c6,c7,c8,c9]=.ok (.lst ((ks.filter fun m=>w m==0).map tM)):=by
 have kl:=K0.len;unfold PN;show gX [none,some 3] (gN 0) _ _ (ox (.ok (.bf (fD ks (tB bh))))) _=_;rw[oR,j2 (by omega)];show(k_ (gN 0) _ _ (ks.map tM) [.no,.sh (bT 5 A (.at i))]).bind _=_;rw[rq e];rw[He (P:=fun m=>w m==0) (f:=tM) ks .no (fun m hm=>by
  show gk (cq rR (vf (.bf (fD ks fun m=>.int (w m))) (tM m)) (Rs.ok (Tr.int 0)))=_;rw[nJ hm];show gk (rR (.int (w m)) (Tr.int 0))=_;rw[K9];rfl) (fun _ _ _=>rfl)]
 rfl
theorem mQ{i:Nat}{t:Tr}{A:Ab}{ρ:az}{G:az->Ab->Rz Out}:bw (cy i (.ok t A) ρ) G=G (ρ.set i (.sh t)) A:=rfl
def oC(ks:List Mk)(bh:Mk->List Mk):Tr:=.tup (ks.map fun m=>.tup [tM m,tB bh m])
theorem xb:∀ms:List Mk,cD (ms.map tM)=true
 |[]=>rfl
 |m::ms=>by rw[aA,cD,xb ms];rfl
theorem uY(bh:Mk->List Mk):∀ms:List Mk,cD (ms.map fun m=>.tup [tM m,tB bh m])=true
 |[]=>rfl
 |m::ms=>by
  rw[aA,cD,uY bh ms];show((true&&(cD ((bh m).map tM)&&true))&&true)=true;rw[xb];rfl
theorem tX:∀(us:List Mk) (g:Mk->Int),sN (fD us fun m=>.int (g m))=true
 |[],_=>rfl
 |u::us,g=>by
  show(true&&sN (fD us fun m=>.int (g m)))=true;rw[tX us g];rfl
theorem tY(K0:oS ks bh H):∃hs:List Mk,e_ [oC ks bh]=.ok (.bf (fD hs (tH H)))/\hs.Perm ks:=by
 have kl:=K0.len;obtain⟨A0,e0,h0⟩:=w8 K0.nd (by omega) K0.PL
 let A1:Ab:=A0++[.bf (fD ks fun m=>.int (w0 ks bh m))]
 let A2:Ab:=A1++[.bf []]
 let A3:Ab:=A2++[.lst ((ks.filter fun m=>w0 ks bh m==0).map tM)]
 have n0:A0.length=ks.length:=h0.1;have n1:A1.length=ks.length+1:=by show(A0++[_]).length=_;rw[bj,n0];rfl
 have n2:A2.length=ks.length+2:=by show(A1++[_]).length=_;rw[bj,n1];rfl
 have q1:A1[ks.length]?=some (.bf (fD ks fun m=>.int (w0 ks bh m))):=by
  show(A0++[_])[ks.length]?=_
  rw[d_ (by omega),n0,gy];rfl
 have q2:A2[ks.length]?=some (.bf (fD ks fun m=>.int (w0 ks bh m))):=by
  show(A1++[_])[ks.length]?=_
  rw[ck (by omega)];exact q1
 have W3:Sy ks bh H A3 (w0 ks bh) [] (ks.length+2) (ks.filter fun m=>w0 ks bh m==0):=by
  refine⟨fun m hm=>?_,?_,?_,?_,by omega⟩
  ·have:=rn hm;show((A1++[_])++[_])[ks.idxOf m]?=_
   rw[ck (by rw[bj,n1];omega),ck (by omega)];show(A0++[_])[ks.idxOf m]?=_
   rw[ck (by omega)];exact h0.2 m hm
  ·show(A2++[_])[ks.length]?=_
   rw[ck (by omega)];exact q2
  ·show(A2++[_])[ks.length+1]?=_
   rw[ck (by omega)];show(A1++[_])[ks.length+1]?=_
   rw[d_ (by omega),n1,gy];rfl
  ·show(A2++[_])[ks.length+2]?=_
   rw[d_ (by omega),n2,gy];rfl
 obtain⟨A',K_,h',FY,b',c',d',ew,q,hp⟩:=Hd K0 (T:=oC ks bh) (K:=.bf (fD ks (tB bh))) 50 100 1 _ A3 _ _ _ .no .no .no (by omega) (fun m hm=>by have:=K0.top m hm;omega) (Lv.start K0 (w0 ks bh) fun _ _=>rfl) W3;refine⟨FY,?_,hp⟩;have key:e_ [oC ks bh]=fk (gH [.sh (oC ks bh),.no,.no,.no,.no,.no,.no,.no,.no,.no] []):=by
  show(if _/\_ then fk (gg.1 _ _)else Rs.bad)=_;rw[ab ⟨rfl,by show(cD _&&true)=true;rw[uY];rfl⟩,Oz]
  rfl
 rw[key];unfold gH;have d1:aI eV (ag (ay [.sh (oC ks bh),.no,.no,.no,.no,.no,.no,.no,.no,.no] 0) (Rs.ok []))=.ok (.bf (fD ks (tB bh))):=DX (tB bh) K0.nd (by omega);rw[d1];show fk (bw (cy 2 (e8 [.bf (fD ks (tB bh))] []) [.sh (oC ks bh),.sh (.bf (fD ks (tB bh))),.no,.no,.no,.no,.no,.no,.no,.no]) _)=_;rw[e0];show fk (bw (cy 3 (ff (aI eV (ag (PM A0 [.sh (oC ks bh),.sh (.bf (fD ks (tB bh))),.sh (.bf (fD ks (tI ks))),.no,.no,.no,.no,.no,.no,.no]) (Rs.ok []))) A0) [.sh (oC ks bh),.sh (.bf (fD ks (tB bh))),.sh (.bf (fD ks (tI ks))),.no,.no,.no,.no,.no,.no,.no]) _)=_;rw[J0 K0];have d2:aI eV (ag (.ok (.lst (ks.map fun m=>.tup [tM m,.int (w0 ks bh m)]))) (Rs.ok []))=.ok (.bf (fD ks fun m=>.int (w0 ks bh m))):=rj (fun m=>.int (w0 ks bh m)) K0.nd (by omega);rw[d2];have d3:ff (.ok (.bf (fD ks fun m=>.int (w0 ks bh m)))) A0=.ok (.at ks.length) A1:=by
  show(if f6 ((fD ks fun m=>.int (w0 ks bh m)).map (·.2))=true then Rz.ok (Tr.at A0.length) A1 else .bad)=_;rw[ab (xa _ _),n0]
 rw[d3];rw[mQ];have d5:ff (Rs.ok (Tr.bf [])) A1=.ok (.at (ks.length+1)) A2:=by
  show Rz.ok (Tr.at A1.length) A2=_;rw[n1]
 rw[d5,mQ];show fk (bw (cy 5 (ff (PN A2 [.sh (oC ks bh),.sh (.bf (fD ks (tB bh))),.sh (.bf (fD ks (tI ks))),.sh (.at ks.length),.sh (.at (ks.length+1)),.no,.no,.no,.no,.no]) A2) [.sh (oC ks bh),.sh (.bf (fD ks (tB bh))),.sh (.bf (fD ks (tI ks))),.sh (.at ks.length),.sh (.at (ks.length+1)),.no,.no,.no,.no,.no]) _)=_;rw[J1 K0 q2];have d4:ff (.ok (.lst ((ks.filter fun m=>w0 ks bh m==0).map tM))) A2=.ok (.at (ks.length+2)) A3:=by
  show(if f6 ((ks.filter fun m=>w0 ks bh m==0).map tM)=true then Rz.ok (Tr.at A2.length) A3 else .bad)=_;rw[ab (i0 _),n2]
 rw[d4];show fk (bw (eS cW bW 100 (rW (oC ks bh) (.bf (fD ks (tB bh))) ks (ks.length+2) 1 .no .no .no) A3) _)=_;rw[show(1:Int)=((1:Nat):Int)from rfl,ew];show(if gQ (bT 3 A' (.at (ks.length+1)))=true then Rs.ok (bT 3 A' (.at (ks.length+1)))else Rs.bad)=_;rw[rq (g:=fun m=>(H m:Int)) q];have nz:gQ (Tr.bf (fD FY fun m=>Tr.int (H m:Int)))=true:=by rw[gQ];exact tX _ _
 rw[ab nz]
 rfl
end
end mJ
namespace mJ
open PySem L2
theorem t4:∀(ns:List Int) (c:Int),∃m,gO (some c) ns=some m/\c<=m/\(∀n∈ns,n<=m)/\(m=c\/m∈ns)
 |[],c=>⟨c,rfl,Int.le_refl _,fun _ h=>(by cases h),.inl rfl⟩
 |n::ns,c=>by
  obtain⟨m,e,h1,h2,h3⟩:=t4 ns (if n>c then n else c);refine⟨m,by rw[gO];exact e,?_,fun k hk=>?_,?_⟩
  ·by_cases q:n>c
   ·rw[ab q]at h1;omega
   ·rw[ae q]at h1;exact h1
  ·rcases aP.mp hk with rfl|hk
   ·by_cases q:k>c
    ·rw[ab q]at h1;exact h1
    ·rw[ae q]at h1;omega
   ·exact h2 k hk
  ·by_cases q:n>c
   ·rw[ab q]at h3;rcases h3 with h3|h3
    ·exact .inr (by rw[h3];exact aM ..)
    ·exact .inr (aW _ h3)
   ·rw[ae q]at h3;rcases h3 with h3|h3
    ·exact .inl h3
    ·exact .inr (aW _ h3)
theorem J2{ns:List Int}{M:Int}(h:∀n∈ns,n<=M)(e:(ns=[]/\M=0)\/M∈ns):(gO none ns).getD 0=M:=by
 match ns,h,e with
 |[],_,e=>
  rcases e with⟨_,rfl⟩|e
  ·rfl
  ·cases e
 |n::ns,h,e=>
  have e:M∈n::ns:=by
   rcases e with⟨e,_⟩|e
   ·cases e
   ·exact e
  obtain⟨m,q,h1,h2,h3⟩:=t4 ns n;rw[gO,q];show m=M;have a:m<=M:=by
   rcases h3 with rfl|h3
   ·exact h _ (aM ..)
   ·exact h m (aW _ h3)
  have b:M<=m:=by
   rcases aP.mp e with rfl|e
   ·exact h1
   ·exact h2 M e
  omega
theorem t6{α:Type}(f:α->Int):∀l:List α,jR (l.map fun a=>.int (f a))=some (l.map f)
 |[]=>rfl
 |a::l=>by rw[aA,jR,t6 f l];rfl
section
variable {ks:List Mk}{bh:Mk->List Mk}{H:Mk->Nat}
theorem xf(K0:oS ks bh H){m:Mk}(hm:m∈ks):gP [oC ks bh,tM m]=.ok (.int (H m)):=by
 obtain⟨hs,e,p⟩:=tY K0;show i4 (oa (GQ (e_ [oC ks bh]) (.ok (tM m))))=_;rw[e];show Rs.ok ((hU (fD hs (tH H)) (kM m)).getD Tr.cg)=_;rw[mM,ab (p.mem_iff.mpr hm)]
 rfl
def nX(k:Nat)(t:Tr):Prop:=dt k [t,t]=.ok (.bl true)
theorem same_int(k:Nat)(i:Int):nX (k+1) (.int i):=by
 show i4 (oa (Iv (.ok (.bl true)) (rR (.int i) (.int i))))=_;rw[K9,bz];rfl
def gZ(k:Nat):az->Rs Tr:=fun ρ=>aI (dt k) (ag (ay ρ 0) (ag (ay ρ 1) (.ok [])))
theorem zY{k:Nat}:∀(ts:List Tr) (a b:Cell),(∀t∈ts,nX k t)->k_ (gT [0,1]) (fun _=>.ok true) (gZ k) (AO ts ts) [a,b]=.ok (ts.map fun _=>.bl true)
 |[],a,b,_=>rfl
 |t::ts,a,b,h=>by
  have e:=h t (aM ..);unfold nX at e;show(EU (dt k [t,t])).bind (fun y=>(k_ (gT [0,1]) (fun _=>.ok true) (gZ k) (AO ts ts) [.sh t,.sh t]).bind fun ys=>.ok (y::ys))=_;rw[e,zY ts (.sh t) (.sh t) fun u m=>h u (aW _ m)]
  rfl
theorem xg:∀ts:List Tr,Ay (ts.map fun _=>Tr.bl true)=.ok (ts.map fun _=>true)
 |[]=>rfl
 |t::ts=>by rw[aA,Ay,xg ts];rfl
theorem all_true:∀ts:List Tr,(ts.map fun _=>true).all id=true
 |[]=>rfl
 |t::ts=>by rw[aA,fE,all_true ts];rfl
theorem J3{b:Bool}:gk (.ok (.bl b))=.ok b:=rfl
theorem OE{a b:Bool}:O4 (.ok a) (.ok b)=.ok (a||b):=by cases a<;>rfl
theorem xh{k:Nat}{ts:List Tr}(hl:ts.length<=1000)(h:∀t∈ts,nX k t):nX (k+1) (.tup ts):=by
 unfold nX;have e1:mU (.int (ts.length:Int)) (.int (ts.length:Int))=.ok (.bl (!((ts.length:Int)==(ts.length:Int)))):=rfl;show i4 (vM (Ms (.ok true) (vM (Ms (O4 (.ok false) (gk (mU (.int (ts.length:Int)) (.int (ts.length:Int))))) (oa (Rs.ok (.bl false))) (.ok (.nx [.sh (.tup ts),.sh (.tup ts)]))) fun ρ=>oa (aI Az (ag (gX [none,none] (gT [0,1]) (fun _=>.ok true) (gZ k) (Rm (ag (ay ρ 0) (ag (ay ρ 1) (.ok [])))) ρ) (.ok [])))) (.ok (.nx [.sh (.tup ts),.sh (.tup ts)]))) _)=_;rw[e1,bz,J3,OE];show i4 (vM (oa (aI Az (ag (gX [none,none] (gT [0,1]) (fun _=>.ok true) (gZ k) (if ts.length<=ts.length then .ok (AO ts ts)else .bad) [.sh (.tup ts),.sh (.tup ts)]) (.ok [])))) _)=_;rw[ab (ar _)];have e2:gX [none,none] (gT [0,1]) (fun _=>.ok true) (gZ k) (.ok (AO ts ts)) [.sh (.tup ts),.sh (.tup ts)]=.ok (.lst (ts.map fun _=>.bl true)):=by
  show(if(AO ts ts).length<=i3 then(k_ (gT [0,1]) (fun _=>.ok true) (gZ k) (AO ts ts) [.no,.no]).bind fun ys=>Rs.ok (Tr.lst ys)else Rs.bad)=_;rw[ab (by
   have:(AO ts ts).length<=ts.length:=by unfold AO;rw[pA];omega
   exact bt this (bt hl (by decide))),zY ts .no .no h]
  rfl
 rw[e2];have e3:Az [.lst (ts.map fun _=>.bl true)]=.ok (.bl true):=by
  show(Ay (ts.map fun _=>Tr.bl true)).bind (fun bs=>Rs.ok (Tr.bl (bs.all id)))=_;rw[xg];show Rs.ok (Tr.bl ((ts.map fun _=>true).all id))=_;rw[all_true]
 show i4 (vM (oa (Az [.lst (ts.map fun _=>.bl true)])) _)=_;rw[e3]
 rfl
theorem Bx(k:Nat)(m:Mk):nX (k+2) (tM m):=xh (by show 2<=1000;decide) fun t ht=>by
 rcases aP.mp ht with rfl|ht
 ·exact same_int k _
 ·rw[cn]at ht;subst ht;exact same_int k _
theorem yy(k:Nat){ms:List Mk}(h:ms.length<=1000):nX (k+3) (.tup (ms.map tM)):=xh (by rw[ai];exact h) fun t ht=>by
 obtain⟨m,_,rfl⟩:=aQ.mp ht;exact Bx k m
def tP(H:Mk->Nat)(m:Mk):Tr:=.tup [.int (H m),tM m]
theorem uZ(m:Mk):cF (tP H m)=[(H m:Int),m.1,m.2]:=rfl
theorem yz{a b:Mk}(e:cF (tP H a)=cF (tP H b)):a=b:=by
 rw[uZ,uZ]at e;injection e with _ e
 injection e with e1 e
 injection e with e2 _
 exact jz e1 e2
def u4(H:Mk->Nat)(a b:Mk):Bool:=nB (cF (tP H a)) (cF (tP H b))
def aO(H:Mk->Nat)(ks:List Mk):List Mk:=ks.mergeSort (u4 H)
theorem t7{l l':List Mk}(h:l.Perm l'):aO H l=aO H l':=by
 unfold aO;refine j3 (le:=fun a b=>u4 H a b=true) (fun a b _ _ h1 h2=>yz (gL h1 h2)) ?_ ?_ (((cJ l _).trans h).trans (cJ l' _).symm)
 ·exact iO (le:=u4 H) (fun a b c h1 h2=>fz h1 h2) (fun a b=>fA _ _) _
 ·exact iO (le:=u4 H) (fun a b c h1 h2=>fz h1 h2) (fun a b=>fA _ _) _
theorem F0(ms:List Mk):dq (ms.map (tP H))=(aO H ms).map (tP H):=by
 unfold dq aO;exact(List.map_mergeSort (r:=u4 H) (s:=fun a b=>nB (cF a) (cF b)) (f:=tP H) fun a _ b _=>rfl).symm
theorem J4{ms:List Mk}(nd:ms.Nodup)(hl:ms.length<=20):oN (ms.map (tP H))=true/\((ms.map (tP H)).all fun t=>(cF t).length==3)=true:=by
 have a3:((ms.map (tP H)).all fun t=>(cF t).length==3)=true:=by
  rw[bF];intro t ht;obtain⟨m,_,rfl⟩:=aQ.mp ht
  rfl
 refine⟨?_,a3⟩;unfold oN;have a1:((ms.map (tP H)).all fun t=>(Bk t).isSome)=true:=by
  rw[bF];intro t ht;obtain⟨m,_,rfl⟩:=aQ.mp ht
  rfl
 have a2:((ms.map (tP H)).map cF).Nodup:=by
  rw[bq];unfold List.Nodup at nd⊢;rw[ia];exact nd.imp fun{a b} h e=>h (yz e)
 rw[a1,a3,bA a2,bA (by rw[ai];omega),Bool.or_true]
 rfl
def TB:Ab:=[Ao.tb "order" "order.<locals>.<lambda>"]
theorem xi(ms:List Mk):(aO H ms).length=ms.length:=(cJ ms _).length_eq
theorem u5(K0:oS ks bh H):fI [oC ks bh] TB=.ok (.tup ((aO H ks).map tM)) TB:=by
 obtain⟨hs,e,p⟩:=tY K0;have e1:kU "order" "order.<locals>.<lambda>" (.ok (.bf (fD hs (tH H)))) TB=.ok (.lst ((aO H ks).map tM)) TB:=by
  have hi:gM (fD hs (tH H))=hs.map (tP H):=by
   unfold gM fD;rw[bq]
   rfl
  obtain⟨o1,o2⟩:=J4 (H:=H) (p.nodup_iff.mpr K0.nd) (by rw[p.length_eq];exact K0.len);show aq (if oN (gM (fD hs (tH H)))=true/\((gM (fD hs (tH H))).all fun t=>(cF t).length==3)=true then Rs.ok (Tr.lst ((dq (gM (fD hs (tH H)))).map DE))else .bad) TB=_;rw[hi,ab ⟨o1,o2⟩,F0,t7 p,bq]
  rfl
 show g0 (uV.1 [.sh (oC ks bh),.no] TB)=_;show g0 (bw (cy 1 (aq (e_ [oC ks bh]) TB) [.sh (oC ks bh),.no]) fun ρ A=>kQ (wa cR (bX (kU "order" "order.<locals>.<lambda>" (ay ρ 1) A) fun A=>Rz.ok [] A)))=_;rw[e];show g0 (kQ (wa cR (bX (kU "order" "order.<locals>.<lambda>" (.ok (.bf (fD hs (tH H)))) TB) fun A=>Rz.ok [] A)))=_;rw[e1];show g0 (kQ (if v3 (.tup ((aO H ks).map tM))=true then Rz.ok (.tup ((aO H ks).map tM)) TB else .bad))=_;have:v3 (.tup ((aO H ks).map tM))=true:=by rw[v3];exact i0 _
 rw[ab this]
 rfl
end
end mJ
namespace mJ
open PySem L2
def mix(c p m:Int):Int:=(c*48271 % p)*(c*48271 % p+7) % p % m
theorem rB{c p m:Int}(hm:0<m):0<=mix c p m/\mix c p m<m:=⟨pX _ (by omega),pG _ hm⟩
theorem yA{i j:Int}(h:qG i j):jM (.int i) (.int j)=.ok (.int (i*j)):=ab h
theorem nY(c p m:Int)(hp:0<p)(HX:p<=1048576)(hm:0<m):br [.int c,.int p,.int m]=.ok (.int (mix c p m)):=by
 have b0:0<=c*48271 % p:=pX _ (by omega);have b1:c*48271 % p<p:=pG _ hp;show i4 (vM (Iy 3 (cq r_ (jM (.int c) (.int 48271)) (.ok (.int p))) [.sh (.int c),.sh (.int p),.sh (.int m),.no]) fun ρ=>oa (cq r_ (cq r_ (cq jM (ay ρ 3) (cq fc (ay ρ 3) (Rs.ok (.int 7)))) (ay ρ 1)) (ay ρ 2)))=_;have q1:jM (.int c) (.int 48271)=.ok (.int (c*48271)):=ab (.inr ⟨by decide,by decide⟩);rw[q1];have q2:cq r_ (.ok (.int (c*48271))) (.ok (.int p))=.ok (.int (c*48271 % p)):=ab hp;rw[q2];show i4 (oa (cq r_ (cq r_ (jM (.int (c*48271 % p)) (.int (c*48271 % p+7))) (.ok (.int p))) (.ok (.int m))))=_;have q3:jM (.int (c*48271 % p)) (.int (c*48271 % p+7))=.ok (.int ((c*48271 % p)*(c*48271 % p+7))):=ab (.inl ⟨by omega,by omega⟩);rw[q3];have q4:cq r_ (.ok (.int ((c*48271 % p)*(c*48271 % p+7)))) (.ok (.int p))=.ok (.int ((c*48271 % p)*(c*48271 % p+7) % p)):=ab hp;rw[q4];have q5:cq r_ (.ok (.int ((c*48271 % p)*(c*48271 % p+7) % p))) (.ok (.int m))=.ok (.int (mix c p m)):=ab hm;rw[q5]
 rfl
theorem yB(ns:List Int)(k:Int)(h:0<=k):∃c,dM [.jd ns,.int k]=.ok (.int c):=by
 show∃c,i4 (vM (Ms (.ok (decide (k<(ns.length:Int)))) (oa ((Aw (L2.rP ns k)).bind fun n=>.ok (.int n))) (.ok (.nx [.sh (.jd ns),.sh (.int k)]))) fun ρ=>oa (Rs.ok (.int 0)))=_;by_cases hk:k<(ns.length:Int)
 ·have hl:k.toNat<ns.length:=by omega
  have e:L2.rP ns k=some (ns[k.toNat]):=by
   have q:=Ey (xs:=ns) (j:=k.toNat) (aF hl);rw[Int.toNat_of_nonneg h]at q;exact q
  rw[bA hk,e];exact⟨_,rfl⟩
 ·rw[aY hk];exact⟨0,rfl⟩
def sd(c:Int)(k:Nat):Int:=c+37*(k:Int)
def rD(c:Int)(k:Nat):Mk:=(mix (sd c k) 9601 3,(k:Int))
def marks(c:Int)(k:Nat):List Mk:=(List.range k).map (rD c)
def u6(c:Int)(k:Nat):List Mk:=if mix (sd c k) 9551 5==0 then[(mix (sd c k) 9547 4,90+mix (sd c k) 9539 4)]else[]
def DZ(c:Int)(k:Nat):List Mk:=(marks c k).filter fun o=>mix (sd c k+11*o.2) 9587 3==0
def vh(c:Int)(k:Nat):List Mk:=DZ c k++u6 c k
def rE(a b:Mk):Bool:=nB (cF (tM a)) (cF (tM b))
def la(c:Int)(m:Mk):List Mk:=(vh c m.2.toNat).mergeSort rE
def bZ(c:Int)(m:Mk):Tr:=.tup [tM m,tB (la c) m]
theorem rG(c:Int)(k:Nat):marks c (k+1)=marks c k++[rD c k]:=by unfold marks;rw[List.range_succ,cY];rfl
theorem cU(c:Int)(k:Nat):(marks c k).length=k:=by unfold marks;rw[ai,gb]
theorem gn{c:Int}{k:Nat}{m:Mk}:m∈marks c k↔∃j,j<k/\m=rD c j:=by
 unfold marks;rw[aQ];constructor
 ·rintro ⟨j,hj,rfl⟩;exact⟨j,cN.mp hj,rfl⟩
 ·rintro ⟨j,hj,rfl⟩;exact⟨j,cN.mpr hj,rfl⟩
theorem xk(c:Int)(k:Nat):(marks c k).Nodup:=by
 unfold marks List.Nodup;rw[ia];refine(pR (n:=k)).imp fun{a b} h e=>h ?_
 have:(a:Int)=(b:Int):=bB Prod.snd e;omega
theorem D0(c:Int)(k:Nat)(hk:k<20):(vh c k).Nodup:=by
 unfold vh;rw[h_];refine⟨dG (xk c k),?_,fun a ha b hb e=>?_⟩
 ·unfold u6;split
  ·simp
  ·exact ij
 ·subst e;obtain⟨j,hj,rfl⟩:=gn.mp (bR.mp ha).1;unfold u6 at hb;split at hb
  ·rw[cn]at hb;have:(j:Int)=90+mix (sd c k) 9539 4:=bB Prod.snd hb;have:=(rB (c:=sd c k) (p:=9539) (m:=4) (by decide)).1;omega
  ·cases hb
theorem zZ(c:Int)(k:Nat):(vh c k).length<=k+1:=by
 unfold vh;rw[bj];have a:(DZ c k).length<=(marks c k).length:=je _ _;rw[cU]at a;have b:(u6 c k).length<=1:=by
  unfold u6;split
  ·exact ar 1
  ·exact bG 1
 omega
theorem u7{a b:Mk}(e:cF (tM a)=cF (tM b)):a=b:=by
 have e:[a.1,a.2]=[b.1,b.2]:=e;injection e with e1 e
 injection e with e2 _
 exact jz e1 e2
theorem z5(ms:List Mk):dq (ms.map tM)=(ms.mergeSort rE).map tM:=by
 unfold dq;exact(List.map_mergeSort (r:=rE) (s:=fun a b=>nB (cF a) (cF b)) (f:=tM) fun a _ b _=>rfl).symm
theorem F1{ms:List Mk}(nd:ms.Nodup)(hl:ms.length<=18):dF (.lst (ms.map tM))=.ok (.lst ((ms.mergeSort rE).map tM)):=by
 have a3:((ms.map tM).all fun t=>(cF t).length==2)=true:=by
  rw[bF];intro t ht;obtain⟨m,_,rfl⟩:=aQ.mp ht
  rfl
 have a1:((ms.map tM).all fun t=>(Bk t).isSome)=true:=by
  rw[bF];intro t ht;obtain⟨m,_,rfl⟩:=aQ.mp ht
  rfl
 have a2:((ms.map tM).map cF).Nodup:=by
  rw[bq];unfold List.Nodup at nd⊢;rw[ia];exact nd.imp fun{a b} h e=>h (u7 e)
 have ok:oN (ms.map tM)=true:=by
  unfold oN;rw[a1,a3,bA a2,bA (by rw[ai];omega),jt]
  rfl
 show(if oN (ms.map tM)=true/\(ms.map tM).length<=18/\((ms.map tM).all fun t=>(cF t).length==2)=true then Rs.ok (Tr.lst (dq (ms.map tM)))else .bad)=_;rw[ab ⟨ok,by rw[ai];exact hl,a3⟩,z5]
def La(A:Ab)(ρ:az):Rs Tr:=gX [none,some 5] (gN 0) (fun ρ=>gk (cq rR (aI br (ag (cq fc (ay ρ 1) (cq jM (Rs.ok (Tr.int 11)) (cq Ec (ay ρ 0) (Rs.ok (Tr.int 1))))) (ag (Rs.ok (Tr.int 9587)) (ag (Rs.ok (Tr.int 3)) (Rs.ok []))))) (Rs.ok (Tr.int 0)))) (fun ρ=>ay ρ 0) (iD (ay (bb A ρ) 2)) (bb A ρ)
def SN:az->Ab->Rz Out:=fun ρ A=>AU (aq (gk (cq rR (aI br (ag (ay ρ 5) (ag (Rs.ok (Tr.int 9551)) (ag (Rs.ok (Tr.int 5)) (Rs.ok []))))) (Rs.ok (Tr.int 0)))) A) (fun A=>fj (v_ fw (aq (ay ρ 7) A) fun A=>bX (aq (iW (ag (aI br (ag (ay ρ 5) (ag (Rs.ok (Tr.int 9547)) (ag (Rs.ok (Tr.int 4)) (Rs.ok []))))) (ag (cq fc (Rs.ok (Tr.int 90)) (aI br (ag (ay ρ 5) (ag (Rs.ok (Tr.int 9539)) (ag (Rs.ok (Tr.int 4)) (Rs.ok [])))))) (Rs.ok [])))) A) fun A=>Rz.ok [] A) ρ) fun A=>Rz.ok (Out.nx ρ) A
def SO:az->Ab->Rz Out:=fun ρ A=>fj (v_ fw (aq (ay ρ 2) A) fun A=>bX (aq (ay ρ 6) A) fun A=>Rz.ok [] A) ρ
def SQ:az->Ab->Rz Out:=fun ρ A=>fj (v_ fw (aq (ay ρ 3) A) fun A=>bX (v8 (iW (ag (ay (bb A ρ) 6) (ag (aI cR (ag ((ay (bb A ρ) 7).bind dF) (Rs.ok []))) (Rs.ok [])))) A) fun A=>Rz.ok [] A) ρ
def Lb:az->Ab->Rz Out:=fun ρ A=>bw (cy 5 (aq (cq fc (ay ρ 0) (cq jM (Rs.ok (Tr.int 37)) (ay ρ 4))) A) ρ) fun ρ A=>bw (cy 6 (aq (iW (ag (aI br (ag (ay ρ 5) (ag (Rs.ok (Tr.int 9601)) (ag (Rs.ok (Tr.int 3)) (Rs.ok []))))) (ag (ay ρ 4) (Rs.ok [])))) A) ρ) fun ρ A=>bw (cy 7 (ff (La A ρ) A) ρ) fun ρ A=>bw (SN ρ A) fun ρ A=>bw (SO ρ A) fun ρ A=>SQ ρ A
def Ur:az->Ab->Rz Out:=fun ρ A=>bw (cy 2 (ff (xI (Rs.ok [])) A) ρ) fun ρ A=>bw (cy 3 (ff (xI (Rs.ok [])) A) ρ) fun ρ A=>bw (i8 (gN 4) Lb (aq (nQ (ag (aI br (ag (ay ρ 0) (ag (Rs.ok (Tr.int 9613)) (ag (cq fc (ay ρ 1) (Rs.ok (Tr.int 1))) (Rs.ok []))))) (Rs.ok []))) A) ρ) fun ρ A=>kQ (aq (ay ρ 3) A)
theorem J5:j1.1=Ur:=rfl
theorem yC{A:Ab}{i:Nat}{ts:List Tr}{t:Tr}(e:A[i]?=some (.lst ts))(hl:ts.length<=1000):v_ fw (.ok (.at i) A) (fun A=>.ok [t] A)=.ok .cg (A.set i (.lst (ts++[t]))):=by
 show(if AX A i=true then fw i [t] A else .bad)=_;have e1:AX A i=true:=by unfold AX;rw[e]
 have e2:fw i [t] A=.ok .cg (A.set i (.lst (ts++[t]))):=by
  unfold fw;simp only[e];rw[ab (by unfold i3;omega)]
 rw[ab e1,e2]
theorem J7(c:Int)(k:Nat)(hk:k<20){A:Ab}(h0:A[0]?=some (.lst ((marks c k).map tM))){a b d e f g:Cell}:La A [a,b,.sh (.at 0),d,e,.sh (.int (sd c k)),f,g]=.ok (.lst ((DZ c k).map tM)):=by
 unfold La;show gX [none,some 5] (gN 0) _ _ (iD (.ok (bT 5 A (.at 0)))) _=_;rw[rA h0];show gX [none,some 5] (gN 0) _ _ (.ok ((marks c k).map tM)) _=_;rw[j2 (by rw[cU];omega)];show(k_ (gN 0) _ _ ((marks c k).map tM) [.no,.sh (.int (sd c k))]).bind _=_;rw[He (P:=fun o=>mix (sd c k+11*o.2) 9587 3==0) (f:=tM) (marks c k) .no (fun o ho=>?_) (fun _ _ _=>rfl)]
 ·rfl
 ·show gk (cq rR (aI br (ag (cq fc (.ok (.int (sd c k))) (jM (Tr.int 11) (.int o.2))) (ag (Rs.ok (Tr.int 9587)) (ag (Rs.ok (Tr.int 3)) (Rs.ok []))))) (Rs.ok (Tr.int 0)))=_;rw[yA (.inl ⟨by decide,by decide⟩)];show gk (cq rR (br [.int (sd c k+11*o.2),.int 9587,.int 3]) (Rs.ok (Tr.int 0)))=_;rw[nY _ _ _ (by decide) (by decide) (by decide)];show gk (rR (.int (mix (sd c k+11*o.2) 9587 3)) (Tr.int 0))=_;rw[K9]
  rfl
def rL(c k:Int)(c5 c6 c7:Cell):az:=[.sh (.int c),.sh (.int 9),.sh (.at 0),.sh (.at 1),.sh (.int k),c5,c6,c7]
theorem mR{A:Ab}{i j:Nat}{o:Ao}(h:i≠j):(A.set i o)[j]?=A[j]? :=cw h
set_option maxHeartbeats 1000000 in
theorem J8(c:Int)(k:Nat)(hk:k<15){A:Ab}(h0:A[0]?=some (.lst ((marks c k).map tM)))(h1:A[1]?=some (.lst ((marks c k).map (bZ c)))){c5 c6 c7:Cell}:
  ∃A' d5 d6 d7,Lb (rL c k c5 c6 c7) A=.ok (.nx (rL c k d5 d6 d7)) A'/\A'[0]?=some (.lst ((marks c (k+1)).map tM))/\A'[1]?=some (.lst ((marks c (k+1)).map (bZ c))):=by
 have l1:=cS h1;have s5:cq fc (ay (rL c k c5 c6 c7) 0) (cq jM (Rs.ok (Tr.int 37)) (ay (rL c k c5 c6 c7) 4))=.ok (.int (sd c k)):=by
  show cq fc (.ok (.int c)) (jM (Tr.int 37) (.int k))=_;rw[yA (.inl ⟨by decide,by decide⟩)]
  rfl
 let R5:az:=rL c k (.sh (.int (sd c k))) c6 c7
 let R6:az:=rL c k (.sh (.int (sd c k))) (.sh (tM (rD c k))) c7
 let R7:az:=rL c k (.sh (.int (sd c k))) (.sh (tM (rD c k))) (.sh (.at A.length))
 have s6:iW (ag (aI br (ag (ay R5 5) (ag (Rs.ok (Tr.int 9601)) (ag (Rs.ok (Tr.int 3)) (Rs.ok []))))) (ag (ay R5 4) (Rs.ok [])))=.ok (tM (rD c k)):=by
  show iW (ag (br [.int (sd c k),.int 9601,.int 3]) (ag (.ok (.int k)) (Rs.ok [])))=_;rw[nY _ _ _ (by decide) (by decide) (by decide)]
  rfl
 let A1:Ab:=A++[.lst ((DZ c k).map tM)]
 have s7:ff (La A R6) A=.ok (.at A.length) A1:=by
  have:La A R6=.ok (.lst ((DZ c k).map tM)):=J7 c k (by omega) h0;rw[this];show(if f6 ((DZ c k).map tM)=true then Rz.ok (Tr.at A.length) A1 else .bad)=_;rw[ab (i0 _)]
 have PO:A1[0]?=some (.lst ((marks c k).map tM)):=by
  show(A++[_])[0]?=_
  rw[ck (by omega)];exact h0
 have W4:A1[1]?=some (.lst ((marks c k).map (bZ c))):=by
  show(A++[_])[1]?=_
  rw[ck (by omega)];exact h1
 have Us:A1[A.length]?=some (.lst ((DZ c k).map tM)):=by
  show(A++[_])[A.length]?=_
  rw[d_ (ar _),gy];rfl
 have al:A1.length=A.length+1:=by show(A++[_]).length=_;rw[bj];rfl
 let A2:Ab:=A1.set A.length (.lst ((vh c k).map tM))
 have bl:=zZ c k;have XG:(DZ c k).length<=k:=by
  have:(DZ c k).length<=(marks c k).length:=je _ _;rw[cU]at this;exact this
 have s8:SN R7 A1=.ok (.nx R7) A2:=by
  show AU (aq (gk (cq rR (br [.int (sd c k),.int 9551,.int 5]) (Rs.ok (Tr.int 0)))) A1) (fun A=>fj (v_ fw (aq (Rs.ok (.at _)) A) fun A=>bX (aq (iW (ag (br [.int (sd c k),.int 9547,.int 4]) (ag (cq fc (Rs.ok (Tr.int 90)) (br [.int (sd c k),.int 9539,.int 4])) (Rs.ok [])))) A) fun A=>Rz.ok [] A) R7) (fun A=>Rz.ok (Out.nx R7) A)=_;rw[nY _ _ _ (by decide) (by decide) (by decide),nY _ _ _ (by decide) (by decide) (by decide),nY _ _ _ (by decide) (by decide) (by decide)];show AU (aq (gk (rR (.int (mix (sd c k) 9551 5)) (Tr.int 0))) A1) _ _=_;rw[K9];cases z:mix (sd c k) 9551 5==0 with
  |true=>
   show fj (v_ fw (.ok (.at A.length) A1) fun A=>.ok [tM (mix (sd c k) 9547 4,90+mix (sd c k) 9539 4)] A) R7=_;rw[yC Us (by rw[ai];omega)];show Rz.ok (Out.nx R7) (A1.set A.length (.lst ((DZ c k).map tM++[tM (mix (sd c k) 9547 4,90+mix (sd c k) 9539 4)])))=.ok (.nx R7) (A1.set A.length (.lst ((vh c k).map tM)));unfold vh u6;rw[z,cY]
   rfl
  |false=>
   show Rz.ok (Out.nx R7) A1=.ok (.nx R7) (A1.set A.length (.lst ((vh c k).map tM)));have:vh c k=DZ c k:=by
    unfold vh u6;rw[z];exact dw _
   rw[this];congr 1;refine(pL fun i=>?_);by_cases e:A.length=i
   ·subst e;rw[ef (by omega),Us]
   ·rw[cw e]
 have W5:A2[0]?=some (.lst ((marks c k).map tM)):=by
  show(A1.set A.length _)[0]?=_
  rw[mR (by omega)];exact PO
 have W6:A2[1]?=some (.lst ((marks c k).map (bZ c))):=by
  show(A1.set A.length _)[1]?=_
  rw[mR (by omega)];exact W4
 have W7:A2[A.length]?=some (.lst ((vh c k).map tM)):=ef (by omega)
 let A3:Ab:=A2.set 0 (.lst ((marks c (k+1)).map tM))
 have s9:SO R7 A2=.ok (.nx R7) A3:=by
  show fj (v_ fw (.ok (.at 0) A2) fun A=>.ok [tM (rD c k)] A) R7=_;rw[yC W5 (by rw[ai,cU];omega)];show Rz.ok (Out.nx R7) (A2.set 0 (.lst ((marks c k).map tM++[tM (rD c k)])))=.ok (.nx R7) (A2.set 0 (.lst ((marks c (k+1)).map tM)));rw[rG,cY]
  rfl
 have XH:A2.length=A.length+1:=by show(A1.set _ _).length=_;rw[gs];exact al
 have W8:A3[1]?=some (.lst ((marks c k).map (bZ c))):=by
  show(A2.set 0 _)[1]?=_
  rw[mR (by omega)];exact W6
 have W9:A3[A.length]?=some (.lst ((vh c k).map tM)):=by
  show(A2.set 0 _)[A.length]?=_
  rw[mR (by omega)];exact W7
 have Q5:SQ R7 A3=.ok (.nx R7) (A3.set 1 (.lst ((marks c (k+1)).map (bZ c)))):=by
  have e:(bX (v8 (iW (ag (ay (bb A3 R7) 6) (ag (aI cR (ag ((ay (bb A3 R7) 7).bind dF) (Rs.ok []))) (Rs.ok [])))) A3) fun A=>Rz.ok [] A)=.ok [bZ c (rD c k)] A3:=by
   show(bX (v8 (iW (ag (.ok (tM (rD c k))) (ag (aI cR (ag (dF (bT 5 A3 (.at A.length))) (Rs.ok []))) (Rs.ok [])))) A3) fun A=>Rz.ok [] A)=_;rw[rA W9,F1 (D0 c k (by omega)) (by omega)];show(bX (if v3 (.tup [tM (rD c k),.tup (((vh c k).mergeSort rE).map tM)])=true then Rz.ok (.tup [tM (rD c k),.tup (((vh c k).mergeSort rE).map tM)]) A3 else .bad) fun A=>Rz.ok [] A)=_;have tf:v3 (.tup [tM (rD c k),.tup (((vh c k).mergeSort rE).map tM)])=true:=by
    show(true&&(f6 (((vh c k).mergeSort rE).map tM)&&true))=true;rw[i0];rfl
   rw[ab tf]
   rfl
  have e2:(v_ fw (aq (ay R7 3) A3) fun A=>bX (v8 (iW (ag (ay (bb A R7) 6) (ag (aI cR (ag ((ay (bb A R7) 7).bind dF) (Rs.ok []))) (Rs.ok [])))) A) fun A=>Rz.ok [] A)=v_ fw (.ok (.at 1) A3) fun A=>.ok [bZ c (rD c k)] A:=by
   show(if AX A3 1=true then(bX (v8 (iW (ag (ay (bb A3 R7) 6) (ag (aI cR (ag ((ay (bb A3 R7) 7).bind dF) (Rs.ok []))) (Rs.ok [])))) A3) fun A=>Rz.ok [] A).bind _ else .bad)=_;rw[e]
   rfl
  unfold SQ;rw[e2,yC W8 (by rw[ai,cU];omega)];show Rz.ok (Out.nx R7) (A3.set 1 (.lst ((marks c k).map (bZ c)++[bZ c (rD c k)])))=_;rw[rG,cY]
  rfl
 refine⟨A3.set 1 (.lst ((marks c (k+1)).map (bZ c))),.sh (.int (sd c k)),.sh (tM (rD c k)),.sh (.at A.length),?_,?_,?_⟩
 ·unfold Lb;rw[s5];show bw (cy 6 (aq (iW (ag (aI br (ag (ay R5 5) (ag (Rs.ok (Tr.int 9601)) (ag (Rs.ok (Tr.int 3)) (Rs.ok []))))) (ag (ay R5 4) (Rs.ok [])))) A) R5) _=_;rw[s6];show bw (cy 7 (ff (La A R6) A) R6) _=_;rw[s7];rw[mQ];show bw (SN R7 A1) _=_;rw[s8];show bw (SO R7 A2) _=_;rw[s9];exact Q5
 ·rw[mR (by omega)];exact ef (by omega)
 ·exact ef (by show _<(A2.set 0 _).length;rw[gs];omega)
end mJ
namespace mJ
open PySem L2
def u9(l:List Nat):Nat:=l.foldr max 0
theorem z6:∀{l:List Nat} {n:Nat},n∈l->n<=u9 l
 |a::l,n,h=>by
  show n<=max a (u9 l);rcases aP.mp h with rfl|h
  ·omega
  ·have:=z6 h;omega
theorem t8:∀(l:List Nat),l=[]\/u9 l∈l
 |[]=>.inl rfl
 |a::l=>by
  refine .inr ?_
  show max a (u9 l)∈a::l;rcases t8 l with rfl|h
  ·have:max a (u9 [])=a:=pW (bG _);rw[this];exact aM ..
  ·by_cases q:u9 l<=a
   ·rw[pW q];exact aM ..
   ·rw[Nat.max_eq_right (by omega)];exact aW _ h
def hh(ks:List Mk)(bh:Mk->List Mk)(rk:Mk->Nat):Nat->Mk->Nat
 |0,_=>0
 |j+1,m=>if rk m<j then hh ks bh rk j m else 1+u9 (((bh m).filter fun b=>decide (b∈ks)).map (hh ks bh rk j))
theorem D1{ks:List Mk}{bh:Mk->List Mk}{rk:Mk->Nat}{m:Mk}:∀(j i:Nat),rk m<j->hh ks bh rk (j+i) m=hh ks bh rk j m
 |j,0,_=>rfl
 |j,i+1,h=>by
  show(if rk m<j+i then hh ks bh rk (j+i) m else _)=_;rw[ab (by omega)];exact D1 j i h
theorem hx{ks:List Mk}{bh:Mk->List Mk}{rk:Mk->Nat}(hr:∀m∈ks,∀b∈bh m,b∈ks->rk b<rk m){N:Nat}(hN:∀m∈ks,rk m<N):
  ∃H:Mk->Nat,(∀m∈ks,1<=H m)/\(∀m∈ks,∀b∈bh m,b∈ks->H b<H m)/\(∀m∈ks,H m=1\/∃b∈bh m,b∈ks/\H m=H b+1)/\∀m∈ks,H m<=rk m+1:=by
 have eq:∀m∈ks,hh ks bh rk N m=1+u9 (((bh m).filter fun b=>decide (b∈ks)).map (hh ks bh rk N)):=fun m hm=>by
  have h1:=hN m hm;have:hh ks bh rk N m=hh ks bh rk (rk m+1) m:=by
   have e:=D1 (ks:=ks) (bh:=bh) (rk:=rk) (m:=m) (rk m+1) (N - (rk m+1)) (by omega);rw[<-e];congr 1;omega
  rw[this];show(if rk m<rk m then _ else 1+u9 (((bh m).filter fun b=>decide (b∈ks)).map (hh ks bh rk (rk m))))=_;rw[ae (by omega)];congr 2;refine eD fun b hb=>?_
  have hb:=bR.mp hb;have:=hr m hm b hb.1 (bM hb.2);have e:=D1 (ks:=ks) (bh:=bh) (rk:=rk) (m:=b) (rk m) (N - rk m) this;rw[<-e];congr 1;omega
 refine⟨hh ks bh rk N,fun m hm=>by rw[eq m hm];omega,fun m hm b hb hk=>?_,fun m hm=>?_,?_⟩
 ·rw[eq m hm];have:hh ks bh rk N b<=u9 (((bh m).filter fun b=>decide (b∈ks)).map (hh ks bh rk N)):=z6 (aQ.mpr ⟨b,bR.mpr ⟨hb,bA hk⟩,rfl⟩);omega
 ·rcases t8 (((bh m).filter fun b=>decide (b∈ks)).map (hh ks bh rk N))with e|e
  ·left;rw[eq m hm,e];rfl
  ·right;obtain⟨b,hb,q⟩:=aQ.mp e;have hb:=bR.mp hb;exact⟨b,hb.1,bM hb.2,by rw[eq m hm];omega⟩
 ·have key:∀(n:Nat) (m:Mk),m∈ks->rk m=n->hh ks bh rk N m<=n+1:=fun n=>by
   induction n using Nat.strongRecOn with
   |ind n ih=>
    intro m hm e;rw[eq m hm];rcases t8 (((bh m).filter fun b=>decide (b∈ks)).map (hh ks bh rk N))with q|q
    ·rw[q];show 1+0<=_;omega
    ·obtain⟨b,hb,q⟩:=aQ.mp q;have hb:=bR.mp hb;have h1:=hr m hm b hb.1 (bM hb.2);have:=ih (rk b) (by omega) b (bM hb.2) rfl;omega
  exact fun m hm=>key (rk m) m hm rfl
theorem bN{c:Int}{n:Nat}(hn:n<=9){ks:List Mk}(p:ks.Perm (marks c n)):∃H,oS ks (la c) H/\∀m∈ks,H m<=12:=by
 have sp:∀m:Mk,(la c m).Perm (vh c m.2.toNat):=fun m=>cJ _ _;have mk:∀m∈ks,∃j,j<n/\m=rD c j:=fun m hm=>gn.mp (p.mem_iff.mp hm);have tn:∀j:Nat,(rD c j).2.toNat=j:=fun j=>dN j;obtain⟨H,h1,h2,h3,h4⟩:=hx (ks:=ks) (bh:=la c) (rk:=fun m=>m.2.toNat) (fun m hm b hb hk=>by
  obtain⟨j,hj,rfl⟩:=mk m hm;obtain⟨i,hi,rfl⟩:=mk b hk;show(rD c i).2.toNat<(rD c j).2.toNat;rw[tn,tn];have hb:=(sp _).mem_iff.mp hb;rw[tn]at hb;rcases eM.mp hb with hb|hb
  ·obtain⟨i',uz,e⟩:=gn.mp (bR.mp hb).1;have:(i:Int)=(i':Int):=bB Prod.snd e;omega
  ·unfold u6 at hb;split at hb
   ·rw[cn]at hb;have:(i:Int)=90+mix (sd c j) 9539 4:=bB Prod.snd hb;have:=(rB (c:=sd c j) (p:=9539) (m:=4) (by decide)).1;omega
   ·cases hb) (N:=9) (fun m hm=>by
  obtain⟨j,hj,rfl⟩:=mk m hm;show(rD c j).2.toNat<9;rw[tn];omega)
 have h5:∀m∈ks,H m<=10:=fun m hm=>by
  have:=h4 m hm;obtain⟨j,hj,rfl⟩:=mk m hm;rw[tn]at this;omega
 refine⟨H,⟨p.nodup_iff.mpr (xk c n),by rw[p.length_eq,cU];omega,fun m hm=>?_,fun m hm=>?_,h1,h2,h3,fun m hm=>by have:=h5 m hm;omega⟩,fun m hm=>by have:=h5 m hm;omega⟩
 ·obtain⟨j,hj,rfl⟩:=mk m hm;rw[(sp _).nodup_iff,tn];exact D0 c j (by omega)
 ·obtain⟨j,hj,rfl⟩:=mk m hm;rw[(sp _).length_eq,tn];have:=zZ c j;omega
theorem z7(c:Int):∀(j k:Nat) (A:Ab) (c4 c5 c6 c7:Cell),k+j<=10->A[0]?=some (.lst ((marks c k).map tM))->A[1]?=some (.lst ((marks c k).map (bZ c)))->
  ∃A' d4 d5 d6 d7,iY (gN 4) Lb ((List.range' k j).map fun(i:Nat)=>Tr.int (i:Int)) [.sh (.int c),.sh (.int 9),.sh (.at 0),.sh (.at 1),c4,c5,c6,c7] A=.ok (.nx [.sh (.int c),.sh (.int 9),.sh (.at 0),.sh (.at 1),d4,d5,d6,d7]) A'/\A'[1]?=some (.lst ((marks c (k+j)).map (bZ c)))
 |0,k,A,c4,c5,c6,c7,_,_,h1=>⟨A,c4,c5,c6,c7,rfl,h1⟩
 |j+1,k,A,c4,c5,c6,c7,hk,h0,h1=>by
  obtain⟨A1,d5,d6,d7,e,q0,q1⟩:=J8 c k (by omega) h0 h1 (c5:=c5) (c6:=c6) (c7:=c7);obtain⟨A2,r4,r5,r6,r7,e2,q2⟩:=z7 c j (k+1) A1 (.sh (.int k)) d5 d6 d7 (by omega) q0 q1;refine⟨A2,r4,r5,r6,r7,?_,by rw[show k+(j+1)=k+1+j by omega];exact q2⟩;rw[pQ,aA,rm (ρ1:=rL c k c5 c6 c7) rfl e];exact e2
theorem J9(n:Nat):vN 0 n=(List.range' 0 n).map fun(i:Nat)=>Tr.int (i:Int):=by
 unfold vN;rw[List.range_eq_range'];refine eD fun k _=>?_
 rw[Int.zero_add]
theorem rH(c:Int):∀ms:List Mk,cD (ms.map (bZ c))=true:=fun ms=>uY (la c) ms
theorem rJ(c:Int):∀ms:List Mk,f6 (ms.map (bZ c))=true
 |[]=>rfl
 |m::ms=>by
  rw[aA,f6,rJ c ms];show((true&&(f6 ((la c m).map tM)&&true))&&true)=true;rw[i0];rfl
theorem mS(c:Int){A:Ab}{i:Nat}{ms:List Mk}(e:A[i]?=some (.lst (ms.map (bZ c))))(k:Nat):bT (k+1) A (.at i)=.lst (ms.map (bZ c)):=by
 rw[bT];simp only[e];rw[bq];congr 1;refine eD fun m _=>?_
 cases k<;>rfl
theorem xl(ts:List Tr):gQ (.lst ts)=cD ts:=by rw[gQ]
theorem D2(ts:List Tr):gQ (.tup ts)=cD ts:=by rw[gQ]
theorem z8{n m:Nat}{G:az->Ab->Rz Out}{ts:List Tr}(h1:ts.length=n)(h2:cD ts=true):sg n m G ts=fk (G (startT m ts) []):=ab ⟨h1,h2⟩
theorem By(c:Int):∃n,n<=9/\fX [.int c,.int 9]=.ok (.lst ((marks c n).map (bZ c))):=by
 obtain⟨m0,m1⟩:=rB (c:=c) (p:=9613) (m:=10) (by decide);refine⟨(mix c 9613 10).toNat,by omega,?_⟩;have key:fX [.int c,.int 9]=fk (Ur [.sh (.int c),.sh (.int 9),.no,.no,.no,.no,.no,.no] []):=by
  rw[<-J5];exact z8 rfl rfl
 have er:nQ (ag (aI br (ag (.ok (.int c)) (ag (Rs.ok (Tr.int 9613)) (ag (cq fc (.ok (.int 9)) (Rs.ok (Tr.int 1))) (Rs.ok []))))) (Rs.ok []))=.ok ((List.range' 0 (mix c 9613 10).toNat).map fun(i:Nat)=>Tr.int (i:Int)):=by
  show nQ (ag (br [.int c,.int 9613,.int 10]) (Rs.ok []))=_;rw[nY _ _ _ (by decide) (by decide) (by decide)];show(if-4611686018427387904<=mix c 9613 10/\mix c 9613 10<4611686018427387904 then Rs.ok (vN 0 (mix c 9613 10).toNat)else .bad)=_;rw[ab ⟨by omega,by omega⟩,J9]
 obtain⟨A',d4,d5,d6,d7,el,q⟩:=z7 c (mix c 9613 10).toNat 0 [.lst [],.lst []] .no .no .no .no (by omega) rfl rfl;rw[ju]at q;rw[key];show fk (bw (i8 (gN 4) Lb (aq (nQ (ag (aI br (ag (.ok (.int c)) (ag (Rs.ok (Tr.int 9613)) (ag (cq fc (.ok (.int 9)) (Rs.ok (Tr.int 1))) (Rs.ok []))))) (Rs.ok []))) [.lst [],.lst []]) [.sh (.int c),.sh (.int 9),.sh (.at 0),.sh (.at 1),.no,.no,.no,.no]) fun ρ A=>kQ (aq (ay ρ 3) A))=_;rw[er];show fk (bw (iY (gN 4) Lb _ _ _) _)=_;rw[el];show(if gQ (bT 3 A' (.at 1))=true then Rs.ok (bT 3 A' (.at 1))else Rs.bad)=_;rw[mS c q,ab (by rw[xl];exact rH c _)]
theorem t9{α β:Type}(f:α->β):∀(l:List α) (i:Nat),(l.map f).eraseIdx i=(l.eraseIdx i).map f
 |[],_=>rfl
 |a::l,0=>rfl
 |a::l,i+1=>by
  show f a::(l.map f).eraseIdx i=f a::(l.eraseIdx i).map f;rw[t9 f l i]
theorem rM{α:Type}:∀(l:List α) (i:Nat) (h:i<l.length),(l[i]::l.eraseIdx i).Perm l
 |a::l,0,_=>List.Perm.refl _
 |a::l,i+1,h=>by
  have hi:i<l.length:=by rw[bp]at h;omega
  have ih:=rM l i hi;show(l[i]::a::l.eraseIdx i).Perm (a::l);exact(List.Perm.swap a _ _).trans (List.Perm.cons a ih)
def PQ:az->Ab->Rz Bool:=fun ρ A=>aq ((ay (bb A ρ) 2).bind m5) A
def OF:az->Ab->Rz Out:=fun ρ A=>fj (v_ fw (aq (ay ρ 3) A) fun A=>bX (v_ AY (aq (ay ρ 2) A) fun A=>bX (v8 (aI br (ag (cq fc (ay (bb A ρ) 1) (cq jM (Rs.ok (Tr.int 7)) (aI iK (ag (ay (bb A ρ) 2) (Rs.ok []))))) (ag (Rs.ok (Tr.int 9533)) (ag (aI iK (ag (ay (bb A ρ) 2) (Rs.ok []))) (Rs.ok []))))) A) fun A=>Rz.ok [] A) fun A=>Rz.ok [] A) ρ
def SR:az->Ab->Rz Out:=fun ρ A=>bw (cy 2 (ff (aI y9 (ag (ay (bb A ρ) 0) (Rs.ok []))) A) ρ) fun ρ A=>bw (cy 3 (ff (xI (Rs.ok [])) A) ρ) fun ρ A=>bw (eS PQ OF 100 ρ A) fun ρ A=>kQ (v8 (aI cR (ag (ay (bb A ρ) 3) (Rs.ok []))) A)
theorem J_:nH.1=SR:=rfl
theorem J'(c d:Int){T:Tr}{ls fs:List Mk}(h0:0<ls.length)(h1:ls.length<=20)(h2:fs.length<=100):
  ∃OG Ae:List Mk,OF [.sh T,.sh (.int d),.sh (.at 0),.sh (.at 1)] [.lst (ls.map (bZ c)),.lst (fs.map (bZ c))]=.ok (.nx [.sh T,.sh (.int d),.sh (.at 0),.sh (.at 1)]) [.lst (OG.map (bZ c)),.lst (Ae.map (bZ c))]/\OG.length+1=ls.length/\Ae.length=fs.length+1/\(Ae++OG).Perm (fs++ls):=by
 have th:bT 5 [.lst (ls.map (bZ c)),.lst (fs.map (bZ c))] (.at 0)=.lst (ls.map (bZ c)):=mS c rfl 4;obtain⟨m0,m1⟩:=rB (c:=d+7*(ls.length:Int)) (p:=9533) (m:=(ls.length:Int)) (by omega);have hj:(mix (d+7*(ls.length:Int)) 9533 (ls.length:Int)).toNat<ls.length:=by omega
 refine⟨ls.eraseIdx (mix (d+7*(ls.length:Int)) 9533 (ls.length:Int)).toNat,fs++[ls[(mix (d+7*(ls.length:Int)) 9533 (ls.length:Int)).toNat]],?_,?_,by rw[bj];rfl,?_⟩
 ·have em:v8 (aI br (ag (cq fc (.ok (.int d)) (cq jM (Rs.ok (Tr.int 7)) (aI iK (ag (.ok (bT 5 [.lst (ls.map (bZ c)),.lst (fs.map (bZ c))] (.at 0))) (Rs.ok []))))) (ag (Rs.ok (Tr.int 9533)) (ag (aI iK (ag (.ok (bT 5 [.lst (ls.map (bZ c)),.lst (fs.map (bZ c))] (.at 0))) (Rs.ok []))) (Rs.ok []))))) [.lst (ls.map (bZ c)),.lst (fs.map (bZ c))]=.ok (.int (mix (d+7*(ls.length:Int)) 9533 (ls.length:Int))) [.lst (ls.map (bZ c)),.lst (fs.map (bZ c))]:=by
   rw[th];show v8 (aI br (ag (cq fc (.ok (.int d)) (jM (Tr.int 7) (.int ((ls.map (bZ c)).length:Int)))) (ag (Rs.ok (Tr.int 9533)) (ag (.ok (.int ((ls.map (bZ c)).length:Int))) (Rs.ok []))))) _=_;rw[ai,yA (.inl ⟨by decide,by decide⟩)];show v8 (br [.int (d+7*(ls.length:Int)),.int 9533,.int (ls.length:Int)]) _=_;rw[nY _ _ _ (by decide) (by decide) (by omega)]
   rfl
  have ep:AY 0 [.int (mix (d+7*(ls.length:Int)) 9533 (ls.length:Int))] [.lst (ls.map (bZ c)),.lst (fs.map (bZ c))]=.ok (bZ c ls[(mix (d+7*(ls.length:Int)) 9533 (ls.length:Int)).toNat]) [.lst ((ls.eraseIdx (mix (d+7*(ls.length:Int)) 9533 (ls.length:Int)).toNat).map (bZ c)),.lst (fs.map (bZ c))]:=by
   show(if-9223372036854775808<=mix (d+7*(ls.length:Int)) 9533 (ls.length:Int)/\mix (d+7*(ls.length:Int)) 9533 (ls.length:Int)<9223372036854775808 then
    (match seqIndex? (mix (d+7*(ls.length:Int)) 9533 (ls.length:Int)) (ls.map (bZ c)).length with
    |some j=>(match(ls.map (bZ c))[j]? with
     |some t=>Rz.ok t [Ao.lst ((ls.map (bZ c)).eraseIdx j),.lst (fs.map (bZ c))]
     |none=>Rz.bad)
    |none=>Rz.bad)else Rz.bad)=_
   rw[ab ⟨by omega,by omega⟩,ai,PySem.StrLaws.seqIndex_nonneg m0 m1];show(match(ls.map (bZ c))[(mix (d+7*(ls.length:Int)) 9533 (ls.length:Int)).toNat]? with
     |some t=>Rz.ok t [Ao.lst ((ls.map (bZ c)).eraseIdx (mix (d+7*(ls.length:Int)) 9533 (ls.length:Int)).toNat),.lst (fs.map (bZ c))]
     |none=>Rz.bad)=_
   rw[aU,aF hj,t9]
   rfl
  show fj ((bX ((bX (v8 (aI br (ag (cq fc (.ok (.int d)) (cq jM (Rs.ok (Tr.int 7)) (aI iK (ag (.ok (bT 5 [.lst (ls.map (bZ c)),.lst (fs.map (bZ c))] (.at 0))) (Rs.ok []))))) (ag (Rs.ok (Tr.int 9533)) (ag (aI iK (ag (.ok (bT 5 [.lst (ls.map (bZ c)),.lst (fs.map (bZ c))] (.at 0))) (Rs.ok []))) (Rs.ok []))))) [.lst (ls.map (bZ c)),.lst (fs.map (bZ c))]) fun A=>Rz.ok [] A).bind fun ts A=>AY 0 ts A) fun A=>Rz.ok [] A).bind fun ts A=>fw 1 ts A) _=_;rw[em];show fj ((bX (AY 0 [.int (mix (d+7*(ls.length:Int)) 9533 (ls.length:Int))] [.lst (ls.map (bZ c)),.lst (fs.map (bZ c))]) fun A=>Rz.ok [] A).bind fun ts A=>fw 1 ts A) _=_;rw[ep];show fj (if(fs.map (bZ c)).length<i3 then Rz.ok Tr.cg [_,Ao.lst (fs.map (bZ c)++[bZ c ls[(mix (d+7*(ls.length:Int)) 9533 (ls.length:Int)).toNat]])]else .bad) _=_;rw[ab (by rw[ai];unfold i3;omega),cY]
  rfl
 ·rw[oX hj];omega
 ·rw[gV];refine List.Perm.append_left fs ?_
  exact rM _ _ hj
theorem z9(c d:Int){T:Tr}:∀(n k:Nat) (ls fs:List Mk),ls.length=k->k<n->k<=20->fs.length+k<=100->
  ∃Ae:List Mk,eS PQ OF n [.sh T,.sh (.int d),.sh (.at 0),.sh (.at 1)] [.lst (ls.map (bZ c)),.lst (fs.map (bZ c))]=.ok (.nx [.sh T,.sh (.int d),.sh (.at 0),.sh (.at 1)]) [.lst [],.lst (Ae.map (bZ c))]/\Ae.Perm (fs++ls)
 |0,k,ls,fs,_,hk,_,_=>by omega
 |n+1,k,ls,fs,hl,hk,h1,h2=>by
  have ec:PQ [.sh T,.sh (.int d),.sh (.at 0),.sh (.at 1)] [.lst (ls.map (bZ c)),.lst (fs.map (bZ c))]=.ok (!(ls.map (bZ c)).isEmpty) [.lst (ls.map (bZ c)),.lst (fs.map (bZ c))]:=by
   show aq ((Rs.ok (bT 5 [.lst (ls.map (bZ c)),.lst (fs.map (bZ c))] (.at 0))).bind m5) _=_;rw[mS c rfl]
   rfl
  rw[eS,ec]
  match ls,hl with
  |[],_=>exact⟨fs,rfl,by rw[dw]⟩
  |m::ls,hl=>
   obtain⟨OG,Ae,e,l1,l2,p⟩:=J' c d (T:=T) (ls:=m::ls) (fs:=fs) (by rw[bp];omega) (by omega) (by omega);obtain⟨W_,e2,p2⟩:=z9 c d (T:=T) n (k - 1) OG Ae (by omega) (by omega) (by omega) (by omega);refine⟨W_,?_,p2.trans p⟩;show(OF [.sh T,.sh (.int d),.sh (.at 0),.sh (.at 1)] [.lst ((m::ls).map (bZ c)),.lst (fs.map (bZ c))]).bind _=_;rw[e];exact e2
theorem F2(c d:Int){ms:List Mk}(hl:ms.length<=20):∃ks:List Mk,gm [.lst (ms.map (bZ c)),.int d]=.ok (oC ks (la c))/\ks.Perm ms:=by
 obtain⟨ks,e,p⟩:=z9 c d (T:=.lst (ms.map (bZ c))) 100 ms.length ms [] rfl (by omega) hl (by rw[dO];omega);rw[lM]at p;refine⟨ks,?_,p⟩;have key:gm [.lst (ms.map (bZ c)),.int d]=fk (SR [.sh (.lst (ms.map (bZ c))),.sh (.int d),.no,.no] []):=by
  rw[<-J_];exact z8 rfl (by
   show(gQ (.lst (ms.map (bZ c)))&&(true&&true))=true;rw[xl,rH];rfl)
 rw[key];unfold SR;have e1:ff (aI y9 (ag (ay (bb [] [.sh (.lst (ms.map (bZ c))),.sh (.int d),.no,.no]) 0) (Rs.ok []))) []=.ok (.at 0) [.lst (ms.map (bZ c))]:=by
  show(if f6 (ms.map (bZ c))=true then Rz.ok (Tr.at 0) [Ao.lst (ms.map (bZ c))]else .bad)=_;rw[ab (rJ c ms)]
 rw[e1,mQ];have e2:ff (xI (Rs.ok [])) [.lst (ms.map (bZ c))]=.ok (.at 1) [.lst (ms.map (bZ c)),.lst []]:=rfl;rw[e2,mQ];show fk (bw (eS PQ OF 100 [.sh (.lst (ms.map (bZ c))),.sh (.int d),.sh (.at 0),.sh (.at 1)] [.lst (ms.map (bZ c)),.lst (([]:List Mk).map (bZ c))]) _)=_;rw[e];have th:bT 5 [Ao.lst [],.lst (ks.map (bZ c))] (.at 1)=.lst (ks.map (bZ c)):=mS c rfl 4;show fk (kQ (v8 (aI cR (ag (.ok (bT 5 [Ao.lst [],.lst (ks.map (bZ c))] (.at 1))) (Rs.ok []))) [Ao.lst [],.lst (ks.map (bZ c))]))=_;rw[th];have tf:v3 (.tup (ks.map (bZ c)))=true:=by rw[v3];exact rJ c ks
 show fk (kQ (if v3 (.tup (ks.map (bZ c)))=true then Rz.ok (.tup (ks.map (bZ c))) _ else .bad))=_;rw[ab tf];show(if gQ (.tup (ks.map (bZ c)))=true then Rs.ok (Tr.tup (ks.map (bZ c)))else Rs.bad)=_;rw[ab (by rw[D2];exact rH c _)]
 rfl
end mJ
namespace mJ
open PySem L2
theorem nK:∀l:List Mk,uv (l.map tM) (l.map tM)=true
 |[]=>rfl
 |m::l=>by
  rw[aA,uv,nK l];show(((m.1==m.1)&&((m.2==m.2)&&true))&&true)=true;simp
theorem u_:∀l:List Mk,m6 (l.map tM)=true
 |[]=>rfl
 |m::l=>by rw[aA,m6,u_ l];rfl
theorem yD:∀l:List Mk,E1 (l.map tM)<=1
 |[]=>by show 0<=1;decide
 |m::l=>by
  rw[aA,E1];have:=yD l;have e:dT (tM m)=1:=rfl;omega
theorem Ka(l:List Mk):mU (.tup (l.map tM)) (.tup (l.map tM))=.ok (.bl false):=by
 have p:og (.tup (l.map tM))=true:=by rw[og];exact u_ l
 have d:dT (.tup (l.map tM))<=40:=by rw[dT];have:=yD l;omega
 have e:eqT (.tup (l.map tM)) (.tup (l.map tM))=true:=by rw[eqT];exact nK l
 unfold mU;rw[ab ⟨p,p,d⟩,e]
 rfl
theorem Kb(l:List Mk):mU (.lst (l.map tM)) (.lst (l.map tM))=.ok (.bl false):=by
 have p:og (.lst (l.map tM))=true:=by rw[og];exact u_ l
 have d:dT (.lst (l.map tM))<=40:=by rw[dT];have:=yD l;omega
 have e:eqT (.lst (l.map tM)) (.lst (l.map tM))=true:=by rw[eqT];exact nK l
 unfold mU;rw[ab ⟨p,p,d⟩,e]
 rfl
theorem F3(a b:Mk):mU (tM a) (tM b)=.ok (.bl (!decide (a=b))):=by
 have e:eqT (tM a) (tM b)=decide (a=b):=by
  show((a.1==b.1)&&((a.2==b.2)&&true))=_;by_cases q:a=b
  ·subst q;simp
  ·rw[aY q];by_cases q1:a.1=b.1
   ·have:¬a.2=b.2:=fun q2=>q (jz q1 q2);simp[this]
   ·simp[q1]
 unfold mU;rw[ab ⟨rfl,rfl,by show 0+1<=40;decide⟩,e]
theorem ne_int(a:Int):mU (.int a) (.int a)=.ok (.bl false):=by
 unfold mU;rw[ab ⟨rfl,rfl,by show 0<=40;decide⟩];show Rs.ok (Tr.bl (!(a==a)))=_;rw[bz];rfl
theorem Kc{ms:List Mk}(nd:ms.Nodup)(hl:ms.length<=20):oN (ms.map tM)=true:=by
 have a3:((ms.map tM).all fun t=>(cF t).length==2)=true:=by
  rw[bF];intro t ht;obtain⟨m,_,rfl⟩:=aQ.mp ht
  rfl
 have a1:((ms.map tM).all fun t=>(Bk t).isSome)=true:=by
  rw[bF];intro t ht;obtain⟨m,_,rfl⟩:=aQ.mp ht
  rfl
 have a2:((ms.map tM).map cF).Nodup:=by
  rw[bq];unfold List.Nodup at nd⊢;rw[ia];exact nd.imp fun{a b} h e=>h (u7 e)
 unfold oN;rw[a1,a3,bA a2,bA (by rw[ai];omega),jt]
 rfl
theorem va{ms:List Mk}(nd:ms.Nodup)(hl:ms.length<=20):dr [.tup (ms.map tM)]=.ok (.lst ((ms.mergeSort rE).map tM)):=by
 show(if oN (ms.map tM)=true then Rs.ok (Tr.lst (dq (ms.map tM)))else .bad)=_;rw[ab (Kc nd hl),z5]
theorem F4{ms:List Mk}(nd:ms.Nodup)(hl:ms.length<=20):dr [.lst (ms.map tM)]=.ok (.lst ((ms.mergeSort rE).map tM)):=va nd hl
theorem D3{l l':List Mk}(h:l.Perm l'):l.mergeSort rE=l'.mergeSort rE:=by
 refine j3 (le:=fun a b=>rE a b=true) (fun a b _ _ h1 h2=>u7 (gL h1 h2)) ?_ ?_ (((cJ l _).trans h).trans (cJ l' _).symm)
 ·exact iO (le:=rE) (fun a b c h1 h2=>fz h1 h2) (fun a b=>fA _ _) _
 ·exact iO (le:=rE) (fun a b c h1 h2=>fz h1 h2) (fun a b=>fA _ _) _
theorem z_(a b:Mk):pE (tM a) (tM b)=decide (b=a):=by
 show decide ([b.1,b.2]=[a.1,a.2])=_;by_cases q:b=a
 ·subst q;simp
 ·rw[aY q];exact aY fun e=>q (u7 (show cF (tM b)=cF (tM a)from e))
theorem D4(l:List Mk):vg (l.map tM)=true:=by
 unfold vg;rw[bF];intro t ht;obtain⟨m,_,rfl⟩:=aQ.mp ht
 rfl
theorem D5(b:Mk)(l:List Mk):Oo (tM b) (.tup (l.map tM))=.ok (.bl (decide (b∈l))):=by
 show(if vg [tM b]=true/\vg (l.map tM)=true then Rs.ok (Tr.bl ((l.map tM).any (pE (tM b))))else .bad)=_;rw[ab ⟨rfl,D4 l⟩];congr 2;rw[List.any_map];by_cases q:b∈l
 ·rw[bA q,List.any_eq_true];exact⟨b,q,by show pE (tM b) (tM b)=true;rw[z_];simp⟩
 ·rw[aY q,List.any_eq_false];intro y hy;show¬pE (tM b) (tM y)=true;rw[z_];have:¬y=b:=fun e=>q (e▸hy);simp[this]
theorem t_{b:Mk}{l:List Mk}(h:b∈l):∃j:Nat,wU (l.map tM) (tM b)=.ok (.int j)/\l[j]?=some b:=by
 unfold wU;rw[ab ⟨rfl,D4 l⟩];cases e:(l.map tM).findIdx? (pE (tM b))with
 |none=>
  rw[List.findIdx?_eq_none_iff]at e;have:=e (tM b) (aQ.mpr ⟨b,h,rfl⟩);rw[z_]at this;simp at this
 |some j=>
  obtain⟨hj,h1,_⟩:=vl.mp e;refine⟨j,rfl,?_⟩;rw[ai]at hj;rw[gq,z_]at h1;rw[aF hj,bM h1]
theorem oS.perm {ks Ut:List Mk}{bh:Mk->List Mk}{H:Mk->Nat}(K:oS ks bh H)(p:Ut.Perm ks):oS Ut bh H:=
 ⟨p.nodup_iff.mpr K.nd,by rw[p.length_eq];exact K.len,fun m h=>K.PL m (p.mem_iff.mp h),fun m h=>K.FX m (p.mem_iff.mp h),fun m h=>K.pos m (p.mem_iff.mp h),fun m h b hb hk=>K.lt m (p.mem_iff.mp h) b hb (p.mem_iff.mp hk),fun m h=>(K.ex m (p.mem_iff.mp h)).imp id fun⟨b,h1,h2,h3⟩=>⟨b,h1,p.mem_iff.mpr h2,h3⟩,fun m h=>K.top m (p.mem_iff.mp h)⟩
theorem rN{H:Mk->Nat}(ks:List Mk):(aO H ks).Pairwise fun a b=>u4 H a b=true:=iO (le:=u4 H) (fun a b c h1 h2=>fz h1 h2) (fun a b=>fA _ _) _
theorem Kd{H:Mk->Nat}{ks:List Mk}{b m:Mk}{i j:Nat}(hi:(aO H ks)[i]?=some b)(hj:(aO H ks)[j]?=some m)(h:H b<H m):¬j<i:=fun q=>by
 have li:=cS hi;have lj:=cS hj;have e:=o4.mp (rN (H:=H) ks) j i lj li q;rw[aF li]at hi;rw[aF lj]at hj;rw[Option.some.inj hi,Option.some.inj hj]at e;have e:=mG.mp e;rw[uZ,uZ]at e;exact e (List.Lex.rel (by omega))
end mJ
namespace mJ
open PySem L2
theorem F5{c:Int}{j:Nat}(hj:j<9){b:Mk}(h:b∈la c (rD c j)):b.2≠50:=by
 have hb:=(cJ _ _).mem_iff.mp h;rw[show(rD c j).2.toNat=j from dN j]at hb;rcases eM.mp hb with hb|hb
 ·obtain⟨i,hi,rfl⟩:=gn.mp (bR.mp hb).1;show(i:Int)≠50;omega
 ·unfold u6 at hb;split at hb
  ·rw[cn]at hb;subst hb;show 90+mix (sd c j) 9539 4≠50;have:=(rB (c:=sd c j) (p:=9539) (m:=4) (by decide)).1;omega
  ·cases hb
def BE(c:Int)(nw:Mk)(so:List Mk)(m:Mk):List Mk:=if m=nw then so.mergeSort rE else la c m
def oU(H:Mk->Nat)(nw:Mk)(so:List Mk)(m:Mk):Nat:=if m=nw then 1+u9 (so.map H)else H m
section
variable {c:Int}{n:Nat}{H:Mk->Nat}{k:Int}{so:List Mk}
theorem yE(hn:n<=9):((k,50):Mk)∉marks c n:=fun h=>by
 obtain⟨j,hj,e⟩:=gn.mp h;have:(50:Int)=(j:Int):=bB Prod.snd e;omega
theorem SS(hn:n<=9)(K:oS (marks c n) (la c) H)(SU:∀m∈marks c n,H m<=12)(D6:so.Nodup)(sub:∀m∈so,m∈marks c n):oS (marks c n++[(k,50)]) (BE c (k,50) so) (oU H (k,50) so):=by
 have out:=yE (c:=c) (k:=k) hn;have ne:∀{m:Mk},m∈marks c n->m≠(k,50):=fun h e=>out (e▸h);have sl:so.length<=9:=by
  have:=oV D6 sub;rw[cU]at this;omega
 have mem:∀m,m∈marks c n++[((k,50):Mk)]->m∈marks c n\/m=(k,50):=fun m h=>by
  rcases eM.mp h with h|h
  ·exact .inl h
  ·exact .inr (cn.mp h)
 have b1:∀{m:Mk},m∈marks c n->BE c (k,50) so m=la c m:=fun h=>ae (ne h);have b2:BE c (k,50) so (k,50)=so.mergeSort rE:=ab rfl;have h1:∀{m:Mk},m∈marks c n->oU H (k,50) so m=H m:=fun h=>ae (ne h);have h2:oU H (k,50) so (k,50)=1+u9 (so.map H):=ab rfl;have sp:(so.mergeSort rE).Perm so:=cJ _ _;refine⟨?_,?_,fun m hm=>?_,fun m hm=>?_,fun m hm=>?_,fun m hm b hb hk=>?_,fun m hm=>?_,fun m hm=>?_⟩
 ·rw[h_];refine⟨K.nd,by simp,fun a ha b hb e=>?_⟩;rw[cn]at hb;exact ne ha (e.trans hb)
 ·rw[bj,cU];show n+1<=20;omega
 ·rcases mem m hm with h|rfl
  ·rw[b1 h];exact K.PL m h
  ·rw[b2,sp.nodup_iff];exact D6
 ·rcases mem m hm with h|rfl
  ·rw[b1 h];exact K.FX m h
  ·rw[b2,sp.length_eq];omega
 ·rcases mem m hm with h|rfl
  ·rw[h1 h];exact K.pos m h
  ·rw[h2];omega
 ·rcases mem m hm with h|rfl
  ·rw[b1 h]at hb;rcases mem b hk with jc|rfl
   ·rw[h1 h,h1 jc];exact K.lt m h b hb jc
   ·obtain⟨j,hj,rfl⟩:=gn.mp h;exact absurd rfl (F5 (by omega) hb)
  ·rw[b2]at hb;have hs:=sp.mem_iff.mp hb;rw[h2,h1 (sub b hs)];have:=z6 (aQ.mpr ⟨b,hs,rfl⟩:H b∈so.map H);omega
 ·rcases mem m hm with h|rfl
  ·rw[h1 h,b1 h];rcases K.ex m h with e|⟨b,e1,e2,e3⟩
   ·exact .inl e
   ·exact .inr ⟨b,e1,jf _ e2,by rw[h1 e2];exact e3⟩
  ·rw[h2,b2];rcases t8 (so.map H)with e|e
   ·rw[e];exact .inl rfl
   ·obtain⟨b,hb,q⟩:=aQ.mp e;exact .inr ⟨b,sp.mem_iff.mpr hb,jf _ (sub b hb),by rw[h1 (sub b hb)];omega⟩
 ·rcases mem m hm with h|rfl
  ·rw[h1 h];exact K.top m h
  ·rw[h2];rcases t8 (so.map H)with e|e
   ·rw[e];show 1+0<=50;omega
   ·obtain⟨b,hb,q⟩:=aQ.mp e;have:=SU b (sub b hb);omega
theorem SV(hn:n<=9):(aO (oU H (k,50) so) (marks c n++[(k,50)])).filter (fun m=>!decide (m=(k,50)))=aO H (marks c n):=by
 have out:=yE (c:=c) (k:=k) hn;have p1:(aO (oU H (k,50) so) (marks c n++[(k,50)])).Perm (marks c n++[(k,50)]):=cJ _ _;have f1:(marks c n++[((k,50):Mk)]).filter (fun m=>!decide (m=(k,50)))=marks c n:=by
  rw[List.filter_append,List.filter_eq_self.mpr fun m hm=>?_]
  ·have:[((k,50):Mk)].filter (fun m=>!decide (m=(k,50)))=[]:=by simp
   rw[this,dw]
  ·have:¬m=(k,50):=fun e=>out (e▸hm);simp[this]
 have pp:((aO (oU H (k,50) so) (marks c n++[(k,50)])).filter (fun m=>!decide (m=(k,50)))).Perm (marks c n):=by
  have:=p1.filter (fun m=>!decide (m=((k,50):Mk)));rw[f1]at this;exact this
 refine j3 (le:=fun a b=>u4 H a b=true) (fun a b _ _ h1 h2=>yz (gL h1 h2)) ?_ (rN _) (pp.trans (cJ (marks c n) _).symm)
 have q:=(rN (H:=oU H (k,50) so) (marks c n++[(k,50)])).sublist (List.filter_sublist (p:=fun m=>!decide (m=((k,50):Mk))));refine List.Pairwise.imp_of_mem (fun{a b} ha hb e=>?_) q;have ea:a≠(k,50):=by
  have:=(bR.mp ha).2;simpa using this
 have eb:b≠(k,50):=by
  have:=(bR.mp hb).2;simpa using this
 have ta:tP (oU H (k,50) so) a=tP H a:=by unfold tP oU;rw[ae ea]
 have tb:tP (oU H (k,50) so) b=tP H b:=by unfold tP oU;rw[ae eb]
 unfold u4 at e⊢;rw[ta,tb]at e;exact e
theorem F6(hn:n<=9):fc (.tup ((marks c n).map (bZ c))) (.tup [.tup [tM (k,50),.tup ((so.mergeSort rE).map tM)]])=.ok (oC (marks c n++[(k,50)]) (BE c (k,50) so)):=by
 have out:=yE (c:=c) (k:=k) hn;show(if((marks c n).map (bZ c)).length+1<=i3 then Rs.ok (Tr.tup ((marks c n).map (bZ c)++[.tup [tM (k,50),.tup ((so.mergeSort rE).map tM)]]))else .bad)=_;rw[ab (by rw[ai,cU];unfold i3;omega)];unfold oC;rw[cY];congr 2;congr 1
 ·refine eD fun m hm=>?_
  have:m≠(k,50):=fun e=>out (e▸hm);show Tr.tup [tM m,tB (la c) m]=Tr.tup [tM m,tB (BE c (k,50) so) m];unfold tB BE;rw[ae this]
 ·show[Tr.tup [tM (k,50),.tup ((so.mergeSort rE).map tM)]]=[Tr.tup [tM (k,50),tB (BE c (k,50) so) (k,50)]];unfold tB BE;rw[ab rfl]
end
end mJ
namespace mJ
open PySem L2
def fin(ρ:az)(r:Rz Bool):Rz Out:=AU r (fun A=>kQ (aq (Rs.ok (Tr.bl false)) A)) fun A=>Rz.ok (Out.nx ρ) A
def OH(ρ:az):Rs Tr:=aI fX (ag (cq fc (aI dM (ag (ay ρ 0) (ag (ay ρ 1) (Rs.ok [])))) (ay ρ 1)) (ag (Rs.ok (Tr.int 9)) (Rs.ok [])))
def SW(ρ:az)(A:Ab):Rz Tr:=(bX (aq (aI cR (ag (ay ρ 2) (Rs.ok []))) A) fun A=>Rz.ok [] A).bind fI
def PR(ρ:az):Rs Bool:=gk (cq mU (aI dr (ag (ay ρ 3) (Rs.ok []))) (aI dr (ag (gX [none,none] (gT [0,1]) (fun _=>Rs.ok true) (fun ρ=>ay ρ 0) (iD (ay ρ 2)) ρ) (Rs.ok []))))
def PU:az->Ab->Rz Out:=fun ρ A=>fin ρ (yb (ya ((bX ((bX (aq (aI gm (ag (ay ρ 2) (ag (cq fc (aI dM (ag (ay ρ 0) (ag (cq fc (Rs.ok (Tr.int 3)) (ay ρ 4)) (Rs.ok [])))) (ay ρ 1)) (Rs.ok [])))) A) fun A=>Rz.ok [] A).bind fI) fun A=>bX (aq (ay ρ 3) A) fun A=>Rz.ok [] A).bind fun ts A=>aq (dt 5 ts) A)))
def SX(ρ:az):Rs Bool:=(gX [none,some 5,some 3] (gN 0) (fun ρ=>EO (gk (cq Oo (ay ρ 0) (ay ρ 2))) (gk (cq KH (DQ (ay ρ 2) (ay ρ 0)) (DQ (ay ρ 2) (ay ρ 1))))) (fun ρ=>ay ρ 0) (iD (ay ρ 6)) ρ).bind m5
def OI:az->Ab->Rz Out:=fun ρ A=>fin ρ (aq (SX ρ) A)
def PV(ρ:az):Rs Tr:=aI cR (ag (gX [none,some 0] (gN 0) (fun ρ=>gk (cq rR (aI br (ag (cq fc (aI dM (ag (ay ρ 1) (ag (Rs.ok (Tr.int 6)) (Rs.ok [])))) (cq Ec (ay ρ 0) (Rs.ok (Tr.int 1)))) (ag (Rs.ok (Tr.int 9521)) (ag (Rs.ok (Tr.int 2)) (Rs.ok []))))) (Rs.ok (Tr.int 0)))) (fun ρ=>ay ρ 0) (iD (ay ρ 3)) ρ) (Rs.ok []))
def PX(ρ:az):Rs Tr:=iW (ag (iW (ag (ay ρ 1) (ag (Rs.ok (Tr.int 50)) (Rs.ok [])))) (ag (aI cR (ag (aI dr (ag (ay ρ 7) (Rs.ok []))) (Rs.ok []))) (Rs.ok [])))
def PY(ρ:az):Rs Tr:=cq fc (aI cR (ag (ay ρ 2) (Rs.ok []))) (iW (ag (ay ρ 8) (Rs.ok [])))
def Xa(ρ:az)(A:Ab):Rz Tr:=(bX (aq (PY ρ) A) fun A=>Rz.ok [] A).bind fI
def PZ(ρ:az):Rs Bool:=gk (cq mU (aI cR (ag (gX [none,some 8] (gN 0) (fun ρ=>gk (cq mU (ay ρ 0) (cq Ec (ay ρ 1) (Rs.ok (Tr.int 0))))) (fun ρ=>ay ρ 0) (iD (ay ρ 9)) ρ) (Rs.ok []))) (ay ρ 3))
def P0(ρ:az):Rs Tr:=(gX [none,some 2] (gN 0) (fun _=>Rs.ok true) (fun ρ=>aI gP (ag (aI cR (ag (ay ρ 1) (Rs.ok []))) (ag (ay ρ 0) (Rs.ok [])))) (iD (ay ρ 7)) ρ).bind fun a=>(Rs.ok (Tr.int 0)).bind fun b=>wQ a b
def P4(ρ:az):Rs Bool:=gk (cq mU (aI gP (ag (PY ρ) (ag (cq Ec (ay ρ 8) (Rs.ok (Tr.int 0))) (Rs.ok [])))) (cq fc (Rs.ok (Tr.int 1)) (ay ρ 10)))
def P5:az->Ab->Rz Out:=fun ρ A=>bw (cy 2 (aq (OH ρ) A) ρ) fun ρ A=>bw (cy 3 (SW ρ A) ρ) fun ρ A=>bw (fin ρ (aq (PR ρ) A)) fun ρ A=>bw (i8 (gN 4) PU (aq (nQ (ag (Rs.ok (Tr.int 3)) (Rs.ok []))) A) ρ) fun ρ A=>bw (i8 (gT [5,6]) OI (aq (iD (ay ρ 2)) A) ρ) fun ρ A=>bw (cy 7 (aq (PV ρ) A) ρ) fun ρ A=>bw (cy 8 (aq (PX ρ) A) ρ) fun ρ A=>bw (cy 9 (Xa ρ A) ρ) fun ρ A=>bw (fin ρ (aq (PZ ρ) A)) fun ρ A=>bw (cy 10 (aq (P0 ρ) A) ρ) fun ρ A=>fin ρ (aq (P4 ρ) A)
def Xb:az->Ab->Rz Out:=fun ρ A=>bw (i8 (gN 1) P5 (aq (nQ (ag (Rs.ok (Tr.int 3)) (Rs.ok []))) A) ρ) fun ρ A=>kQ (aq (Rs.ok (Tr.bl true)) A)
theorem Ke:zO.1=Xb:=rfl
theorem Hf{α:Type}{f g:α->Tr}{F:az->Rs Tr}{xs:List Cell}:∀(l:List α) (c:Cell),(∀a∈l,F (.sh (f a)::xs)=.ok (g a))->k_ (gN 0) (fun _=>.ok true) F (l.map f) (c::xs)=.ok (l.map g)
 |[],c,_=>rfl
 |a::l,c,h=>by
  rw[aA,k_];show(EU (F (.sh (f a)::xs))).bind (fun y=>(k_ (gN 0) (fun _=>.ok true) F (l.map f) (.sh (f a)::xs)).bind fun ys=>.ok (y::ys))=_;rw[h a (aM ..),Hf l _ fun b hb=>h b (aW _ hb)]
  rfl
theorem D7{u:Mk->Tr}{g:Mk->Tr}{F:az->Rs Tr}{xs:List Cell}:∀(l:List Mk) (c d:Cell),(∀a∈l,F (.sh (tM a):: .sh (u a)::xs)=.ok (g a))->k_ (gT [0,1]) (fun _=>.ok true) F (l.map fun a=>.tup [tM a,u a]) (c::d::xs)=.ok (l.map g)
 |[],c,d,_=>rfl
 |a::l,c,d,h=>by
  rw[aA,k_];show(EU (F (.sh (tM a):: .sh (u a)::xs))).bind (fun y=>(k_ (gT [0,1]) (fun _=>.ok true) F (l.map fun a=>.tup [tM a,u a]) (.sh (tM a):: .sh (u a)::xs)).bind fun ys=>.ok (y::ys))=_;rw[h a (aM ..),D7 l _ _ fun b hb=>h b (aW _ hb)]
  rfl
def rK(ns:List Int)(k:Int)(ms:List Mk)(c:Int)(tl:List Mk)(c4 c5 c6 c7 c8 c9 c10:Cell):az:=[.sh (.jd ns),.sh (.int k),.sh (.lst (ms.map (bZ c))),.sh (.tup (tl.map tM)),c4,c5,c6,c7,c8,c9,c10]
section
variable {ns:List Int}{k c:Int}{n:Nat}{H:Mk->Nat}{c4 c5 c6 c7 c8 c9 c10:Cell}
theorem Kf(K:oS (marks c n) (la c) H):PR (rK ns k (marks c n) c (aO H (marks c n)) c4 c5 c6 c7 c8 c9 c10)=.ok false:=by
 have p:(aO H (marks c n)).Perm (marks c n):=cJ _ _;have kl:=K.len;unfold PR;have e1:aI dr (ag (ay (rK ns k (marks c n) c (aO H (marks c n)) c4 c5 c6 c7 c8 c9 c10) 3) (Rs.ok []))=.ok (.lst (((marks c n).mergeSort rE).map tM)):=by
  show dr [.tup ((aO H (marks c n)).map tM)]=_;rw[va (p.nodup_iff.mpr K.nd) (by rw[p.length_eq];exact kl),D3 p]
 have e2:gX [none,none] (gT [0,1]) (fun _=>Rs.ok true) (fun ρ=>ay ρ 0) (iD (ay (rK ns k (marks c n) c (aO H (marks c n)) c4 c5 c6 c7 c8 c9 c10) 2)) (rK ns k (marks c n) c (aO H (marks c n)) c4 c5 c6 c7 c8 c9 c10)=.ok (.lst ((marks c n).map tM)):=by
  show(if((marks c n).map (bZ c)).length<=i3 then(k_ (gT [0,1]) _ _ ((marks c n).map fun m=>.tup [tM m,tB (la c) m]) [.no,.no]).bind fun ys=>Rs.ok (Tr.lst ys)else .bad)=_;rw[ab (by rw[ai];unfold i3;omega),D7 (g:=tM) (marks c n) .no .no fun m hm=>rfl]
  rfl
 rw[e1,e2];show gk (cq mU _ (dr [.lst ((marks c n).map tM)]))=_;rw[F4 K.nd kl];show gk (mU _ _)=_;rw[Kb]
 rfl
theorem yF(K:oS (marks c n) (la c) H)(t:Int)(ht:0<=t):PU (rK ns k (marks c n) c (aO H (marks c n)) (.sh (.int t)) c5 c6 c7 c8 c9 c10) TB=.ok (.nx (rK ns k (marks c n) c (aO H (marks c n)) (.sh (.int t)) c5 c6 c7 c8 c9 c10)) TB:=by
 obtain⟨y,ey⟩:=yB ns (3+t) (by omega);obtain⟨ks,em,p⟩:=F2 c (y+k) (ms:=marks c n) K.len;have ol:(aO H (marks c n)).length<=1000:=by rw[xi];have:=K.len;omega
 unfold PU;show fin _ (yb (ya ((bX ((bX (aq (aI gm (ag (.ok (.lst ((marks c n).map (bZ c)))) (ag (cq fc (dM [.jd ns,.int (3+t)]) (.ok (.int k))) (Rs.ok [])))) TB) fun A=>Rz.ok [] A).bind fI) fun A=>bX (aq (.ok (.tup ((aO H (marks c n)).map tM))) A) fun A=>Rz.ok [] A).bind fun ts A=>aq (dt 5 ts) A)))=_;rw[ey];show fin _ (yb (ya ((bX ((bX (aq (gm [.lst ((marks c n).map (bZ c)),.int (y+k)]) TB) fun A=>Rz.ok [] A).bind fI) fun A=>bX (aq (.ok (.tup ((aO H (marks c n)).map tM))) A) fun A=>Rz.ok [] A).bind fun ts A=>aq (dt 5 ts) A)))=_;rw[em];show fin _ (yb (ya ((bX (fI [oC ks (la c)] TB) fun A=>bX (aq (.ok (.tup ((aO H (marks c n)).map tM))) A) fun A=>Rz.ok [] A).bind fun ts A=>aq (dt 5 ts) A)))=_;rw[u5 (K.perm p),t7 p];show fin _ (yb (ya (aq (dt 5 [.tup ((aO H (marks c n)).map tM),.tup ((aO H (marks c n)).map tM)]) TB)))=_;have s:dt 5 [.tup ((aO H (marks c n)).map tM),.tup ((aO H (marks c n)).map tM)]=.ok (.bl true):=yy 2 ol;rw[s]
 rfl
theorem Kg(K:oS (marks c n) (la c) H){m:Mk}(hm:m∈marks c n):SX (rK ns k (marks c n) c (aO H (marks c n)) c4 (.sh (tM m)) (.sh (tB (la c) m)) c7 c8 c9 c10)=.ok false:=by
 have p:(aO H (marks c n)).Perm (marks c n):=cJ _ _;have bl:=K.FX m hm;unfold SX;show(gX [none,some 5,some 3] (gN 0) _ _ (.ok ((la c m).map tM)) _).bind m5=_;rw[j2 (by omega)];show((k_ (gN 0) _ _ ((la c m).map tM) [.no,.sh (tM m),.sh (.tup ((aO H (marks c n)).map tM))]).bind _).bind m5=_;rw[He (P:=fun _=>false) (f:=tM) (la c m) .no (fun b hb=>?_) (fun _ _ q=>by cases q)]
 ·rw[pf.mpr fun _ _ q=>by cases q]
  rfl
 ·show EO (gk (Oo (tM b) (.tup ((aO H (marks c n)).map tM)))) (gk (cq KH (wU ((aO H (marks c n)).map tM) (tM b)) (wU ((aO H (marks c n)).map tM) (tM m))))=_;rw[D5];by_cases q:b∈aO H (marks c n)
  ·rw[bA q];obtain⟨i,ei,hi⟩:=t_ q;obtain⟨j,ej,hj⟩:=t_ (p.mem_iff.mpr hm);rw[ei,ej];have:=Kd hi hj (K.lt m hm b hb (p.mem_iff.mp q));show Rs.ok (decide ((j:Int)<(i:Int)))=_;rw[aY (by omega)]
  ·rw[aY q]
   rfl
theorem Aa(K:oS (marks c n) (la c) H):∀(ms:List Mk) (c5 c6:Cell),(∀m∈ms,m∈marks c n)->
  ∃d5 d6,iY (gT [5,6]) OI (ms.map fun m=>.tup [tM m,tB (la c) m]) (rK ns k (marks c n) c (aO H (marks c n)) c4 c5 c6 c7 c8 c9 c10) TB=.ok (.nx (rK ns k (marks c n) c (aO H (marks c n)) c4 d5 d6 c7 c8 c9 c10)) TB
 |[],c5,c6,_=>⟨c5,c6,rfl⟩
 |m::ms,c5,c6,h=>by
  obtain⟨d5,d6,e⟩:=Aa K ms (.sh (tM m)) (.sh (tB (la c) m)) fun x hx=>h x (aW _ hx);refine⟨d5,d6,?_⟩;have e1:OI (rK ns k (marks c n) c (aO H (marks c n)) c4 (.sh (tM m)) (.sh (tB (la c) m)) c7 c8 c9 c10) TB=.ok (.nx (rK ns k (marks c n) c (aO H (marks c n)) c4 (.sh (tM m)) (.sh (tB (la c) m)) c7 c8 c9 c10)) TB:=by
   unfold OI;rw[Kg K (h m (aM ..))]
   rfl
  rw[aA,rm (ρ1:=rK ns k (marks c n) c (aO H (marks c n)) c4 (.sh (tM m)) (.sh (tB (la c) m)) c7 c8 c9 c10) rfl e1];exact e
def nZ(y:Int)(tl:List Mk):List Mk:=tl.filter fun m=>mix (y+m.2) 9521 2==0
theorem Kh{tl:List Mk}(hl:tl.length<=20){y:Int}(ey:dM [.jd ns,.int 6]=.ok (.int y)){ms:List Mk}:PV (rK ns k ms c tl c4 c5 c6 c7 c8 c9 c10)=.ok (.tup ((nZ y tl).map tM)):=by
 unfold PV;have e:gX [none,some 0] (gN 0) (fun ρ=>gk (cq rR (aI br (ag (cq fc (aI dM (ag (ay ρ 1) (ag (Rs.ok (Tr.int 6)) (Rs.ok [])))) (cq Ec (ay ρ 0) (Rs.ok (Tr.int 1)))) (ag (Rs.ok (Tr.int 9521)) (ag (Rs.ok (Tr.int 2)) (Rs.ok []))))) (Rs.ok (Tr.int 0)))) (fun ρ=>ay ρ 0) (iD (ay (rK ns k ms c tl c4 c5 c6 c7 c8 c9 c10) 3)) (rK ns k ms c tl c4 c5 c6 c7 c8 c9 c10)=.ok (.lst ((nZ y tl).map tM)):=by
  show gX [none,some 0] (gN 0) _ _ (.ok (tl.map tM)) _=_;rw[j2 (by omega)];show(k_ (gN 0) _ _ (tl.map tM) [.no,.sh (.jd ns)]).bind _=_;rw[He (P:=fun m=>mix (y+m.2) 9521 2==0) (f:=tM) tl .no (fun m hm=>?_) (fun _ _ _=>rfl)]
  ·rfl
  ·show gk (cq rR (aI br (ag (cq fc (dM [.jd ns,.int 6]) (.ok (.int m.2))) (ag (Rs.ok (Tr.int 9521)) (ag (Rs.ok (Tr.int 2)) (Rs.ok []))))) (Rs.ok (Tr.int 0)))=_;rw[ey];show gk (cq rR (br [.int (y+m.2),.int 9521,.int 2]) (Rs.ok (Tr.int 0)))=_;rw[nY _ _ _ (by decide) (by decide) (by decide)];show gk (rR (.int _) (Tr.int 0))=_;rw[K9]
   rfl
 rw[e]
 rfl
end
end mJ
namespace mJ
open PySem L2
section
variable {ns:List Int}{k c:Int}{n:Nat}{H:Mk->Nat}{c4 c5 c6 c7 c8 c9 c10:Cell}{so tl:List Mk}
def tN(k:Int)(so:List Mk):Tr:=.tup [tM (k,50),.tup ((so.mergeSort rE).map tM)]
theorem Ki(nd:so.Nodup)(hl:so.length<=20){ms:List Mk}:PX (rK ns k ms c tl c4 c5 c6 (.sh (.tup (so.map tM))) c8 c9 c10)=.ok (tN k so):=by
 unfold PX;show iW (ag (.ok (tM (k,50))) (ag (aI cR (ag (dr [.tup (so.map tM)]) (Rs.ok []))) (Rs.ok [])))=_;rw[va nd hl]
 rfl
theorem D8(hn:n<=9):PY (rK ns k (marks c n) c tl c4 c5 c6 c7 (.sh (tN k so)) c9 c10)=.ok (oC (marks c n++[(k,50)]) (BE c (k,50) so)):=F6 hn
theorem Kj(hn:n<=9):PZ (rK ns k (marks c n) c (aO H (marks c n)) c4 c5 c6 c7 (.sh (tN k so)) (.sh (.tup ((aO (oU H (k,50) so) (marks c n++[(k,50)])).map tM))) c10)=.ok false:=by
 have ol:(aO (oU H (k,50) so) (marks c n++[(k,50)])).length<=1000:=by
  rw[xi,bj,cU];show n+1<=1000;omega
 unfold PZ;have e:gX [none,some 8] (gN 0) (fun ρ=>gk (cq mU (ay ρ 0) (cq Ec (ay ρ 1) (Rs.ok (Tr.int 0))))) (fun ρ=>ay ρ 0) (iD (ay (rK ns k (marks c n) c (aO H (marks c n)) c4 c5 c6 c7 (.sh (tN k so)) (.sh (.tup ((aO (oU H (k,50) so) (marks c n++[(k,50)])).map tM))) c10) 9)) (rK ns k (marks c n) c (aO H (marks c n)) c4 c5 c6 c7 (.sh (tN k so)) (.sh (.tup ((aO (oU H (k,50) so) (marks c n++[(k,50)])).map tM))) c10)=.ok (.lst ((aO H (marks c n)).map tM)):=by
  show gX [none,some 8] (gN 0) _ _ (.ok ((aO (oU H (k,50) so) (marks c n++[(k,50)])).map tM)) _=_;rw[j2 ol];show(k_ (gN 0) _ _ ((aO (oU H (k,50) so) (marks c n++[(k,50)])).map tM) [.no,.sh (tN k so)]).bind _=_;rw[He (P:=fun m=>!decide (m=(k,50))) (f:=tM) _ .no (fun m hm=>?_) (fun _ _ _=>rfl),SV hn]
  ·rfl
  ·show gk (mU (tM m) (tM (k,50)))=_;rw[F3]
   rfl
 rw[e];show gk (mU (.tup ((aO H (marks c n)).map tM)) (.tup ((aO H (marks c n)).map tM)))=_;rw[Ka]
 rfl
theorem Kk(so:List Mk):(gO none (so.map fun m=>(H m:Int))).getD 0=(u9 (so.map H):Nat):=by
 refine J2 (fun i hi=>?_) ?_
 ·obtain⟨m,hm,rfl⟩:=aQ.mp hi;have:=z6 (aQ.mpr ⟨m,hm,rfl⟩:H m∈so.map H);omega
 ·rcases t8 (so.map H)with e|e
  ·have:so=[]:=List.map_eq_nil_iff.mp e;subst this;exact .inl ⟨rfl,rfl⟩
  ·obtain⟨m,hm,q⟩:=aQ.mp e;exact .inr (aQ.mpr ⟨m,hm,by rw[q]⟩)
theorem Kl(K:oS (marks c n) (la c) H)(sub:∀m∈so,m∈marks c n)(hl:so.length<=20):P0 (rK ns k (marks c n) c tl c4 c5 c6 (.sh (.tup (so.map tM))) c8 c9 c10)=.ok (.int (u9 (so.map H):Nat)):=by
 unfold P0;have e:gX [none,some 2] (gN 0) (fun _=>Rs.ok true) (fun ρ=>aI gP (ag (aI cR (ag (ay ρ 1) (Rs.ok []))) (ag (ay ρ 0) (Rs.ok [])))) (iD (ay (rK ns k (marks c n) c tl c4 c5 c6 (.sh (.tup (so.map tM))) c8 c9 c10) 7)) (rK ns k (marks c n) c tl c4 c5 c6 (.sh (.tup (so.map tM))) c8 c9 c10)=.ok (.lst (so.map fun m=>.int (H m:Int))):=by
  show gX [none,some 2] (gN 0) _ _ (.ok (so.map tM)) _=_;rw[j2 (by omega)];show(k_ (gN 0) _ _ (so.map tM) [.no,.sh (.lst ((marks c n).map (bZ c)))]).bind _=_;rw[Hf (f:=tM) (g:=fun m=>.int (H m:Int)) so .no fun m hm=>?_]
  ·rfl
  ·show gP [oC (marks c n) (la c),tM m]=_;exact xf K (sub m hm)
 rw[e];show(match jR (so.map fun m=>.int (H m:Int))with
  |some ns=>Rs.ok (Tr.int ((gO none ns).getD 0))
  |none=>.bad)=_
 rw[t6 fun m=>(H m:Int)];show Rs.ok (Tr.int ((gO none (so.map fun m=>(H m:Int))).getD 0))=_;rw[Kk]
theorem Km(hn:n<=9)(K':oS (marks c n++[(k,50)]) (BE c (k,50) so) (oU H (k,50) so)):P4 (rK ns k (marks c n) c tl c4 c5 c6 c7 (.sh (tN k so)) c9 (.sh (.int (u9 (so.map H):Nat))))=.ok false:=by
 unfold P4;rw[D8 hn];show gk (cq mU (gP [oC (marks c n++[(k,50)]) (BE c (k,50) so),tM (k,50)]) (.ok (.int (1+(u9 (so.map H):Nat)))))=_;rw[xf K' (eB _ (cn.mpr rfl))];have e:((oU H (k,50) so (k,50):Nat):Int)=1+(u9 (so.map H):Nat):=by
  unfold oU;rw[ab rfl];omega
 rw[e];show gk (mU (.int _) (.int _))=_;rw[ne_int]
 rfl
end
theorem yG(ns:List Int)(k:Int)(hk:0<=k){c2 c3 c4 c5 c6 c7 c8 c9 c10:Cell}:∃d2 d3 d4 d5 d6 d7 d8 d9 Xc,P5 [.sh (.jd ns),.sh (.int k),c2,c3,c4,c5,c6,c7,c8,c9,c10] TB=.ok (.nx [.sh (.jd ns),.sh (.int k),d2,d3,d4,d5,d6,d7,d8,d9,Xc]) TB:=by
 obtain⟨x,ex⟩:=yB ns k hk;obtain⟨y,ey⟩:=yB ns 6 (by decide);obtain⟨n,hn,el⟩:=By (x+k);obtain⟨H,K,SU⟩:=bN hn (List.Perm.refl (marks (x+k) n));have kl:=K.len;have pt:(aO H (marks (x+k) n)).Perm (marks (x+k) n):=cJ _ _;have OJ:(aO H (marks (x+k) n)).length<=20:=by rw[pt.length_eq];exact kl
 have D6:(nZ y (aO H (marks (x+k) n))).Nodup:=dG (pt.nodup_iff.mpr K.nd);have sub:∀m∈nZ y (aO H (marks (x+k) n)),m∈marks (x+k) n:=fun m hm=>pt.mem_iff.mp (bR.mp hm).1;have sl:(nZ y (aO H (marks (x+k) n))).length<=20:=bt (je _ _) OJ;have K':=SS (k:=k) hn K SU D6 sub;have e1:OH [.sh (.jd ns),.sh (.int k),c2,c3,c4,c5,c6,c7,c8,c9,c10]=.ok (.lst ((marks (x+k) n).map (bZ (x+k)))):=by
  show aI fX (ag (cq fc (dM [.jd ns,.int k]) (.ok (.int k))) (ag (Rs.ok (Tr.int 9)) (Rs.ok [])))=_;rw[ex];exact el
 have e2:SW [.sh (.jd ns),.sh (.int k),.sh (.lst ((marks (x+k) n).map (bZ (x+k)))),c3,c4,c5,c6,c7,c8,c9,c10] TB=.ok (.tup ((aO H (marks (x+k) n)).map tM)) TB:=u5 K;obtain⟨d5,d6,e5⟩:=Aa (ns:=ns) (k:=k) (c4:=.sh (.int 2)) (c7:=c7) (c8:=c8) (c9:=c9) (c10:=c10) K (marks (x+k) n) c5 c6 fun _ h=>h;refine⟨.sh (.lst ((marks (x+k) n).map (bZ (x+k)))),.sh (.tup ((aO H (marks (x+k) n)).map tM)),.sh (.int 2),d5,d6,.sh (.tup ((nZ y (aO H (marks (x+k) n))).map tM)),.sh (tN k (nZ y (aO H (marks (x+k) n)))),.sh (.tup ((aO (oU H (k,50) (nZ y (aO H (marks (x+k) n)))) (marks (x+k) n++[(k,50)])).map tM)),.sh (.int (u9 ((nZ y (aO H (marks (x+k) n))).map H):Nat)),?_⟩;unfold P5;rw[e1];show bw (cy 3 (SW [.sh (.jd ns),.sh (.int k),.sh (.lst ((marks (x+k) n).map (bZ (x+k)))),c3,c4,c5,c6,c7,c8,c9,c10] TB) [.sh (.jd ns),.sh (.int k),.sh (.lst ((marks (x+k) n).map (bZ (x+k)))),c3,c4,c5,c6,c7,c8,c9,c10]) _=_;rw[e2];show bw (fin _ (aq (PR (rK ns k (marks (x+k) n) (x+k) (aO H (marks (x+k) n)) c4 c5 c6 c7 c8 c9 c10)) TB)) _=_;rw[Kf K];show bw (iY (gN 4) PU [.int 0,.int 1,.int 2] (rK ns k (marks (x+k) n) (x+k) (aO H (marks (x+k) n)) c4 c5 c6 c7 c8 c9 c10) TB) _=_;rw[rm (ρ1:=rK ns k (marks (x+k) n) (x+k) (aO H (marks (x+k) n)) (.sh (.int 0)) c5 c6 c7 c8 c9 c10) rfl (yF K 0 (by decide)),rm (ρ1:=rK ns k (marks (x+k) n) (x+k) (aO H (marks (x+k) n)) (.sh (.int 1)) c5 c6 c7 c8 c9 c10) rfl (yF K 1 (by decide)),rm (ρ1:=rK ns k (marks (x+k) n) (x+k) (aO H (marks (x+k) n)) (.sh (.int 2)) c5 c6 c7 c8 c9 c10) rfl (yF K 2 (by decide))];show bw (iY (gT [5,6]) OI ((marks (x+k) n).map fun m=>.tup [tM m,tB (la (x+k)) m]) (rK ns k (marks (x+k) n) (x+k) (aO H (marks (x+k) n)) (.sh (.int 2)) c5 c6 c7 c8 c9 c10) TB) _=_;rw[e5];show bw (cy 7 (aq (PV (rK ns k (marks (x+k) n) (x+k) (aO H (marks (x+k) n)) (.sh (.int 2)) d5 d6 c7 c8 c9 c10)) TB) (rK ns k (marks (x+k) n) (x+k) (aO H (marks (x+k) n)) (.sh (.int 2)) d5 d6 c7 c8 c9 c10)) _=_;rw[Kh OJ ey];show bw (cy 8 (aq (PX (rK ns k (marks (x+k) n) (x+k) (aO H (marks (x+k) n)) (.sh (.int 2)) d5 d6 (.sh (.tup ((nZ y (aO H (marks (x+k) n))).map tM))) c8 c9 c10)) TB) (rK ns k (marks (x+k) n) (x+k) (aO H (marks (x+k) n)) (.sh (.int 2)) d5 d6 (.sh (.tup ((nZ y (aO H (marks (x+k) n))).map tM))) c8 c9 c10)) _=_;rw[Ki D6 sl];show bw (cy 9 ((bX (aq (PY (rK ns k (marks (x+k) n) (x+k) (aO H (marks (x+k) n)) (.sh (.int 2)) d5 d6 (.sh (.tup ((nZ y (aO H (marks (x+k) n))).map tM))) (.sh (tN k (nZ y (aO H (marks (x+k) n))))) c9 c10)) TB) fun A=>Rz.ok [] A).bind fI) (rK ns k (marks (x+k) n) (x+k) (aO H (marks (x+k) n)) (.sh (.int 2)) d5 d6 (.sh (.tup ((nZ y (aO H (marks (x+k) n))).map tM))) (.sh (tN k (nZ y (aO H (marks (x+k) n))))) c9 c10)) _=_;rw[D8 hn];show bw (cy 9 (fI [oC (marks (x+k) n++[(k,50)]) (BE (x+k) (k,50) (nZ y (aO H (marks (x+k) n))))] TB) _) _=_;rw[u5 K'];show bw (fin _ (aq (PZ (rK ns k (marks (x+k) n) (x+k) (aO H (marks (x+k) n)) (.sh (.int 2)) d5 d6 (.sh (.tup ((nZ y (aO H (marks (x+k) n))).map tM))) (.sh (tN k (nZ y (aO H (marks (x+k) n))))) (.sh (.tup ((aO (oU H (k,50) (nZ y (aO H (marks (x+k) n)))) (marks (x+k) n++[(k,50)])).map tM))) c10)) TB)) _=_;rw[Kj hn];show bw (cy 10 (aq (P0 (rK ns k (marks (x+k) n) (x+k) (aO H (marks (x+k) n)) (.sh (.int 2)) d5 d6 (.sh (.tup ((nZ y (aO H (marks (x+k) n))).map tM))) (.sh (tN k (nZ y (aO H (marks (x+k) n))))) (.sh (.tup ((aO (oU H (k,50) (nZ y (aO H (marks (x+k) n)))) (marks (x+k) n++[(k,50)])).map tM))) c10)) TB) _) _=_;rw[Kl K sub sl];show fin _ (aq (P4 (rK ns k (marks (x+k) n) (x+k) (aO H (marks (x+k) n)) (.sh (.int 2)) d5 d6 (.sh (.tup ((nZ y (aO H (marks (x+k) n))).map tM))) (.sh (tN k (nZ y (aO H (marks (x+k) n))))) (.sh (.tup ((aO (oU H (k,50) (nZ y (aO H (marks (x+k) n)))) (marks (x+k) n++[(k,50)])).map tM))) (.sh (.int (u9 ((nZ y (aO H (marks (x+k) n))).map H):Nat))))) TB)=_;rw[Km hn K']
 rfl
theorem OK(ns:List Int):tW [.jd ns] TB=.ok (.bl true) TB:=by
 obtain⟨a2,a3,a4,a5,a6,a7,a8,a9,PO,e0⟩:=yG ns 0 (by decide) (c2:=.no) (c3:=.no) (c4:=.no) (c5:=.no) (c6:=.no) (c7:=.no) (c8:=.no) (c9:=.no) (c10:=.no);obtain⟨b2,b3,b4,b5,b6,b7,b8,b9,Uu,e1⟩:=yG ns 1 (by decide) (c2:=a2) (c3:=a3) (c4:=a4) (c5:=a5) (c6:=a6) (c7:=a7) (c8:=a8) (c9:=a9) (c10:=PO);obtain⟨c2,c3,c4,c5,c6,c7,c8,c9,c10,e2⟩:=yG ns 2 (by decide) (c2:=b2) (c3:=b3) (c4:=b4) (c5:=b5) (c6:=b6) (c7:=b7) (c8:=b8) (c9:=b9) (c10:=Uu);show g0 (zO.1 [.sh (.jd ns),.no,.no,.no,.no,.no,.no,.no,.no,.no,.no] TB)=_;rw[Ke];show g0 (bw (iY (gN 1) P5 [.int 0,.int 1,.int 2] [.sh (.jd ns),.no,.no,.no,.no,.no,.no,.no,.no,.no,.no] TB) fun ρ A=>kQ (aq (Rs.ok (Tr.bl true)) A))=_;rw[rm (ρ1:=[.sh (.jd ns),.sh (.int 0),.no,.no,.no,.no,.no,.no,.no,.no,.no]) rfl e0,rm (ρ1:=[.sh (.jd ns),.sh (.int 1),a2,a3,a4,a5,a6,a7,a8,a9,PO]) rfl e1,rm (ρ1:=[.sh (.jd ns),.sh (.int 2),b2,b3,b4,b5,b6,b7,b8,b9,Uu]) rfl e2]
 rfl
end mJ
namespace mJ
open PySem L2
def O:K7:=⟨["all","bool","dict","int","isinstance","len","list","max","range","set","sorted","str","tuple","zip"],[],[],[],[],[],[],[],[]⟩
set_option maxHeartbeats 8000000 in
theorem all_mk{l:PySem.W.OpenLaw}{w:World}{K:PySem.W.Frag}{h:Heap}{mg:Str->Option Value}{fa tc tP:Addr}(X:K.In h)(G:h.Ns mainGlobals mg)(Xd:mg "law"=some (.ref fa))
  (c1:DS.map (Df.fd K)=DS.map (fun d=>d.re (d.fd K))) (c2:DS.all (Df.Hb K)=true) (c3:O.Hb K=true) (t1:PySem.W.tabIn K "order"=some (tc,tP)) (t2:Br K tc tP=true)
  :∃fd:FuncData,(∀(s:Shared) (v:Value),BindsTo s fd ⟨[v],[]⟩ [("_law_script",v)])/\∀base:Heap,K.In base->base.Ns mainGlobals mg->fQ l.prog w K mg base (oM l.prog w) 14 fa fd ["_law_script"] (uG K tW):=by
 have o:=O.ok X G c3;have T:Hc K w mg tc tP:=⟨fun i d e=>DL X G c1 c2 d (bJ e),o.bl rfl,o.bl rfl,o.bl rfl,o.bl rfl,o.bl rfl,o.bl rfl,o.bl rfl,o.bl rfl,o.bl rfl,o.bl rfl,o.bl rfl,o.bl rfl,o.bl rfl,o.bl rfl,⟨t1,t2⟩⟩;cases Xd.symm.trans ((T.d 10 rfl:kC.Ok K mg).m0 rfl);obtain⟨oc,od,kV,doc,pm,an,cO,ct,yO,e9,_,_⟩:=(T.d 10 rfl:kC.Ok K mg).fn.ex;exact⟨_,fun s v=>by rw[e9];exact .of_eq rfl,fun base _ _=>(Ov T).ok⟩
theorem Kn{K:PySem.W.Frag}{H:Hp}{E:XK}{a tc tP:Addr}{ns:List Int}(t1:PySem.W.tabIn K "order"=some (tc,tP))(hT:H tP=some (.vb #[.str "order.<locals>.<lambda>" 0])) (hS:iw K H a (ns.map V.int)):uG K tW [.ref a] H (fun v _=>v=.bl true) E:=by
 let B:bQ:=⟨fun b=>b==tP,fun b=>if b=tP then some 0 else none⟩
 have zK:iw K (aN B H).H a (ns.map V.int):=by
  rcases hS with h|h
  ·refine .inl ?_
   have fb:a≠tP:=fun z=>by
    subst z;rcases h with h|⟨o,h⟩
    ·rw[hT]at h;cases h
    ·rw[hT]at h;cases h
   have e:(aN B H).H a=H a:=by
    show(if(a==tP)=true then none else H a)=_;rw[ae (by simpa using fb)]
   rcases h with h|⟨o,h⟩
   ·exact .inl (by rw[e];exact h)
   ·exact .inr ⟨o,by rw[e];exact h⟩
  ·exact .inr h
 refine⟨B,TB,[.jd ns],⟨fun b e=>?_,fun i o e=>?_,fun a b i h1 h2=>?_,fun a i h=>?_⟩,.cons (.jd zK) .nil,?_⟩
 ·have e:b=tP:=by simpa[B]using e
  subst e;exact⟨_,hT,fun vs z=>by cases z⟩
 ·match i,e with
  |0,e=>
   cases e;exact⟨tP,ab rfl,bz _,⟨tc,t1⟩,hT⟩
  |i+1,e=>cases e
 ·have h1:(if a=tP then some 0 else none)=some i:=h1;have h2:(if b=tP then some 0 else none)=some i:=h2;split at h1
  ·split at h2
   ·rename_i x y;rw[x,y]
   ·cases h2
  ·cases h1
 ·have h:(if a=tP then some 0 else none)=some i:=h;split at h
  ·cases h;exact Nat.zero_lt_one
  ·cases h
 ·rw[OK ns];exact fun v B' H' _ _ r=>r.ur
theorem walk{l:PySem.W.OpenLaw}{q:Program}{loose:List Str}{XP:(Str->Option Value)->Heap->Prop}{YP:World->Heap->Prop}{d:DefRec}{K:Params->PySem.W.Frag}{tc tP:Addr}(hn:l.most=some 63)(LR:d.params.defaults=[])
  (hY:∀(w:World) (h:Heap),YP w h->(K w.params).In h) (hP:∀(w:World) (h:Heap),YP w h->h.get? tP=some (PySem.W.tabObj #[])) (Ig:∀w:World,(K w.params).lookup tP=none) (t1:∀w:World,PySem.W.tabIn (K w.params) "order"=some (tc,tP)) (t2:∀w:World,Br (K w.params) tc tP=true)
  (F:∀(w:World) (mg:Str->Option Value) (fa:Addr) (h:Heap),(K w.params).In h->h.Ns mainGlobals mg->mg d.name=some (.ref fa)->
   ∃fd:FuncData,(∀(s:Shared) (u:Value),BindsTo s fd ⟨[u],[]⟩ [("_law_script",u)])/\∀base:Heap,(K w.params).In base->base.Ns mainGlobals mg->fQ l.prog w (K w.params) mg base (oM l.prog w) 14 fa fd ["_law_script"] (uG (K w.params) tW)):
  PySem.W.WalkO q loose XP YP l.row.toRowW d [] (fun f vs=>PySem.call f vs):=
 L2.EF (n:=63) (k:=14) (x:="_law_script") (tc:=tc) (tP:=tP) (tq:="order.<locals>.<lambda>") (CX:=fun w=>oM l.prog w) (sp:=fun w=>uG (K w.params) tW) hn (by decide) LR ⟨rfl,by decide,by decide⟩ hY (fun w h Y=>DB (hY w h Y) (t2 w)) hP Ig F (fun w _ a ns hl hT hS=>Kn (t1 w) hT hS) fun _ _ _ _ _ ⟨_,_,_,_,_,_,_,_,_,z⟩=>z
end mJ
open PySem PySem.W PyProof.Rows
set_option maxRecDepth 100000 in
set_option maxHeartbeats 0 in
theorem PySem.Challenge.cw_talkhall_k32_whole_one_order_holds : PySem.Challenge.rw_talkhall_k32_whole_one_order.Holds := by
 w_on;o_law;k_head;(case hw=>w_witness2)
 k_fill
 refine mJ.walk (l:=PySem.Challenge.rw_talkhall_k32_whole_one_order) (tc:=37) rfl rfl (fun w h Y=>PySem.W.km_in_of Y) (fun w h Y=>PySem.W.km_tabs_of Y _ (cn.mpr rfl)) ?Ig ?t1 ?t2 ?F
 case t1=>intro w;kernel_rfl
 case t2=>intro w;first|k_is|kernel_rfl
 case Ig=>intro w;first|k_is|kernel_rfl
 case F=>
  intro w mg fa h KX G LS
  refine' mJ.all_mk (tc:=37) (tP:=33) KX G LS ?_ ?_ ?_ ?_ ?_
  all_goals first|k_is|kernel_rfl|skip
