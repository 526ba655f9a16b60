import PyProof.Rows.All
import Wide.All
import OpenK.AllK
import Wide.FinOn
import Lean
import PyProof.EqAt
import PyProof.EqKinds
import PyProof.TupleCall
import KE.KLam
import PyProof.ExcArgsOwn
import PyProof.AttrMissSeq
import KE.KMinKey
import KE.KBoundM
import KE.KSortTup
import KE.KItemsList
import PyProof.ListRange
import PyProof.TupleIter
import PyProof.TupleOfSeq
import KE.KSortKey
import PySem.Challenge.RW_talkhall_k31_heights_and_order
set_option Elab.async false
set_option linter.all false
set_option maxRecDepth 100000
set_option maxHeartbeats 4000000
def aa:=@PySem.wpAny_bind
def ay:=@PySem.Heap.get?_push_of_some
def ai:=@List.length_map
def aH:=@List.getElem?_eq_getElem
def af:=@PySem.wpAny_pure
def aR:=@List.mem_cons_of_mem
def aQ:=@PySem.Heap.get?_push_size
def bt:=@List.getD_eq_getElem?_getD
def aA:=@PySem.Heap.lt_size
def aS:=@List.getElem?_map
def aK:=@List.mem_cons_self
def ab:=@if_pos
def ak:=@Nat.le_refl
def aB:=@List.map_cons
def aM:=@Bool.and_eq_true
def a6:=@List.size_toArray
def ae:=@if_neg
def bV:=@Array.getD_eq_getD_getElem?
def ba:=@List.length_append
def aO:=@List.mem_cons
def bX:=@List.getElem?_append_left
def bu:=@List.mem_of_getElem?
def bj:=@Nat.lt_of_lt_of_le
def bw:=@Array.length_toList
def bc:=@of_decide_eq_true
def bb:=@List.length_cons
def aP:=@Nat.ne_of_lt
def a_:=@decide_eq_false
def br:=@beq_self_eq_true
def bK:=@Bool.false_eq_true
def cJ:=@List.getElem?_eq_some_iff
def cK:=@Array.getElem?_eq_getElem
def bM:=@List.all_eq_true
def a9:=@List.mem_map
def cb:=@List.getElem?_set_ne
def cy:=@Array.getElem?_toList
def bF:=@decide_eq_true
def bN:=@List.mem_filter
def bf:=@List.map_map
def bo:=@Nat.le_trans
def cj:=@Bool.false_ne_true
def dH:=@List.getElem?_append_right
def cz:=@List.mem_singleton
def cA:=@decide_eq_true_eq
def bx:=@Nat.zero_le
def dI:=@List.getElem?_set_self
def cB:=@List.lookup_cons
def bG:=@PySem.sizeLine_eq
def cC:=@PySem.W.kia_one
def bY:=@Nat.ne_of_gt
def dJ:=@PySem.Around.under_plainId
def eS:=@List.mem_append_right
def cD:=@List.mem_range
def ck:=@Nat.lt_irrefl
def dM:=@PySem.Heap.SameBut.update
def cT:=@PySem.wpAny_call_entry
def cn:=@PySem.wpAny_holding
def cU:=@List.nodup_cons
def cV:=@List.find?_cons
def cX:=@List.map_append
def eU:=@List.map_congr_left
def bp:=@if_false
def dN:=@Int.toNat_natCast
def dO:=@PySem.wpAny_newObj_type
def dP:=@PySem.wpAny_setState_of
def dr:=@List.append_nil
def dt:=@List.length_nil
def du:=@beq_false_of_ne
def gs:=@PySem.wpAny_callSpecial?_slot
def dQ:=@List.not_mem_nil
def eV:=@PySem.wpAny_setField_rec
def cY:=@PySem.wpAny_seqItems
def dv:=@PySem.codeAny_builtin
def fJ:=@PySem.mem_of_lookup
def gv:=@PySem.Heap.get?_update_other
def bH:=@congrArg
def ig:=@PySem.F.slot_list_append
def cZ:=@PySem.plainId_quiet
def fK:=@List.length_range
def fL:=@Nat.le_of_lt_succ
def jI:=@PySem.F.type_list_append
def gw:=@List.append_assoc
def fM:=@List.mem_append
def ij:=@List.replicate_succ
def jJ:=@PySem.F.plain_max_loop
def kH:=@List.idxOf_lt_length_of_mem
def kI:=@PySem.F.slot_dict_keyiterator_next
def bS:=@Ne.symm
def jK:=@List.length_singleton
def jL:=@List.contains_iff_mem
def dw:=@PySem.wpAny_field
def kJ:=@List.drop_eq_getElem_cons
def c0:=@PySem.wpAny_mono
def ik:=@PySem.tupleKind_room_in1
def jM:=@PySem.Heap.get?_update_self
def jN:=@List.filterMap_cons
def gx:=@PySem.wpAny_ite_split
def jO:=@List.mergeSort_perm
def il:=@List.getElem_inj
def ip:=@List.filter_cons
def eZ:=@PySem.Heap.size_push
def fS:=@List.length_set
def gK:=@List.flatten_cons
def gL:=@bne_self_eq_false
def gM:=@List.getElem?_set
def gO:=@Nat.lt_succ_of_lt
def kK:=@PySem.wpAny_typeNameOfWhole_keyiter
def fT:=@PySem.wpAny_passesOwn
def fU:=@List.nodup_nil
def iP:=@List.getElem?_of_mem
def kL:=@Array.getElem?_eq_none_iff
def e8:=@Nat.le_of_lt
def gP:=@Nat.le_add_right
def gQ:=@List.getElem_mem
def gR:=@List.getElem_map
def gS:=@PySem.wpAny_pyIter_list
def gU:=@PySem.PassesOwn.leaving
def kN:=@List.getElem?_eq_none_iff
def iQ:=@PySem.Heap.get?_none_of_le
def fV:=@List.any_cons
def fW:=@List.all_cons
def kO:=@PySem.F.slot_tuple_iterator_next
def kP:=@List.Perm.eq_of_pairwise
def iR:=@List.mem_filterMap
def e_:=@PySem.codeAny_mono
def fb:=@PySem.F.called_set
def kQ:=@List.getElem?_replicate
def kR:=@PySem.F.plain_list_iadd
def kT:=@List.pairwise_mergeSort
def kU:=@List.length_eq_zero_iff
def cN:=@or_false
def fX:=@PySem.wpAny_attempt
def kX:=@PySem.wpAny_typeNameOf_keyiter
def iS:=@List.nodup_append
def fY:=@Nat.sub_self
def iT:=@List.pairwise_map
def gV:=@PySem.PassesOwn.never
def iU:=@PySem.Calls.spliced_cons
def iV:=@PySem.wpAny_Call_Name_kw
def dR:=@PySem.wpAny_rule
def kY:=@List.length_replicate
def kZ:=@List.length_filter_le
def iW:=@List.drop_length
def iX:=@Nat.lt_succ_self
def gW:=@Bool.not_true
def k_:=@PySem.W.hideAll_none
def iY:=@PySem.wpAny_truthy_bool
def fZ:=@Nat.le_succ
def gX:=@PySem.wpAny_fieldsOf
def la:=@PySem.W.hideAll_get
def lb:=@PySem.builtinLookup_eq_fast
def oo:=@PyProof.Rows.callWith_type1
def iZ:=@PySem.wpAny_forIn_list
def i0:=@PySem.wpAny_isInstance
def lg:=@PySem.wpAny_loadName_local
def f6:=@Nat.mod_lt
def oq:=@List.length_eraseIdx_of_lt
def f7:=@PySem.wpAny_letGo
def ou:=@List.perm_ext_iff_of_nodup
def lh:=@Array.forIn_toList
def ox:=@PySem.F.slot_dict_getitem
def i3:=@PySem.wpAny_updateSeq
def lj:=@PySem.W.kitx_dict
def oy:=@Option.isSome_iff_exists
def oz:=@PySem.F.args_tuple_add_2
def gY:=@PySem.wpAny_typeOf
def f9:=@PySem.wpAny_Name
def oA:=@PySem.F.entry_tuple_add
def lp:=@PySem.wpAny_pyIter_tuple
def i4:=@PySem.wpAny_setField
def lq:=@PySem.Obj.data_mapFields
def g0:=@PyProof.Rows.listUpdate_at
def lr:=@PySem.W.kat_cons
def oB:=@PySem.F.slot_tuple_add
def g6:=@beq_iff_eq
def oC:=@PySem.F.slot_tuple_getattribute
def i5:=@Nat.zero_add
def i6:=@Nat.succ_pos
def oD:=@List.filter_eq_nil_iff
def lu:=@PySem.Calls.spliced_nil
def ly:=@List.nil_append
def lz:=@PySem.W.kia_tup
def i7:=@PyProof.Rows.get?_update_seq
def oE:=@PySem.F.slot_dict_get
def oF:=@PySem.F.slot_list_getattribute
def i8:=@PySem.wpAny_newList
def lA:=@PySem.wpAny_eqBool_int
def oG:=@List.mem_append_left
def oH:=@PySem.wpAny_pyNext_tuple_item
def oJ:=@Array.mem_toList_iff
def lB:=@Bool.and_false
def lC:=@PySem.W.kat_no
def fc:=@if_true
def g7:=@PySem.call_meets
def oK:=@List.length_zipWith
def oM:=@PySem.SetTable.insertAt_perm
def lD:=@PySem.wpAny_execs_nil
def lE:=@Bool.or_false
def lF:=@Bool.false_or
def lG:=@PySem.typeLookup_type
def lH:=@PySem.F.slot_zip_next
def oN:=@PySem.W.of_hideAll
def oO:=@PySem.wpAny_isOneOf_keyiter
def oP:=@Int.emod_lt_of_pos
def oQ:=@PySem.W.kitx_list
def lI:=@Bool.true_or
def lJ:=@PySem.isSubtype_stop
def oR:=@Array.toList_push
def lK:=@PySem.wpAny_newTuple
def lL:=@PySem.wpAny_tryCatch
def oS:=@Nat.lt_succ_of_le
def oU:=@List.ext_getElem?
def oV:=@PyProof.Rows.F.plain_set_update_loop
def oW:=@PySem.wpAny_loadName_cell
def oX:=@List.length_take
def oY:=@Nat.le_of_not_lt
def oZ:=@List.nodup_range
def o4:=@List.mem_flatMap
def uu:=@List.Nodup.length_le_of_subset
def i9:=@PySem.wpAny_load
def o5:=@List.of_mem_zip
def o6:=@List.forIn_cons
def o7:=@Nat.not_lt_zero
def o8:=@Nat.max_eq_left
def o9:=@Int.emod_nonneg
def o_:=@Bool.or_eq_true
def uv:=@PySem.F.plain_proto_collect
def pf:=@Bool.not_false
def ph:=@PySem.wpAny_pyIter_slot
def uw:=@Array.perm_iff_toList_perm
def pj:=@PySem.wpAny_dictEntries
def ux:=@Array.getElem?_eq_some_iff
namespace L2
open PySem PySem.Spec PyProof.Rows
abbrev Key:=Sum Int Str
def lM:Key->Value->Bool
 |.inl k,v=>Value.isInt k v
 |.inr x,v=>Value.isStrOf x v
def OC(w:World):Key->Int
 |.inl k=>hashInt k
 |.inr x=>hashStr w x
theorem cf:∀{k:Key} {v:Value},lM k v=true->(∃i t,k=Sum.inl i/\v=Value.int i t)\/(∃x t,k=Sum.inr x/\v=Value.str x t)
 |.inl i,v,h=>by
  obtain⟨t,e⟩:=Value.isInt_shape (k:=i) (v:=v) h;exact .inl ⟨i,t,rfl,e⟩
 |.inr x,v,h=>by
  obtain⟨t,e⟩:=Value.isStrOf_shape (x:=x) (v:=v) h;exact .inr ⟨x,t,rfl,e⟩
theorem zf(i:Int)(t:Tok):lM (.inl i) (.int i t)=true:=by simp[lM,Value.isInt]
theorem zg(x:Str)(t:Tok):lM (.inr x) (.str x t)=true:=by simp[lM,Value.isStrOf]
theorem F9(a b:Int):decide ((Sum.inl a:Key)=Sum.inl b)=(a==b):=by
 by_cases e:a=b
 ·subst e;simp
 ·have h:¬(Sum.inl a:Key)=Sum.inl b:=fun q=>e (Sum.inl.inj q);rw[a_ h];exact(beq_eq_false_iff_ne.mpr e).symm
theorem F_(a b:Str):decide ((Sum.inr a:Key)=Sum.inr b)=decide (a=b):=by
 by_cases e:a=b
 ·subst e;simp
 ·have h:¬(Sum.inr a:Key)=Sum.inr b:=fun q=>e (Sum.inr.inj q);rw[a_ h,a_ e]
theorem Ga(a:Int)(b:Str):decide ((Sum.inl a:Key)=Sum.inr b)=false:=a_ (fun q=>nomatch q)
theorem Gb(a:Str)(b:Int):decide ((Sum.inr a:Key)=Sum.inl b)=false:=a_ (fun q=>nomatch q)
def av(prog:Program)(w:World):PySem.KeyKind prog w Key where
 is:=lM
 hash:=OC w
 inj:=fun v a b ha hb=>by
  rcases cf ha with⟨i,t,rfl,rfl⟩|⟨x,t,rfl,rfl⟩
  ·rcases cf hb with⟨j,u,rfl,e⟩|⟨y,u,rfl,e⟩
   ·injection e with e1 _;rw[e1]
   ·exact nomatch e
  ·rcases cf hb with⟨j,u,rfl,e⟩|⟨y,u,rfl,e⟩
   ·exact nomatch e
   ·injection e with e1 _;rw[e1]
 byValue:=fun k v h=>by
  rcases cf h with⟨i,t,rfl,rfl⟩|⟨x,t,rfl,rfl⟩<;>rfl
 pyHash:=fun hv h=>by
  rcases cf hv with⟨i,t,rfl,rfl⟩|⟨x,t,rfl,rfl⟩
  ·exact wpAny_pyHash_int h
  ·exact wpAny_pyHash_str h
 eqBool:=fun hu hv h=>by
  rcases cf hu with⟨i,t,rfl,rfl⟩|⟨x,t,rfl,rfl⟩
  ·rcases cf hv with⟨j,u,rfl,rfl⟩|⟨y,u,rfl,rfl⟩
   ·rw[F9]at h;exact lA h
   ·rw[Ga]at h;exact SeqAt.EqAt.int_str i t y u _ _ _ _ h
  ·rcases cf hv with⟨j,u,rfl,rfl⟩|⟨y,u,rfl,rfl⟩
   ·rw[Gb]at h;exact SeqAt.EqAt.str_int x t j u _ _ _ _ h
   ·rw[F_]at h;exact wpAny_eqBool_str h
 «strs»:=fun k x t v h=>by
  rcases cf h with⟨i,u,rfl,e⟩|⟨y,u,rfl,e⟩
  ·exact nomatch e
  ·injection e with e1 _
   subst e1;cases v<;>rfl
theorem uy(prog:Program)(w:World)(i:Int)(t:Tok):(av prog w).is (.inl i) (.int i t)=true:=zf i t
theorem uz(prog:Program)(w:World)(x:Str)(t:Tok):(av prog w).is (.inr x) (.str x t)=true:=zg x t
end L2
namespace L2
open PySem PySem.Spec PyProof.Rows
inductive V where
 |bU|bl (b:Bool)|int (i:Int)|str (x:Str)|Gd (b:Array UInt8)|E4 (b:UInt64)|ref (a:Addr)|ty (n:String)
 deriving DecidableEq
def RelV:V->Value->Prop
 |.bU,u=>u=Value.none
 |.bl b,u=>u=Value.bool b
 |.int i,u=>∃t,u=Value.int i t
 |.str x,u=>∃t,u=Value.str x t
 |.Gd b,u=>∃t,u=Value.bytes b t
 |.E4 b,u=>∃t,u=Value.float b t
 |.ref a,u=>u=Value.ref a
 |.ty n,u=>u=Value.type n
abbrev Vals:List V->List Value->Prop:=Paired RelV
theorem Vals.length {xs:List V}{us:List Value}(r:Vals xs us):xs.length=us.length:=Paired.length r
theorem Vals.get:∀{xs:List V} {us:List Value} {i:Nat} {x:V},Vals xs us->xs[i]?=some x->∃u,us[i]?=some u/\RelV x u
 |_,_,_,_,.nil,e=>by simp at e
 |_,_,0,_,.cons r _,e=>by simp at e;subst e;exact⟨_,rfl,r⟩
 |_,_,i+1,x,.cons _ t,e=>by
  obtain⟨u,h1,h2⟩:=Vals.get (i:=i) (x:=x) t (by simpa using e);exact⟨u,by simpa using h1,h2⟩
theorem Vals.set {x:V}{u:Value}(r:RelV x u):∀{xs:List V} {us:List Value} (i:Nat),Vals xs us->Vals (xs.set i x) (us.set i u)
 |_,_,_,.nil=>.nil
 |_,_,0,.cons _ t=>.cons r t
 |_,_,i+1,.cons q t=>.cons q (Vals.set r i t)
theorem Vals.append:∀{xs ys:List V} {us ws:List Value},Vals xs us->Vals ys ws->Vals (xs++ys) (us++ws)
 |_,_,_,_,.nil,s=>s
 |_,_,_,_,.cons r t,s=>.cons r (Vals.append t s)
def mD:Option V->Option Value->Prop
 |some v,some u=>RelV v u
 |none,none=>True
 |_,_=>False
def KV{κ:Type}:List (κ×V)->List (κ×Value)->Prop:=Paired fun(p:κ×V) (q:κ×Value)=>p.1=q.1/\RelV p.2 q.2
def kV:Key->V
 |.inl i=>.int i
 |.inr x=>.str x
inductive HO where
 |lst (xs:List V)
 |tup (xs:List V)
 |dK (ar:List (Key×V))|dT (ar:List (List Key×V))
 |set (S:Int->Bool) (n:Nat)
 |ins (C dx:Addr) (fs:List (Str×V))
 |own (x:Addr)
 |xd (fs:List (Str×V))
 |met (f x:Addr)
 |Nz (lo hi:Int)
 |ff (o:Obj) (u:HO)
 |uh (ps:Array Value)
 |ext (φ:Heap->Prop)
abbrev Hp:=Addr->Option HO
def upd(H:Hp)(a:Addr)(o:HO):Hp:=fun b=>if b=a then some o else H b
theorem aF{H:Hp}{a:Addr}{o:HO}:upd H a o a=some o:=by unfold upd;rw[ab rfl]
theorem ah{H:Hp}{a b:Addr}{o:HO}(h:b≠a):upd H a o b=H b:=by unfold upd;rw[ae h]
theorem J2{H:Hp}{a b:Addr}{o u:HO}(h:H a=some o)(h':H b=some u)(d:o≠u):a≠b:=by
 intro e;subst e;rw[h]at h';exact d (Option.some.inj h')
theorem aJ{H:Hp}{a b:Addr}{o:HO}(h:H a=some o)(h':H b=none):a≠b:=by
 intro e;subst e;rw[h]at h';cases h'
section
variable (P:Program)(w:World)
def j9(h:Heap)(a:Addr)(items:Array Value):Prop:=∃o,h.get? a=some o/\o.cls=.type "tuple"/\∃n,o.data=.seq items n/\o.dict=none
theorem j9.tup {h:Heap}{a:Addr}{items:Array Value}(x:j9 h a items):IsTup h a items:=let⟨o,h1,h2,n,h3,_⟩:=x;⟨o,h1,h2,n,h3⟩
theorem j9.new (h:Heap)(items:Array Value):j9 (h.push {cls:=.type "tuple",data:=.seq items}) h.objs.size items:=⟨_,aQ _ rfl,rfl,_,rfl,rfl⟩
def bg(H:Hp)(h:Heap)(a:Addr):HO->Prop
 |.lst xs=>xs.length<=sizeLine/\∃(aT:List Value) (n:Nat),Vals xs aT/\h.get? a=some {cls:=.type "list",data:=.seq aT.toArray n}
 |.tup xs=>xs.length<=sizeLine/\∃aT:List Value,Vals xs aT/\j9 h a aT.toArray
 |.dK ar=>ar.length<=sizeLine/\(a==sysModules)=false/\∃vs,KV ar vs/\h.DictOf (av P w) a vs
 |.dT ar=>ar.length<=sizeLine/\(a==sysModules)=false/\∃xs:List (List Key×Addr×Value),
   Paired (fun(p:List Key×V) (q:List Key×Addr×Value)=>p.1=q.1/\H q.2.1=some (.tup (p.1.map kV))/\RelV p.2 q.2.2) ar xs/\
   ∃o es ep,h.get? a=some o/\o.ExactDict/\o.data=.dict es ep/\es.toList=xs.map (entryOfKey (tupleKind (av P w)))/\(xs.map (·.1)).Nodup
 |.set S n=>h.SetOf (intKind P w) a S n
 |.ins C dx fs=>H dx=some (.own a)/\fs.length<=1000/\dx≠a/\h.get? a=some (PySem.W.instObj C dx)/\
   ∃mA,h.Ns1 dx mA/\(∀f,mD (fs.lookup f) (mA f))/\PySem.Within mA (fs.map (·.1))
 |.own _=>∃o,h.get? a=some o
 |.xd fs=>∃mA,h.Ns1 a mA/\∀f,mD (fs.lookup f) (mA f)
 |.Nz lo hi=>∃t u v,h.get? a=some {cls:=.type "range",data:=.fields #[.int lo t,.int hi u,.int 1 v]}
 |.ff o u=>h.get? a=some o/\bg H h a u
 |.uh ps=>∃qs:Array Value,h.get? a=some {cls:=.none,data:=.fields qs}/\TriplesOk qs.toList/\∀pos v,codeAmong pos qs.toList=some v->∃c oc vs q t,v=.ref c/\ps=#[.str q 0]/\H c=some (.own a)/\h.get? c=some oc/\oc.data=.fields vs/\vs[1]?=some (.str q t)
 |.met f x=>h.get? a=some (PySem.W.methodObj (.ref f) (.ref x))
 |.ext φ=>φ h/\(∃o,h.get? a=some o)/\∀h1 h2:Heap,φ h1->(∀o,h1.get? a=some o->h2.get? a=some o)->φ h2
def j2(H:Hp)(h:Heap):Prop:=∀a o,H a=some o->bg P w H h a o
end
section
variable {P:Program}{w:World}{H H':Hp}{h h':Heap}{a:Addr}{o:HO}
theorem bg.lt (x:bg P w H h a o):a<h.objs.size:=by
 cases o with
 |lst xs=>obtain⟨_,_,_,_,e⟩:=x;exact aA e
 |tup xs=>obtain⟨_,_,_,p⟩:=x;exact p.tup.lt
 |dK ar=>obtain⟨_,_,_,_,o,_,_,e,_⟩:=x;exact aA e
 |dT ar=>obtain⟨_,_,_,_,o,_,_,e,_⟩:=x;exact aA e
 |set S n=>obtain⟨o,_,_,_,e,_⟩:=x;exact aA e
 |ins C dx fs=>obtain⟨_,_,_,e,_⟩:=x;exact aA e
 |own y=>obtain⟨_,e⟩:=x;exact aA e
 |xd fs=>obtain⟨_,⟨_,_,_,e,_⟩,_⟩:=x;exact aA e
 |Nz lo hi=>obtain⟨_,_,_,e⟩:=x;exact aA e
 |ff ob u=>obtain⟨e,_⟩:=x;exact aA e
 |uh ps=>obtain⟨qs,e,_⟩:=x;exact aA e
 |met f y=>exact aA (show h.get? a=some _ from x)
 |ext φ=>obtain⟨_,⟨_,e⟩,_⟩:=x;exact aA e
theorem Paired.Ge {α β:Type}{F G:α->β->Prop}:∀{J3:List α} {J4:List β},Paired F J3 J4->(∀a b,F a b->G a b)->Paired G J3 J4
 |_,_,.nil,_=>.nil
 |_,_,.cons r t,f=>.cons (f _ _ r) (Paired.Ge t f)
theorem bg.j_ (x:bg P w H h a o)(k:∀b u,(b=a\/H b=some (.own a))->h.get? b=some u->h'.get? b=some u)
  (ho:∀b,H b=some (.own a)->H' b=some (.own a)) (ht:∀b xs,H b=some (.tup xs)->H' b=some (.tup xs)):bg P w H' h' a o:=by
 induction o with
 |lst xs=>obtain⟨z,aT,n,r,e⟩:=x;exact⟨z,aT,n,r,k _ _ (.inl rfl) e⟩
 |tup xs=>obtain⟨z,aT,r,ob,e,c⟩:=x;exact⟨z,aT,r,ob,k _ _ (.inl rfl) e,c⟩
 |dK ar=>obtain⟨z,y,vs,r,ob,es,ep,e,c⟩:=x;exact⟨z,y,vs,r,ob,es,ep,k _ _ (.inl rfl) e,c⟩
 |dT ar=>
  obtain⟨z,y,xs,r,ob,es,ep,e,c⟩:=x;exact⟨z,y,xs,Paired.Ge r fun p q z=>⟨z.1,ht _ _ z.2.1,z.2.2⟩,ob,es,ep,k _ _ (.inl rfl) e,c⟩
 |set S n=>obtain⟨ob,es,ep,t,e,c⟩:=x;exact⟨ob,es,ep,t,k _ _ (.inl rfl) e,c⟩
 |ins C dx fs=>
  obtain⟨d,z,ne,e,mA,⟨od,es,ep,e2,c⟩,r⟩:=x;exact⟨ho _ d,z,ne,k _ _ (.inl rfl) e,mA,⟨od,es,ep,k _ _ (.inr d) e2,c⟩,r⟩
 |own y=>obtain⟨ob,e⟩:=x;exact⟨ob,k _ _ (.inl rfl) e⟩
 |xd fs=>obtain⟨mA,⟨od,es,ep,e,c⟩,r⟩:=x;exact⟨mA,⟨od,es,ep,k _ _ (.inl rfl) e,c⟩,r⟩
 |Nz lo hi=>obtain⟨t,u,v,e⟩:=x;exact⟨t,u,v,k _ _ (.inl rfl) e⟩
 |ff ob u ih=>obtain⟨e,q⟩:=x;exact⟨k _ _ (.inl rfl) e,ih q⟩
 |uh ps=>
  obtain⟨qs,e,tr,r⟩:=x;exact⟨qs,k _ _ (.inl rfl) e,tr,fun pos v z=>by
   obtain⟨c,oc,vs,q,t,e1,e2,e3,e4,e5⟩:=r pos v z;exact⟨c,oc,vs,q,t,e1,e2,ho _ e3,k _ _ (.inr e3) e4,e5⟩⟩
 |met f y=>
  have e:h.get? a=some (PySem.W.methodObj (.ref f) (.ref y)):=x;show h'.get? a=some (PySem.W.methodObj (.ref f) (.ref y));exact k a _ (.inl rfl) e
 |ext φ=>obtain⟨p,⟨o,e⟩,st⟩:=x;exact⟨st _ _ p fun o q=>k _ _ (.inl rfl) q,⟨o,k _ _ (.inl rfl) e⟩,st⟩
theorem j2.lt (x:j2 P w H h)(e:H a=some o):a<h.objs.size:=(x a o e).lt
theorem j2.fresh (x:j2 P w H h)(e:h.objs.size<=a):H a=none:=by
 cases q:H a with
 |none=>rfl
 |some u=>exact absurd (bj (x.lt q) e) (ck _)
theorem j2.kept (x:j2 P w H h)(k:∀b u,h.get? b=some u->h'.get? b=some u):j2 P w H h':=fun a o e=>
 (x a o e).j_ (fun b u _ q=>k b u q) (fun _ q=>q) fun _ _ q=>q
theorem j2.laid (x:j2 P w H h)(k:∀b u,h.get? b=some u->h'.get? b=some u)(hp:h.objs.size<=a)(new:bg P w (upd H a o) h' a o):j2 P w (upd H a o) h':=fun b u e=>by
 have hn:=x.fresh hp;by_cases hb:b=a
 ·subst hb;rw[aF]at e;cases e;exact new
 ·rw[ah hb]at e;exact(x b u e).j_ (fun c v _ q=>k c v q) (fun c q=>by rw[ah (aJ q hn)];exact q) fun c xs q=>by rw[ah (aJ q hn)];exact q
end
def Rd(H:Hp)(a:Addr)(u:HO):Prop:=H a=some u\/∃o,H a=some (.ff o u)
theorem Rd.ok {P:Program}{w:World}{H:Hp}{h:Heap}{a:Addr}{u:HO}(r:Rd H a u)(x:j2 P w H h):bg P w H h a u:=by
 rcases r with r|⟨o,r⟩
 ·exact x a u r
 ·obtain⟨_,q⟩:=x a _ r;exact q
def J5:Option HO->Prop
 |some (.lst _)=>True
 |some (.dK _)=>True
 |some (.dT _)=>True
 |some (.set _ _)=>True
 |some (.ins _ _ _)=>True
 |some (.ext _)=>True
 |_=>False
section
variable {P:Program}{w:World}{H:Hp}{h h':Heap}{x e:Addr}{o':HO}
theorem j2.write (ok:j2 P w H h)(mu:J5 (H x))(he:e=x\/H e=some (.own x))(k:∀b u,b≠e->h.get? b=some u->h'.get? b=some u)(Jp:∃u,h'.get? e=some u)
  (new:bg P w (upd H x o') h' x o'):j2 P w (upd H x o') h':=fun b u q=>by
 have J7:∀c y,H c=some (.own y)->c≠x:=fun c y r z=>by subst z;rw[r]at mu;exact mu
 have OD:∀c xs,H c=some (.tup xs)->c≠x:=fun c xs r z=>by subst z;rw[r]at mu;exact mu
 by_cases hb:b=x
 ·subst hb;rw[aF]at q;cases q;exact new
 ·rw[ah hb]at q;by_cases Gf:b=e
  ·have q':H b=some (.own x):=by
    rcases he with z|z
    ·exact absurd (Gf.trans z) hb
    ·rw[Gf];exact z
   rw[q]at q';cases q';obtain⟨v,hv⟩:=Jp;exact⟨v,by rw[Gf];exact hv⟩
  ·refine(ok b u q).j_ (fun c v hc r=>k c v ?_ r) (fun c r=>by rw[ah (J7 c b r)];exact r) fun c xs r=>by rw[ah (OD c xs r)];exact r
   rcases hc with rfl|hc
   ·exact Gf
   ·rintro rfl
    rcases he with z|z
    ·exact J7 c b hc z
    ·rw[hc]at z;cases z;exact hb rfl
end
structure Un(fs ex:List Addr)(H H':Hp)(h h':Heap):Prop where
 keep:∀b o,h.get? b=some o->H b=none->b∉fs->b∉ex->h'.get? b=some o
 slot:∀b o,h.get? b=some o->H b=none->b∈fs->b∉ex->∃sl,h'.get? b=some {o with slots:=sl}
 free:∀b o,h.get? b=some o->H b=none->b∉ex->H' b=none
 there:∀b o,h.get? b=some o->b∉ex->∃o',h'.get? b=some o'
 jX:∀b xs,H b=some (.tup xs)->H' b=some (.tup xs)
 iK:∀b o u,H b=some (.ff o u)->H' b=some (.ff o u)
 i_:∀b ps,H b=some (.uh ps)->∃more,H' b=some (.uh (ps++more))
section
variable {fs zh ex VH:List Addr}{H H1 H2:Hp}{h h1 h2 h':Heap}{a x e:Addr}{o:HO}
theorem Un.any (u:Un fs ex H H1 h h1){b:Addr}{ob:Obj}(q:h.get? b=some ob)(n:H b=none)(hx:b∉ex):∃sl,h1.get? b=some {ob with slots:=sl}:=by
 by_cases hb:b∈fs
 ·exact u.slot b ob q n hb hx
 ·exact⟨ob.slots,u.keep b ob q n hb hx⟩
theorem Un.trans (a:Un fs ex H H1 h h1)(b:Un fs ex H1 H2 h1 h2):Un fs ex H H2 h h2 where
 keep:=fun c ob q n hc hx=>b.keep c ob (a.keep c ob q n hc hx) (a.free c ob q n hx) hc hx
 slot:=fun c ob q n hc hx=>by
  obtain⟨sl,e1⟩:=a.slot c ob q n hc hx;obtain⟨OE,e2⟩:=b.slot c _ e1 (a.free c ob q n hx) hc hx;exact⟨OE,e2⟩
 free:=fun c ob q n hx=>by
  obtain⟨o',e1⟩:=a.there c ob q hx;exact b.free c o' e1 (a.free c ob q n hx) hx
 there:=fun c ob q hx=>by
  obtain⟨o',e1⟩:=a.there c ob q hx;exact b.there c o' e1 hx
 jX:=fun c xs q=>b.jX c xs (a.jX c xs q)
 iK:=fun c ob xs q=>b.iK c ob xs (a.iK c ob xs q)
 i_:=fun c ps q=>by
  obtain⟨m1,e1⟩:=a.i_ c ps q;obtain⟨m2,e2⟩:=b.i_ c _ e1;exact⟨m1++m2,by rw[e2,Array.append_assoc]⟩
theorem Un.kept (k:∀b u,h.get? b=some u->h'.get? b=some u):Un fs ex H H h h':=
 ⟨fun b ob q _ _ _=>k b ob q,fun b ob q _ _ _=>⟨ob.slots,k b ob q⟩,fun _ _ _ n _=>n,fun b ob q _=>⟨ob,k b ob q⟩,fun _ _ q=>q,fun _ _ _ q=>q,fun _ ps q=>⟨#[],by rw[q];simp⟩⟩
theorem Un.refl:Un fs ex H H h h:=Un.kept fun _ _ q=>q
theorem Un.laid (k:∀b u,h.get? b=some u->h'.get? b=some u)(hp:h.objs.size<=a)(hn:H a=none):Un fs ex H (upd H a o) h h' where
 keep:=fun b u q _ _ _=>k b u q
 slot:=fun b u q _ _ _=>⟨u.slots,k b u q⟩
 free:=fun b u q n _=>by rw[ah (aP (bj (aA q) hp))];exact n
 there:=fun b u q _=>⟨u,k b u q⟩
 jX:=fun b xs q=>by rw[ah (aJ q hn)];exact q
 iK:=fun b u xs q=>by rw[ah (aJ q hn)];exact q
 i_:=fun b ps q=>⟨#[],by rw[ah (aJ q hn),q];simp⟩
theorem Un.write (mu:J5 (H x))(he:e=x\/H e=some (.own x))(k:∀b u,b≠e->h.get? b=some u->h'.get? b=some u)(Jp:∃u,h'.get? e=some u):Un fs ex H (upd H x o) h h':=by
 have hx:∀b,H b=none->b≠x:=fun b n z=>by subst z;rw[n]at mu;exact mu
 have hb:∀b,H b=none->b≠e:=fun b n z=>by
  subst z;rcases he with r|r
  ·exact hx b n r
  ·rw[n]at r;cases r
 have hm:∀b u,H b=some u->¬J5 (some u)->b≠x:=fun b u q nm z=>by subst z;rw[q]at mu;exact nm mu
 refine⟨fun b u q n _ _=>k b u (hb b n) q,fun b u q n _ _=>⟨u.slots,k b u (hb b n) q⟩,fun b u q n _=>by rw[ah (hx b n)];exact n,fun b u q _=>?_,
  fun b xs q=>by rw[ah (hm b _ q fun z=>z)];exact q,fun b u xs q=>by rw[ah (hm b _ q fun z=>z)];exact q,fun b ps q=>⟨#[],by rw[ah (hm b _ q fun z=>z),q];simp⟩⟩
 by_cases Gf:b=e
 ·subst Gf;exact Jp
 ·exact⟨u,k b u Gf q⟩
end
def NA(h:Heap)(H:Hp):List Addr:=(List.range h.objs.size).filter fun a=>(H a).isSome
def sI(h:Heap)(H:Hp):Heap:=PySem.W.hideAll h (NA h H)
theorem zi(h:Heap)(H:Hp):(sI h H).objs.size=h.objs.size:=PySem.W.hideAll_size _ _
theorem AM{h:Heap}{H:Hp}{b:Addr}{o:Obj}(e:h.get? b=some o)(n:H b=none):(sI h H).get? b=some o:=
 la _ e fun hm=>by
  have q:(H b).isSome=true:=(bN.mp hm).2;rw[n]at q;simp at q
theorem Ds{h:Heap}{H:Hp}{b:Addr}{o:Obj}(e:(sI h H).get? b=some o):h.get? b=some o/\H b=none:=by
 have e':h.get? b=some o:=oN (NA h H) e;refine⟨e',?_⟩;cases q:H b with
 |none=>rfl
 |some x=>
  have hm:b∈NA h H:=bN.mpr ⟨cD.mpr (aA e'),by simp[q]⟩;have z:(sI h H).get? b=none:=k_ (NA h H) hm;rw[z]at e;cases e
end L2
namespace L2
open PySem PySem.Spec PyProof.Rows
structure Mod(K:PySem.W.Frag)(mg:Str->Option Value)(base:Heap):Prop where
 J8:K.In base
 glob:base.Ns mainGlobals mg
 blt:∃mb,base.Ns builtinsNs mb/\∀x:Str,x≠"__name__"->mb x=bootBuiltins x
 nolimit:base.NoLimit
 bm:∃bm ob,mg "__builtins__"=some (.ref bm)/\bm≠builtinsNs/\bm≠mainGlobals/\base.get? bm=some ob/\ob.cls=.type "module"/\ob.dict=some builtinsNs/\ob.data=.plain
structure Cx where
 prog:Program
 w:World
 K:PySem.W.Frag
 mg:Str->Option Value
 base:Heap
 A:Around
 N:List Str
 dS:Shared
 uA:Hp
 env:Env
 outer:List Env
 stack:List Env
 ex:List Addr
 fn:Str->Bool
 calm:Bool
 pn:List (Addr×Obj)
 xe:Value->Shared->Prop
def lN(l:List Env):List Addr:=l.filterMap (·.frame)
abbrev Cx.fs (X:Cx):List Addr:=lN X.outer
def Gg(sc:Scope)(x:Str):Prop:=sc.names.lookup x=some .local\/sc.names.lookup x=some .cell\/sc.names.lookup x=some .free
def Loc(sc:Scope)(x:Str):Prop:=sc.names.lookup x=some .local\/sc.names.lookup x=some .cell
def Look(env:Env)(h:Heap)(m:Str->Option Value)(x:Str)(u:Value):Prop:=
 (env.kindOf x=some .local/\m x=some u)\/((env.kindOf x=some .cell\/env.kindOf x=some .free)/\∃c,env.cells.lookup x=some c/\h.IsCell c (some u))
structure Cx.Ok (X:Cx):Prop where
 mod:Mod X.K X.mg X.base
 kind:X.env.scope.kind=.function
 glob:X.env.globals=mainGlobals
 blt:X.env.builtins=builtinsNs
 above:X.dS.heap.objs.size<=X.env.locals
 inj:∀x y c,X.env.cells.lookup x=some c->X.env.cells.lookup y=some c->x=y
 has:∀x,(X.env.kindOf x=some .cell\/X.env.kindOf x=some .free)->∃c,X.env.cells.lookup x=some c
 J9:∀x c,X.fn x=true->X.env.cells.lookup x=some c->X.dS.heap.objs.size<=c
 hd:X.calm=true->X.A.handled=none
 frames:X.A.frames=some X.stack
 Jq:X.stack=X.outer\/(X.stack=X.env::X.outer/\X.env.frame=some X.env.locals)
 OF:∀b∈X.ex,b≠X.env.locals/\∀x c,X.env.cells.lookup x=some c->c≠b
 bs:∀b o,X.base.get? b=some o->X.dS.heap.get? b=some o/\X.uA b=none
 E5:X.base.objs.size<=X.dS.heap.objs.size
 zj:∀b o,X.base.get? b=some o->b∉X.ex
 AN:∀b∈X.ex,b∉X.fs
 pk:X.dS.heap.FunFrames X.base X.outer
 Jr:∀b∈X.fs,X.uA b=none
structure Inv(X:Cx)(pins:List (Addr×Obj))(σ:List (Option V))(H:Hp)(s:Shared):Prop where
 ok:X.Ok
 os:s.os=X.dS.os
 bare:AllBare s.gens
 base:Un X.fs X.ex X.uA H X.dS.heap s.heap
 loc:∃m,s.heap.Ns X.env.locals m/\∀(i:Nat) (x:Str) (v:V),X.N[i]?=some x->σ[i]?=some (some v)->Gg X.env.scope x->∃u,RelV v u/\Look X.env s.heap m x u
 cell:∀x c,X.env.cells.lookup x=some c->∃v,s.heap.IsCell c v
 free:H X.env.locals=none
 fH:∀x c,X.env.cells.lookup x=some c->H c=none
 pin:∀p∈X.pn++pins,s.heap.get? p.1=some p.2/\H p.1=none/\p.1≠X.env.locals/\p.1∉X.fs/\∀v,p.2.data≠ .cell v
 bC:j2 X.prog X.w H s.heap
 len:σ.length=X.N.length
section
variable {X:Cx}{pins:List (Addr×Obj)}{σ:List (Option V)}{H H':Hp}{s:Shared}{h':Heap}
theorem Cx.Ok.OG (ok:X.Ok){b:Addr}{o:Obj}(e:X.base.get? b=some o):b∉X.fs:=fun hb=>by
 have:=(ok.pk.mem hb).1;rw[e]at this;cases this
theorem Inv.bs (I:Inv X pins σ H s):∀b o,X.base.get? b=some o->s.heap.get? b=some o/\H b=none:=fun b o e=>
 ⟨I.base.keep b o (I.ok.bs b o e).1 (I.ok.bs b o e).2 (I.ok.OG e) (I.ok.zj b o e),I.base.free b o (I.ok.bs b o e).1 (I.ok.bs b o e).2 (I.ok.zj b o e)⟩
theorem Inv.bk (I:Inv X pins σ H s):∀b o,X.base.get? b=some o->s.heap.get? b=some o:=fun b o e=>(I.bs b o e).1
theorem Inv.mod (I:Inv X pins σ H s):Mod X.K X.mg X.base:=I.ok.mod
theorem Inv.nB (I:Inv X pins σ H s):X.K.In s.heap:=I.ok.mod.J8.keeps I.bk
theorem Inv.nolimit (I:Inv X pins σ H s):s.heap.NoLimit:=I.ok.mod.nolimit.keeps I.bk
theorem Inv.fr (I:Inv X pins σ H s):∃m,Fr X.base X.env.locals s.heap m:=
 let⟨m,hn,_⟩:=I.loc
 ⟨m,hn,I.bk,bo I.ok.E5 I.ok.above⟩
theorem Inv.lt (I:Inv X pins σ H s):X.env.locals<s.heap.objs.size:=let⟨_,hn,_⟩:=I.loc;hn.lt
theorem Inv.sz (I:Inv X pins σ H s):X.dS.heap.objs.size<=s.heap.objs.size:=bo I.ok.above (e8 I.lt)
theorem Inv.OH (I:Inv X pins σ H s){a:Addr}(h:s.heap.objs.size<=a):a∉X.fs:=fun hb=>by
 obtain⟨_,o,ho,_⟩:=I.ok.pk.mem hb;exact absurd (bj (aA ho) (bo I.sz h)) (ck _)
theorem Inv.AO (I:Inv X pins σ H s):∀x c,X.env.cells.lookup x=some c->c≠X.env.locals:=fun x c e z=>by
 obtain⟨v,o,ho,hd⟩:=I.cell x c e;obtain⟨m,⟨o',es,ep,zk,AQ,_⟩,_⟩:=I.loc;rw[z,zk]at ho;cases ho;rw[AQ]at hd;cases hd
theorem Inv.pk (I:Inv X pins σ H s):s.heap.FunFrames X.base X.outer:=by
 have all:∀(l:List Env),(∀b∈lN l,b∈X.fs)->X.dS.heap.FunFrames X.base l->s.heap.FunFrames X.base l:=by
  intro l
  induction l with
  |nil=>intro _ _;trivial
  |cons env r ih=>
   intro hs hl;obtain⟨hk,⟨L,o,hf,hn,ho,hd⟩,hr⟩:=hl;have hL:L∈X.fs:=hs L (by unfold lN;rw[jN,hf];exact aK);obtain⟨sl,e⟩:=I.base.slot L o ho (I.ok.Jr L hL) hL fun z=>I.ok.AN L z hL;exact⟨hk,⟨L,_,hf,hn,e,hd⟩,ih (fun b hb=>hs b (by unfold lN;rw[jN,hf];exact aR _ hb)) hr⟩
 exact all X.outer (fun _ hb=>hb) I.ok.pk
theorem Inv.stack (I:Inv X pins σ H s):s.heap.FunFrames X.base X.stack:=by
 rcases I.ok.Jq with e|⟨e,hf⟩
 ·rw[e];exact I.pk
 ·rw[e];obtain⟨m,hn,_⟩:=I.loc;refine .cons (by rw[I.ok.kind];decide) hf hn ?_ I.pk
  exact iQ (bo I.ok.E5 I.ok.above)
theorem Inv.wm (I:Inv X pins σ H s):∀b∈lN X.stack,b∈X.env.locals::X.fs:=fun b hb=>by
 rcases I.ok.Jq with e|⟨e,hf⟩
 ·rw[e]at hb;exact aR _ hb
 ·rw[e]at hb;unfold lN at hb;rw[jN,hf]at hb;exact hb
theorem Inv.sJ (I:Inv X pins σ H s):∀b∈lN X.stack,H b=none:=fun b hb=>by
 rcases aO.mp (I.wm b hb)with e|hb
 ·rw[e];exact I.free
 ·obtain⟨_,o,ho,_⟩:=I.ok.pk.mem hb;exact I.base.free b o ho (I.ok.Jr b hb) fun z=>I.ok.AN b z hb
theorem Inv.step {g':Array GenState}{t':Nat}{d':Drawn}{ch:List Addr}(I:Inv X pins σ H s)
  (rj:∀b∈ch,(b∈X.ex\/X.dS.heap.objs.size<=b)/\b≠X.env.locals/\(∀x c,X.env.cells.lookup x=some c->c≠b)/\∀p∈X.pn++pins,p.1≠b)
  (keep:∀b o,b≠X.env.locals->b∉X.fs->b∉ch->s.heap.get? b=some o->H b=none->h'.get? b=some o)
  (slot:∀b o,b≠X.env.locals->b∈X.fs->b∉ch->s.heap.get? b=some o->H b=none->∃sl,h'.get? b=some {o with slots:=sl}) (free:∀b o,b∉ch->s.heap.get? b=some o->H b=none->H' b=none)
  (there:∀b o,b∉ch->s.heap.get? b=some o->∃o',h'.get? b=some o')
  (jX:∀b xs,H b=some (.tup xs)->H' b=some (.tup xs)) (iK:∀b o u,H b=some (.ff o u)->H' b=some (.ff o u)) (i_:∀b ps,H b=some (.uh ps)->∃more,H' b=some (.uh (ps++more)))
  (ns:∀m,s.heap.Ns X.env.locals m->h'.Ns X.env.locals m) (bC:j2 X.prog X.w H' h') (hg:AllBare g'):
  Inv X pins σ H' {s with heap:=h',gens:=g',drawn:=d',toks:=t'}:=by
 have Rm:∀b o,X.dS.heap.get? b=some o->b≠X.env.locals:=fun b o e=>aP (bj (aA e) I.ok.above);have E6:∀b o,X.dS.heap.get? b=some o->b∉X.ex->b∉ch:=fun b o e hx hb=>by
  rcases(rj b hb).1 with z|z
  ·exact hx z
  ·exact absurd (bj (aA e) z) (ck _)
 have cellK:∀x c,X.env.cells.lookup x=some c->∀v,s.heap.IsCell c v->h'.IsCell c v:=fun x c e v ⟨o,ho,hd⟩=>by
  have AR:c∉ch:=fun z=>(rj c z).2.2.1 x c e rfl;by_cases hc:c∈X.fs
  ·obtain⟨sl,q⟩:=slot c o (I.AO x c e) hc AR ho (I.fH x c e);exact⟨_,q,hd⟩
  ·exact⟨o,keep c o (I.AO x c e) hc AR ho (I.fH x c e),hd⟩
 refine⟨I.ok,I.os,hg,⟨fun b o e n hb hx=>?_,fun b o e n hb hx=>?_,fun b o e n hx=>?_,fun b o e hx=>?_,fun b xs e=>jX b xs (I.base.jX b xs e),fun b o xs e=>iK b o xs (I.base.iK b o xs e),fun b ps e=>?_⟩,?_,fun x c e=>?_,?_,fun x c e=>?_,fun p hp=>?_,bC,I.len⟩
 ·exact keep b o (Rm b o e) hb (E6 b o e hx) (I.base.keep b o e n hb hx) (I.base.free b o e n hx)
 ·obtain⟨sl,e1⟩:=I.base.slot b o e n hb hx;obtain⟨OE,e2⟩:=slot b _ (Rm b o e) hb (E6 b o e hx) e1 (I.base.free b o e n hx);exact⟨OE,e2⟩
 ·obtain⟨o',e1⟩:=I.base.there b o e hx;exact free b o' (E6 b o e hx) e1 (I.base.free b o e n hx)
 ·obtain⟨o',e1⟩:=I.base.there b o e hx;exact there b o' (E6 b o e hx) e1
 ·obtain⟨m1,e1⟩:=I.base.i_ b ps e;obtain⟨m2,e2⟩:=i_ b _ e1;exact⟨m1++m2,by rw[e2,Array.append_assoc]⟩
 ·obtain⟨m,hn,hl⟩:=I.loc;refine⟨m,ns m hn,fun i x v e1 e2 e3=>?_⟩;obtain⟨u,r,l⟩:=hl i x v e1 e2 e3;refine⟨u,r,?_⟩;rcases l with l|⟨k,c,e,z⟩
  ·exact .inl l
  ·exact .inr ⟨k,c,e,cellK x c e _ z⟩
 ·obtain⟨v,z⟩:=I.cell x c e;exact⟨v,cellK x c e v z⟩
 ·obtain⟨m,⟨o,_,_,ho,_⟩,_⟩:=I.loc;exact free _ o (fun z=>(rj _ z).2.1 rfl) ho I.free
 ·obtain⟨v,o,ho,hd⟩:=I.cell x c e;exact free c o (fun z=>(rj c z).2.2.1 x c e rfl) ho (I.fH x c e)
 ·obtain⟨e,n,ne,nf,d⟩:=I.pin p hp;have AR:p.1∉ch:=fun z=>(rj p.1 z).2.2.2 p hp rfl;exact⟨keep p.1 p.2 ne nf AR e n,free p.1 p.2 AR e n,ne,nf,d⟩
theorem Inv.un {t':Nat}(I:Inv X pins σ H s)(u:Un X.fs [] H H' s.heap h')(bC:j2 X.prog X.w H' h'):Inv X pins σ H' {s with heap:=h',toks:=t'}:=by
 obtain⟨m,⟨o,es,ep,ho,r⟩,_⟩:=id I.loc;obtain⟨sl,hL⟩:=u.any ho I.free (by simp);exact I.step (g':=s.gens) (d':=s.drawn) (ch:=[]) (fun _ z=>nomatch z) (fun b o _ hb _ e n=>u.keep b o e n hb (by simp)) (fun b o _ hb _ e n=>u.slot b o e n hb (by simp)) (fun b o _ e n=>u.free b o e n (by simp)) (fun b o _ e=>u.there b o e (by simp)) u.jX u.iK u.i_ (fun m' hm=>by
  obtain⟨o',Gh,xC,zk,r'⟩:=hm;rw[ho]at zk;cases zk;exact⟨_,Gh,xC,hL,r'⟩) bC I.bare
theorem Inv.call {g':Array GenState}{t':Nat}{d':Drawn}{ch:List Addr}(I:Inv X pins σ H s)(u:Un (lN X.stack) ch H H' s.heap h')(bC:j2 X.prog X.w H' h')(hg:AllBare g')
  (rj:∀b∈ch,(b∈X.ex\/X.dS.heap.objs.size<=b)/\b≠X.env.locals/\(∀x c,X.env.cells.lookup x=some c->c≠b)/\∀p∈X.pn++pins,p.1≠b):
  Inv X pins σ H' {s with heap:=h',gens:=g',drawn:=d',toks:=t'}:=by
 obtain⟨m,⟨o,es,ep,ho,r⟩,_⟩:=id I.loc;obtain⟨sl,hL⟩:=u.any ho I.free fun z=>(rj _ z).2.1 rfl;exact I.step (ch:=ch) rj (fun b o hL hb hc e n=>u.keep b o e n (fun z=>(aO.mp (I.wm b z)).elim hL hb) hc) (fun b o _ _ hc e n=>u.any e n hc) (fun b o hc e n=>u.free b o e n hc) (fun b o hc e=>u.there b o e hc) u.jX u.iK u.i_ (fun m' hm=>by
  obtain⟨o',Gh,xC,zk,r'⟩:=hm;rw[ho]at zk;cases zk;exact⟨_,Gh,xC,hL,r'⟩) bC hg
theorem Inv.turned {t':Nat}{it:Addr}(I:Inv X pins σ H s)(k:∀b o,b≠it->s.heap.get? b=some o->h'.get? b=some o)(hn:H it=none)(hL:it≠X.env.locals)
  (h1:it∈X.ex\/X.dS.heap.objs.size<=it) (h2:∀x c,X.env.cells.lookup x=some c->c≠it) (h3:∀p∈X.pn++pins,p.1≠it):Inv X pins σ H {s with heap:=h',toks:=t'}:=by
 have Rn:∀b u,H b=some u->b≠it:=fun b u e z=>by rw[z,hn]at e;cases e
 refine I.step (g':=s.gens) (d':=s.drawn) (ch:=[it]) (fun b hb=>?_) (fun b o _ _ hc e _=>k b o (fun z=>hc (by simp[z])) e) (fun b o _ _ hc e _=>⟨o.slots,k b o (fun z=>hc (by simp[z])) e⟩) (fun _ _ _ _ n=>n)
  (fun b o hc e=>⟨o,k b o (fun z=>hc (by simp[z])) e⟩) (fun _ _ e=>e) (fun _ _ _ e=>e) (fun b ps e=>⟨#[],by rw[e];simp⟩) (fun m hm=>?_) (fun b u e=>?_) I.bare
 ·have e:b=it:=by simpa using hb
  subst e;exact⟨h1,hL,h2,h3⟩
 ·obtain⟨o,es,ep,ho,r⟩:=hm;exact⟨o,es,ep,k _ o (bS hL) ho,r⟩
 ·refine(I.bC b u e).j_ (fun c v hc q=>k c v ?_ q) (fun _ q=>q) fun _ _ q=>q;rcases hc with z|z
  ·rw[z];exact Rn b u e
  ·exact Rn c _ z
theorem Inv.tok (I:Inv X pins σ H s)(t:Nat):Inv X pins σ H {s with toks:=t}:=I.un (h':=s.heap) (t':=t) Un.refl I.bC
theorem Inv.kept {t':Nat}(I:Inv X pins σ H s)(k:∀b u,s.heap.get? b=some u->h'.get? b=some u):Inv X pins σ H {s with heap:=h',toks:=t'}:=I.un (Un.kept k) (I.bC.kept k)
theorem Inv.laid {a:Addr}{o:HO}{t':Nat}(I:Inv X pins σ H s)(k:∀b u,s.heap.get? b=some u->h'.get? b=some u)(hp:s.heap.objs.size<=a)(new:bg X.prog X.w (upd H a o) h' a o):
  Inv X pins σ (upd H a o) {s with heap:=h',toks:=t'}:=I.un (Un.laid k hp (I.bC.fresh hp)) (I.bC.laid k hp new)
theorem Inv.write {x e:Addr}{o:HO}{t':Nat}(I:Inv X pins σ H s)(mu:J5 (H x))(he:e=x\/H e=some (.own x))(k:∀b u,b≠e->s.heap.get? b=some u->h'.get? b=some u)(Jp:∃u,h'.get? e=some u)
  (new:bg X.prog X.w (upd H x o) h' x o):Inv X pins σ (upd H x o) {s with heap:=h',toks:=t'}:=I.un (Un.write mu he k Jp) (I.bC.write mu he k Jp new)
theorem Inv.xD {E7:List (Addr×Obj)}(I:Inv X pins σ H s)(h:∀p∈E7,s.heap.get? p.1=some p.2/\H p.1=none/\p.1≠X.env.locals/\p.1∉X.fs/\∀v,p.2.data≠ .cell v):Inv X E7 σ H s:=
 ⟨I.ok,I.os,I.bare,I.base,I.loc,I.cell,I.free,I.fH,fun p hp=>(fM.mp hp).elim (fun z=>I.pin p (oG _ z)) (h p),I.bC,I.len⟩
theorem uB{N:List Str}(hN:N.Nodup){i j:Nat}{x:Str}(a:N[i]?=some x)(b:N[j]?=some x):i=j:=by
 obtain⟨h1,e1⟩:=cJ.mp a;obtain⟨h2,e2⟩:=cJ.mp b;exact(il hN).mp (e1.trans e2.symm)
theorem rm{M:Model}{A:Around}{E:Value->Shared->Prop}{i:Nat}{x:Str}{v:V}{u:Value}{Q:Unit->Shared->Prop}(I:Inv X pins σ H s)(hN:X.N.Nodup)(hi:X.N[i]?=some x)(hx:Loc X.env.scope x)(r:RelV v u)
  (h:∀s',Inv X pins (σ.set i (some v)) H s'->(∃a,Heap.SameBut a s.heap s'.heap/\(a=X.env.locals\/X.env.cells.lookup x=some a))->Q () s') (hf:X.fn x=true\/X.env.scope.names.lookup x=some .local:=by first|exact .inl rfl|exact .inr rfl|assumption):wpAny M A (storeName X.env x u) Q E s:=by
 obtain⟨m,hn,hl⟩:=id I.loc;have Dt:(X.env.scope.kind== .class||(X.env.scope.kind== .module&&X.env.locals !=X.env.globals))=false:=by rw[I.ok.kind];rfl
 have J_:i<σ.length:=by rw[I.len];exact(cJ.mp hi).1
 have AO:=I.AO;have tracked:∀{a:Addr} {h':Heap},(∃o,s.heap.get? a=some o/\H a=none)->Heap.SameBut a s.heap h'->j2 X.prog X.w H h':=fun{a h'} ha hs b ob e=>by
  obtain⟨_,_,xE⟩:=ha;refine(I.bC b ob e).j_ (fun c w' hc q=>(hs.2 c ?_).trans q) (fun _ q=>q) fun _ _ q=>q
  rintro rfl
  rcases hc with rfl|hc
  ·rw[xE]at e;cases e
  ·rw[xE]at hc;cases hc
 rcases hx with hk|hk
 ·refine wpAny_storeName_local hk hn (fun h' Js hs=>?_) Dt;obtain⟨oL,_,_,Dj,_⟩:=id hn;refine h _ ⟨I.ok,I.os,I.bare,⟨fun b o e n hb hx=>?_,fun b o e n hb hx=>?_,I.base.free,fun b o e hx=>?_,I.base.jX,I.base.iK,I.base.i_⟩,⟨_,Js,fun j y v' e1 e2 e3=>?_⟩,fun y c e=>?_,I.free,I.fH,fun p hp=>?_,tracked ⟨oL,Dj,I.free⟩ hs,by simpa using I.len⟩ ⟨_,hs,.inl rfl⟩
  ·exact(hs.2 b (aP (bj (aA e) I.ok.above))).trans (I.base.keep b o e n hb hx)
  ·obtain⟨sl,e1⟩:=I.base.slot b o e n hb hx;exact⟨sl,(hs.2 b (aP (bj (aA e) I.ok.above))).trans e1⟩
  ·obtain⟨o',e1⟩:=I.base.there b o e hx;exact⟨o',(hs.2 b (aP (bj (aA e) I.ok.above))).trans e1⟩
  ·by_cases hj:j=i
   ·subst hj;rw[hi]at e1;cases e1;rw[dI J_]at e2;cases e2;exact⟨u,r,.inl ⟨hk,by simp⟩⟩
   ·rw[cb (bS hj)]at e2;obtain⟨u',r',q⟩:=hl j y v' e1 e2 e3;refine⟨u',r',?_⟩;rcases q with⟨k,e⟩|⟨k,c,e,z⟩
    ·refine .inl ⟨k,?_⟩;have:y≠x:=fun e=>hj (uB hN e1 (e▸hi));simp[this,e]
    ·exact .inr ⟨k,c,e,z.sameBut hs (AO y c e)⟩
  ·obtain⟨w',z⟩:=I.cell y c e;exact⟨w',z.sameBut hs (AO y c e)⟩
  ·obtain⟨e,n,ne,nf,d⟩:=I.pin p hp;exact⟨(hs.2 p.1 ne).trans e,n,ne,nf,d⟩
 ·have Jt:X.fn x=true:=by
   rcases hf with z|z
   ·exact z
   ·rw[z]at hk;cases hk
  obtain⟨c,hc⟩:=I.ok.has x (.inl hk);obtain⟨w',z⟩:=I.cell x c hc;refine wpAny_storeName_cell I.ok.kind hk hc z (fun h' J' hs=>?_);obtain⟨oc,Ju,OI⟩:=id z;refine h {s with heap:=h'} ⟨I.ok,I.os,I.bare,⟨fun b o e n hb hx=>?_,fun b o e n hb hx=>?_,I.base.free,fun b o e hx=>?_,I.base.jX,I.base.iK,I.base.i_⟩,⟨m,hn.sameBut hs (bS (AO x c hc)),fun j y v' e1 e2 e3=>?_⟩,fun y c' e=>?_,I.free,I.fH,fun p hp=>?_,tracked ⟨oc,Ju,I.fH x c hc⟩ hs,by simpa using I.len⟩ ⟨c,hs,.inr hc⟩
  ·exact(hs.2 b (aP (bj (aA e) (I.ok.J9 x c Jt hc)))).trans (I.base.keep b o e n hb hx)
  ·obtain⟨sl,e1⟩:=I.base.slot b o e n hb hx;exact⟨sl,(hs.2 b (aP (bj (aA e) (I.ok.J9 x c Jt hc)))).trans e1⟩
  ·obtain⟨o',e1⟩:=I.base.there b o e hx;exact⟨o',(hs.2 b (aP (bj (aA e) (I.ok.J9 x c Jt hc)))).trans e1⟩
  ·by_cases hj:j=i
   ·subst hj;rw[hi]at e1;cases e1;rw[dI J_]at e2;cases e2;exact⟨u,r,.inr ⟨.inl hk,c,hc,J'⟩⟩
   ·rw[cb (bS hj)]at e2;obtain⟨u',r',q⟩:=hl j y v' e1 e2 e3;refine⟨u',r',?_⟩;rcases q with q|⟨k,c',e,z'⟩
    ·exact .inl q
    ·refine .inr ⟨k,c',e,z'.sameBut hs ?_⟩
     rintro rfl
     exact hj (uB hN e1 (I.ok.inj _ _ _ e hc▸hi))
  ·by_cases Ro:c'=c
   ·subst Ro;exact⟨_,J'⟩
   ·obtain⟨w2,z2⟩:=I.cell y c' e;exact⟨w2,z2.sameBut hs Ro⟩
  ·obtain⟨e,n,ne,nf,d⟩:=I.pin p hp;refine⟨(hs.2 p.1 ?_).trans e,n,ne,nf,d⟩;intro q;rw[q,Ju]at e;have q':oc=p.2:=Option.some.inj e;exact d w' (by rw[<-q'];exact OI)
theorem pq{M:Model}{A:Around}{E:Value->Shared->Prop}{i:Nat}{x:Str}{v:V}{u:Value}{Q:Unit->Shared->Prop}(I:Inv X pins σ H s)(hN:X.N.Nodup)(hi:X.N[i]?=some x)(hx:Loc X.env.scope x)(r:RelV v u)
  (h:∀s',Inv X pins (σ.set i (some v)) H s'->Q () s') (hf:X.fn x=true\/X.env.scope.names.lookup x=some .local:=by first|exact .inl rfl|exact .inr rfl|assumption):wpAny M A (storeName X.env x u) Q E s:=
 rm I hN hi hx r (fun s' I' _=>h s' I') hf
theorem Inv.Ka {s':Shared}{ch:List Addr}(I:Inv X pins σ H s)(ho:s'.os=s.os)(u:Un (lN X.stack) ch H H' s.heap s'.heap)(bC:j2 X.prog X.w H' s'.heap)(hg:AllBare s'.gens)
  (rj:∀b∈ch,(b∈X.ex\/X.dS.heap.objs.size<=b)/\b≠X.env.locals/\(∀x c,X.env.cells.lookup x=some c->c≠b)/\∀p∈X.pn++pins,p.1≠b):Inv X pins σ H' s':=by
 obtain⟨h',g',d',t',o'⟩:=s';have e:o'=s.os:=ho;subst e;exact I.call (g':=g') (t':=t') (d':=d') u bC hg rj
end
abbrev XK:=Value->Option Addr->Hp->Prop
abbrev St:=List (Option V)
abbrev VK:=V->Hp->Prop
abbrev TE:=St->Hp->VK->Prop
abbrev TT:=St->Hp->(Bool->Hp->Prop)->Prop
abbrev TA:=St->Hp->(List V->Hp->Prop)->Prop
structure Ends where
 nx:St->Hp->Prop
 rt:VK
 bk:St->Hp->Prop:=fun _ _=>False
 ct:St->Hp->Prop:=fun _ _=>False
abbrev TS:=Ends->St->Hp->Prop
def EP(X:Cx)(pins:List (Addr×Obj))(σ:St)(Q:VK)(u:Value)(s':Shared):Prop:=∃v H',Inv X pins σ H' s'/\RelV v u/\Q v H'
def TP(X:Cx)(pins:List (Addr×Obj))(σ:St)(Q:Bool->Hp->Prop)(b:Bool)(s':Shared):Prop:=∃H',Inv X pins σ H' s'/\Q b H'
def AP(X:Cx)(pins:List (Addr×Obj))(σ:St)(Q:List V->Hp->Prop)(us:List Value)(s':Shared):Prop:=∃vs H',Inv X pins σ H' s'/\Vals vs us/\Q vs H'
def SP(X:Cx)(pins:List (Addr×Obj))(D:Ends)(f:Flow)(s':Shared):Prop:=
 match f with
 |.next=>∃bA H',Inv X pins bA H' s'/\D.nx bA H'
 |.brk=>∃bA H',Inv X pins bA H' s'/\D.bk bA H'
 |.cont=>∃bA H',Inv X pins bA H' s'/\D.ct bA H'
 |.ret u=>∃v bA H',Inv X pins bA H' s'/\RelV v u/\D.rt v H'
def PE(X:Cx)(e:Expr)(t:TE):Prop:=
 ∀(pins:List (Addr×Obj)) (s:Shared) (σ:St) (H:Hp) (Q:VK),Inv X pins σ H s->t σ H Q->wpAny (model X.prog X.w) X.A (eval e X.env) (EP X pins σ Q) X.xe s
def PT(X:Cx)(e:Expr)(t:TT):Prop:=
 ∀(pins:List (Addr×Obj)) (s:Shared) (σ:St) (H:Hp) (Q:Bool->Hp->Prop),Inv X pins σ H s->t σ H Q->wpAny (model X.prog X.w) X.A (isTrue e X.env (eval e X.env)) (TP X pins σ Q) X.xe s
def PW(X:Cx)(e:Expr)(t:TT):Prop:=
 ∀(whole:Sem Value) (pins:List (Addr×Obj)) (s:Shared) (σ:St) (H:Hp) (Q:Bool->Hp->Prop),Inv X pins σ H s->t σ H Q->wpAny (model X.prog X.w) X.A (isTrue e X.env whole) (TP X pins σ Q) X.xe s
theorem PW.pt {X:Cx}{e:Expr}{t:TT}(h:PW X e t):PT X e t:=h _
def PA(X:Cx)(es:List Expr)(t:TA):Prop:=
 ∀(pos:Pos) (pins:List (Addr×Obj)) (s:Shared) (σ:St) (H:Hp) (Q:List V->Hp->Prop),Inv X pins σ H s->t σ H Q->wpAny (model X.prog X.w) X.A (spliced (backTo pos (starEach es X.env))) (AP X pins σ Q) X.xe s
def PS(X:Cx)(st:Stmt)(t:TS):Prop:=
 ∀(pins:List (Addr×Obj)) (s:Shared) (σ:St) (H:Hp) (D:Ends),Inv X pins σ H s->t D σ H->wpAny (model X.prog X.w) X.A (exec st X.env) (SP X pins D) X.xe s
def ja(X:Cx)(st:List Stmt)(t:TS):Prop:=
 ∀(pins:List (Addr×Obj)) (s:Shared) (σ:St) (H:Hp) (D:Ends),Inv X pins σ H s->t D σ H->wpAny (model X.prog X.w) X.A (execs st X.env) (SP X pins D) X.xe s
theorem dq{α:Type}{t:Sem α}{Q Q':α->Shared->Prop}{M:Model}{A:Around}{E:Value->Shared->Prop}{s:Shared}(h:wpAny M A t Q E s)(hQ:∀a s,Q a s->Q' a s):wpAny M A t Q' E s:=c0 h hQ fun _ _ x=>x
end L2
namespace L2
open PySem PySem.Spec PyProof.Rows
section
variable {X:Cx}
def OJ(i:Nat):TE:=fun σ H Q=>∃v,σ[i]?=some (some v)/\Q v H
def tC(v:V):TE:=fun _ H Q=>Q v H
theorem AS{i:Nat}{x:Str}{pos:Pos}(hN:X.N[i]?=some x)(hv:Gg X.env.scope x)(hd:(x==("__debug__":Str))=false:=by decide) (nC:(x==("__classdict__":Str))=false:=by decide):PE X (.Name x pos) (OJ i):=by
 intro pins s σ H Q I h;obtain⟨v,e,h⟩:=h;obtain⟨m,hn,hl⟩:=I.loc;obtain⟨u,r,l⟩:=hl i x v hN e hv;have fin:EP X pins σ Q u s:=⟨v,H,I,r,h⟩;rcases l with⟨hk,hm⟩|⟨hk,c,hc,ng⟩
 ·exact f9 (lg I.ok.kind hk hn hm fin) hd
 ·rcases hk with hk|hk
  ·exact f9 (oW I.ok.kind hk hc ng fin) hd
  ·exact f9 (wpAny_loadName_free I.ok.kind hk hc ng fin nC) hd
theorem Gi{i j pos}:PE X (.Constant (.int i) j pos) (tC (.int i)):=fun _ _ _ H _ I h=>wpAny_Constant_int ⟨.int i,H,I.tok _,⟨_,rfl⟩,h⟩
theorem Kb{b j pos}:PE X (.Constant (.bool b) j pos) (tC (.bl b)):=fun _ _ _ H _ I h=>Constant_bool ⟨.bl b,H,I,rfl,h⟩
theorem Gj{j pos}:PE X (.Constant .none j pos) (tC .bU):=fun _ _ _ H _ I h=>Constant_none ⟨.bU,H,I,rfl,h⟩
def Gl(X:Cx)(x:Str):Prop:=X.env.kindOf x=some .globalImplicit
theorem Du{E:Value->Shared->Prop}{pins:List (Addr×Obj)}{s:Shared}{σ:St}{H:Hp}{x:Str}{u:Value}{pos:Pos}{Q:Value->Shared->Prop}(I:Inv X pins σ H s)(hg:Gl X x)(hm:X.mg x=some u)(h:Q u s)
  (hd:(x==("__debug__":Str))=false:=by decide):wpAny (model X.prog X.w) X.A (eval (.Name x pos) X.env) Q E s:=
 Calls.Name_function_global I.ok.kind hg (Calls.loadGlobal_global (by rw[I.ok.glob];exact I.mod.glob.keeps I.bk) hm h) hd
theorem ka{E:Value->Shared->Prop}{pins:List (Addr×Obj)}{s:Shared}{σ:St}{H:Hp}{x:Str}{u:Value}{pos:Pos}{Q:Value->Shared->Prop}(I:Inv X pins σ H s)(hg:Gl X x)(hm:X.mg x=none)(hv:bootBuiltins x=some u)(h:Q u s)
  (hn:x≠"__name__":=by decide) (hd:(x==("__debug__":Str))=false:=by decide):wpAny (model X.prog X.w) X.A (eval (.Name x pos) X.env) Q E s:=by
 obtain⟨mb,h1,h2⟩:=I.mod.blt;exact Calls.Name_function_global I.ok.kind hg (Calls.loadGlobal_builtin (by rw[I.ok.glob];exact I.mod.glob.keeps I.bk) hm (by rw[I.ok.blt];exact h1.keeps I.bk) ((h2 x hn).trans hv) h) hd
theorem Dv{x:Str}{v:V}{u:Value}{pos:Pos}(hg:Gl X x)(hm:X.mg x=none)(hv:bootBuiltins x=some u)(r:RelV v u)(hn:x≠"__name__":=by decide) (hd:(x==("__debug__":Str))=false:=by decide):PE X (.Name x pos) (tC v):=
 fun _ _ _ H _ I h=>ka I hg hm hv ⟨v,H,I,r,h⟩ hn hd
variable {a b:Expr}{ta tb:TE}{pos:Pos}
def tB(t:TE):TT:=fun σ H Q=>t σ H fun x H1=>∃c,x=.bl c/\Q c H1
variable {tA Rp:TT}{rest:List Expr}
def SJ(t u:TT):TT:=fun σ H Q=>t σ H fun c H1=>if c=true then Q true H1 else u σ H1 Q
def OK(t:TT):TT:=fun σ H Q=>t σ H fun c H1=>Q (!c) H1
theorem pw_or1(ha:PT X a tA):PW X (.BoolOp .Or [a] pos) tA:=by
 intro wh pins s σ H Q I h;refine isTrue_or (dq (ha pins s σ H Q I h) fun c s1 e=>?_);cases c with
 |false=>exact isTrue_or_nil e
 |true=>exact e
theorem pw_or(ha:PT X a tA)(hb:PW X (.BoolOp .Or (b::rest) pos) Rp):PW X (.BoolOp .Or (a::b::rest) pos) (SJ tA Rp):=by
 intro wh pins s σ H Q I h;refine isTrue_or (dq (ha pins s σ H _ I h) fun c s1 ⟨H1,I1,q1⟩=>?_);cases c with
 |true=>exact⟨H1,I1,q1⟩
 |false=>exact hb wh pins s1 σ H1 Q I1 q1
theorem AU(ha:PT X a tA):PT X (.UnaryOp .Not a pos) (OK tA):=by
 intro pins s σ H Q I h;exact isTrue_not (ha pins s σ H (fun c H1=>Q (!c) H1) I h)
theorem Gk{op}{t:TE}(h:PE X a t):PE X (.BoolOp op [a] pos) t:=fun pins s σ H Q I hw=>BoolOp_one (h pins s σ H Q I hw)
end
end L2
namespace L2
open PySem PySem.Spec PyProof.Rows
def g8(K:PySem.W.Frag)(H:Hp)(a:Addr)(xs:List V):Prop:=
 Rd H a (.lst xs)\/
  ∃(o:Obj) (aT:Array Value) (n:Nat),K.lookup a=some o/\o.cls=.type "list"/\o.dict=none/\o.data=.seq aT n/\aT.size<=sizeLine/\Vals xs aT.toList
def gy(K:PySem.W.Frag)(H:Hp)(a:Addr)(xs:List V):Prop:=
 Rd H a (.tup xs)\/
  ∃(o:Obj) (aT:Array Value) (n:Nat),K.lookup a=some o/\o.cls=.type "tuple"/\o.data=.seq aT n/\aT.size<=sizeLine/\Vals xs aT.toList
def OL:Value->Option V
 |.none=>some .bU
 |.bool b=>some (.bl b)
 |.int i _=>some (.int i)
 |.str x _=>some (.str x)
 |.bytes b _=>some (.Gd b)
 |.float b _=>some (.E4 b)
 |.ref a=>some (.ref a)
 |.type n=>some (.ty n)
 |_=>none
theorem RelV.abs {x:V}{u:Value}(r:RelV x u):OL u=some x:=by
 cases x with
 |bU=>cases r;rfl
 |bl _=>cases r;rfl
 |int _=>obtain⟨t,rfl⟩:=r;rfl
 |str _=>obtain⟨t,rfl⟩:=r;rfl
 |Gd _=>obtain⟨t,rfl⟩:=r;rfl
 |E4 _=>obtain⟨t,rfl⟩:=r;rfl
 |ref _=>cases r;rfl
 |ty _=>cases r;rfl
theorem RelV.inj {x y:V}{u:Value}(r:RelV x u)(q:RelV y u):x=y:=Option.some.inj (r.abs.symm.trans q.abs)
theorem Vals.inj:∀{xs ys:List V} {us:List Value},Vals xs us->Vals ys us->xs=ys
 |_,_,_,.nil,.nil=>rfl
 |_,_,_,.cons r t,.cons r' t'=>by rw[r.inj r',Vals.inj t t']
section
variable {X:Cx}{pins:List (Addr×Obj)}{σ:St}{H:Hp}{s:Shared}{a:Addr}{xs ys:List V}
theorem g8.of {K:PySem.W.Frag}(h:H a=some (.lst xs)):g8 K H a xs:=.inl (.inl h)
theorem Inv.list (I:Inv X pins σ H s)(h:g8 X.K H a xs):∃aT:List Value,Vals xs aT/\PlainL s.heap a aT.toArray/\xs.length<=sizeLine:=by
 rcases h with h|⟨o,aT,n,hk,hc,hd,hs,hz,r⟩
 ·obtain⟨z,aT,n,r,e⟩:=h.ok I.bC;exact⟨aT,r,⟨_,n,e,rfl,rfl,rfl⟩,z⟩
 ·refine⟨aT.toList,r,⟨o,n,I.nB a o hk,hc,hd,by simpa using hs⟩,?_⟩;have e:=r.length;simp only[bw]at e;omega
theorem Inv.tuple (I:Inv X pins σ H s)(h:gy X.K H a xs):∃aT:List Value,Vals xs aT/\IsTup s.heap a aT.toArray/\xs.length<=sizeLine:=by
 rcases h with h|⟨o,aT,n,hk,hc,hs,hz,r⟩
 ·obtain⟨z,aT,r,p⟩:=h.ok I.bC;exact⟨aT,r,p.tup,z⟩
 ·refine⟨aT.toList,r,⟨o,I.nB a o hk,hc,n,by simpa using hs⟩,?_⟩;have e:=r.length;simp only[bw]at e;omega
theorem Inv.AV (I:Inv X pins σ H s)(h:g8 X.K H a xs)(h':g8 X.K H a ys):xs=ys:=by
 obtain⟨aT,r,⟨o,n,e,_,_,d⟩,_⟩:=I.list h;obtain⟨sL,r',⟨o',n',e',_,_,d'⟩,_⟩:=I.list h';rw[e]at e';cases e';rw[d]at d';injection d' with d1 _
 have:aT=sL:=by simpa using bH Array.toList d1
 subst this;exact r.inj r'
theorem Inv.jP (I:Inv X pins σ H s)(h:gy X.K H a xs)(h':gy X.K H a ys):xs=ys:=by
 obtain⟨aT,r,⟨o,e,_,n,d⟩,_⟩:=I.tuple h;obtain⟨sL,r',⟨o',e',_,n',d'⟩,_⟩:=I.tuple h';rw[e]at e';cases e';rw[d]at d';injection d' with d1 _
 have:aT=sL:=by simpa using bH Array.toList d1
 subst this;exact r.inj r'
end
abbrev Cx.qU (X:Cx)(E:Value->Shared->Prop):Cx:={X with xe:=E}
abbrev Cx.AE (X:Cx):Cx:=X.qU fun _ _=>False
theorem Cx.Ok.qU {X:Cx}(ok:X.Ok)(E:Value->Shared->Prop):(X.qU E).Ok:=
 ⟨ok.mod,ok.kind,ok.glob,ok.blt,ok.above,ok.inj,ok.has,ok.J9,ok.hd,ok.frames,ok.Jq,ok.OF,ok.bs,ok.E5,ok.zj,ok.AN,ok.pk,ok.Jr⟩
theorem Cx.Ok.jb {X:Cx}{E:Value->Shared->Prop}(ok:(X.qU E).Ok):X.Ok:=
 ⟨ok.mod,ok.kind,ok.glob,ok.blt,ok.above,ok.inj,ok.has,ok.J9,ok.hd,ok.frames,ok.Jq,ok.OF,ok.bs,ok.E5,ok.zj,ok.AN,ok.pk,ok.Jr⟩
section
variable {X:Cx}{pins:List (Addr×Obj)}{σ:St}{H:Hp}{s:Shared}{E:Value->Shared->Prop}
theorem Inv.qU (I:Inv X pins σ H s)(E:Value->Shared->Prop):Inv (X.qU E) pins σ H s:=⟨I.ok.qU E,I.os,I.bare,I.base,I.loc,I.cell,I.free,I.fH,I.pin,I.bC,I.len⟩
theorem Inv.jb (I:Inv (X.qU E) pins σ H s):Inv X pins σ H s:=⟨I.ok.jb,I.os,I.bare,I.base,I.loc,I.cell,I.free,I.fH,I.pin,I.bC,I.len⟩
theorem SP.jb {D:Ends}{f:Flow}{s':Shared}(h:SP (X.qU E) pins D f s'):SP X pins D f s':=by
 cases f with
 |next=>obtain⟨bA,H',I,q⟩:=h;exact⟨bA,H',I.jb,q⟩
 |brk=>obtain⟨bA,H',I,q⟩:=h;exact⟨bA,H',I.jb,q⟩
 |cont=>obtain⟨bA,H',I,q⟩:=h;exact⟨bA,H',I.jb,q⟩
 |ret u=>obtain⟨v,bA,H',I,r,q⟩:=h;exact⟨v,bA,H',I.jb,r,q⟩
theorem ja.AE {st:List Stmt}{t:TS}(h:ja X.AE st t):ja X st t:=fun pins s σ H D I hw=>
 c0 (h pins s σ H D (I.qU _) hw) (fun _ _ q=>q.jb) fun _ _ z=>False.elim z
end
section
variable {X:Cx}{st:Stmt}{rest:List Stmt}{t u:TS}{e:Expr}{te:TE}{pos:Pos}
def Kc:TS:=fun D σ H=>D.nx σ H
def OM(t u:TS):TS:=fun D σ H=>t {D with nx:=u D} σ H
theorem xF:ja X [] Kc:=fun _ _ σ H _ I h=>lD ⟨σ,H,I,h⟩
theorem uC(h1:PS X st t)(h2:ja X rest u):ja X (st::rest) (OM t u):=by
 intro pins s σ H D I h;refine wpAny_execs_cons (dq (h1 pins s σ H {D with nx:=u D} I h) fun f s1 q=>?_);cases f with
 |next=>
  obtain⟨bA,H',I',q⟩:=q;exact h2 pins s1 bA H' D I' q
 |ret v=>exact q
 |brk=>exact q
 |cont=>exact q
theorem xG(h1:PS X st t):ja X [st] t:=by
 intro pins s σ H D I h;refine wpAny_execs_cons (dq (h1 pins s σ H D I h) fun f s1 q=>?_);cases f with
 |next=>exact lD q
 |ret v=>exact q
 |brk=>exact q
 |cont=>exact q
theorem Inv.quiet {pins:List (Addr×Obj)}{σ:St}{H:Hp}{s:Shared}(I:Inv X pins σ H s):interactive X.env=false:=by simp[interactive,I.ok.kind]
def Kd(te:TE):TS:=fun D σ H=>te σ H fun _ H1=>D.nx σ H1
theorem Dw(he:PE X e te)(hs:swapsWith e none pos.line X.env=pure false:=by rfl):PS X (.Expr e pos) (Kd te):=by
 intro pins s σ H D I h;exact wpAny_Expr_any (dq (he pins s σ H _ I h) fun v s1 ⟨x,H1,I1,r1,q1⟩=>⟨σ,H1,I1,q1⟩) I.quiet hs
def ON(te:TE):TS:=fun D σ H=>te σ H D.rt
theorem AW(he:PE X e te):PS X (.Return (some e) pos) (ON te):=by
 intro pins s σ H D I h;exact wpAny_Return_some (dq (he pins s σ H _ I h) fun v s1 ⟨x,H1,I1,r1,q1⟩=>⟨x,σ,H1,I1,r1,q1⟩)
def OO(c:TT)(t u:TS):TS:=fun D σ H=>c σ H fun b H1=>if b=true then t D σ H1 else u D σ H1
theorem E8{c:Expr}{a b:List Stmt}{tc:TT}(hc:PT X c tc)(ha:ja X a t)(hb:ja X b u):PS X (.If c a b pos) (OO tc t u):=by
 intro pins s σ H D I h;refine wpAny_If (dq (hc pins s σ H _ I h) fun d s1 ⟨H1,I1,q1⟩=>?_);cases d with
 |true=>exact ha pins s1 σ H1 D I1 q1
 |false=>exact hb pins s1 σ H1 D I1 q1
end
abbrev TG:=V->St->Hp->(St->Hp->Prop)->Prop
abbrev Gm:=List V->St->Hp->(St->Hp->Prop)->Prop
def PG(X:Cx)(target:Expr)(t:TG):Prop:=
 ∀(pins:List (Addr×Obj)) (s:Shared) (σ:St) (H:Hp) (v:V) (u:Value) (Q:St->Hp->Prop),Inv X pins σ H s->RelV v u->t v σ H Q->
  wpAny (model X.prog X.w) X.A (assign target X.env u) (fun _ s'=>∃bA H',Inv X pins bA H' s'/\Q bA H') X.xe s
def Dx(X:Cx)(ts:List Expr)(t:Gm):Prop:=
 ∀(pins:List (Addr×Obj)) (s:Shared) (σ:St) (H:Hp) (vs:List V) (us:List Value) (Q:St->Hp->Prop),Inv X pins σ H s->Vals vs us->t vs σ H Q->
  wpAny (model X.prog X.w) X.A (assignInOrder ((assignEach ts X.env).map (·.2)) us) (fun _ s'=>∃bA H',Inv X pins bA H' s'/\Q bA H') X.xe s
abbrev OP:=V->V->Hp->VK->Prop
def SK(X:Cx)(op:Operator)(t:OP):Prop:=
 ∀(pins:List (Addr×Obj)) (s:Shared) (σ:St) (H:Hp) (x y:V) (v u:Value) (Q:VK),Inv X pins σ H s->RelV x v->RelV y u->t x y H Q->
  wpAny (model X.prog X.w) X.A (inplaceOp op v u) (EP X pins σ Q) X.xe s
section
variable {X:Cx}{pos:Pos}
def AX(i:Nat):TG:=fun v σ H Q=>Q (σ.set i (some v)) H
theorem sM{i:Nat}{x:Str}(hN:X.N.Nodup)(hi:X.N[i]?=some x)(hx:Loc X.env.scope x)(hf:X.fn x=true\/X.env.scope.names.lookup x=some .local:=by first|exact .inl rfl|exact .inr rfl|assumption):PG X (.Name x pos) (AX i):=by
 intro pins s σ H v u Q I r h;exact wpAny_assign_Name (pq I hN hi hx r (fun s' I'=>⟨_,H,I',h⟩) hf)
def OQ:Gm:=fun vs σ H Q=>vs=[]/\Q σ H
def Ke(t:TG)(u:Gm):Gm:=fun vs σ H Q=>∃v r,vs=v::r/\t v σ H fun bA H'=>u r bA H' Q
theorem Dy:Dx X [] OQ:=by
 intro pins s σ H vs us Q I r h;obtain⟨e,h⟩:=h;subst e;cases r;exact assignInOrder_nil ⟨σ,H,I,h⟩
theorem AY{e:Expr}{es:List Expr}{t:TG}{u:Gm}(h1:PG X e t)(h2:Dx X es u)
  (hs:(assignEach (e::es) X.env).map (·.2)=assign e X.env::(assignEach es X.env).map (·.2):=by rfl):Dx X (e::es) (Ke t u):=by
 intro pins s σ H vs us Q I r h;obtain⟨v,vr,e1,h⟩:=h;subst e1;cases r with
 |cons r rr=>
  rw[hs];refine assignInOrder_cons (dq (h1 pins s σ H _ _ _ I r h) fun _ s1 ⟨E9,H1,I1,q1⟩=>?_);exact h2 pins s1 E9 H1 _ _ Q I1 rr q1
def OR(K:PySem.W.Frag)(n:Nat)(t:Gm):TG:=fun v σ H Q=>∃a xs,v=.ref a/\gy K H a xs/\xs.length=n/\t xs σ H Q
theorem Gn{es:List Expr}{k:Nat}{t:Gm}{n:Nat}(hc:X.calm=true)(h:Dx X es t)
  (hn:(assignEach es X.env).length=n:=by rfl) (cS:(assignEach es X.env).findIdx? (·.1)=none:=by rfl):PG X (.Tuple es k pos) (OR X.K n t):=by
 intro pins s σ H v u Q I r hw;obtain⟨a,xs,e1,hq,hl,hw⟩:=hw;subst e1;cases r;obtain⟨aT,rv,ht,hz⟩:=I.tuple hq;refine assign_Tuple_tuple (I.ok.hd hc) ht (by simp[hn,<-hl,rv.length]) cS fun h' hx=>?_
 have I1:Inv X pins σ H {s with heap:=h'}:=I.kept (t':=s.toks) fun b o e=>hx b o (aP (aA e)) e;exact h pins _ σ H xs _ Q I1 (by simpa using rv) hw
def OS(te:TE)(g:TG):TS:=fun D σ H=>te σ H fun x H1=>g x σ H1 D.nx
theorem AZ{i:Nat}{x:Str}{e:Expr}{te:TE}{pos':Pos}(hN:X.N.Nodup)(hi:X.N[i]?=some x)(hx:Loc X.env.scope x)(he:PE X e te)(hs:swapsWith e (some (.Name x pos')) pos.line X.env=pure false:=by rfl) (hf:X.fn x=true\/X.env.scope.names.lookup x=some .local:=by first|exact .inl rfl|exact .inr rfl|assumption):
  PS X (.Assign [.Name x pos'] e pos) (OS te (AX i)):=by
 intro pins s σ H D I h;refine wpAny_Assign_Name (dq (he pins s σ H _ I h) fun v s1 ⟨y,H1,I1,r1,q1⟩=>?_) hs;exact pq I1 hN hi hx r1 (fun s2 I2=>⟨_,H1,I2,q1⟩) hf
def OT(i:Nat)(te:TE)(ti:OP):TS:=fun D σ H=>∃x,σ[i]?=some (some x)/\te σ H fun y H1=>ti x y H1 fun z H2=>D.nx (σ.set i (some z)) H2
theorem Gp{i:Nat}{x:Str}{e:Expr}{te:TE}{op:Operator}{ti:OP}{pos':Pos}(hN:X.N.Nodup)(hi:X.N[i]?=some x)(hx:Loc X.env.scope x)(he:PE X e te)(ho:SK X op ti)(hf:X.fn x=true\/X.env.scope.names.lookup x=some .local:=by first|exact .inl rfl|exact .inr rfl|assumption):
  PS X (.AugAssign (.Name x pos') op e pos) (OT i te ti):=by
 intro pins s σ H D I h;obtain⟨v,e1,h⟩:=h;obtain⟨m,hn,hl⟩:=I.loc;have fy:Gg X.env.scope x:=by rcases hx with k|k;exact .inl k;exact .inr (.inl k)
 obtain⟨u,r,l⟩:=hl i x v hi e1 fy;refine wpAny_AugAssign_Name ?_
 have go:wpAny (model X.prog X.w) X.A (eval e X.env) (fun w mE=>wpAny (model X.prog X.w) X.A (inplaceOp op u w) (fun r wo=>wpAny (model X.prog X.w) X.A (storeName X.env x r) (fun _=>SP X pins D .next) X.xe wo) X.xe mE) X.xe s:=by
  refine dq (he pins s σ H _ I h) fun w s1 ⟨y,H1,I1,r1,q1⟩=>?_
  refine dq (ho pins s1 σ H1 v y u w _ I1 r r1 q1) fun z s2 ⟨zv,H2,I2,r2,q2⟩=>?_
  exact pq I2 hN hi hx r2 (fun s3 I3=>⟨_,H2,I3,q2⟩) hf
 rcases l with⟨hk,hm⟩|⟨hk,c,hc,ng⟩
 ·exact lg I.ok.kind hk hn hm go
 ·rcases hk with hk|hk
  ·exact oW I.ok.kind hk hc ng go
  ·rcases hx with k|k
   ·have:X.env.scope.names.lookup x=some .free:=hk;rw[k]at this;cases this
   ·have:X.env.scope.names.lookup x=some .free:=hk;rw[k]at this;cases this
end
section
variable {X:Cx}{pos:Pos}
def Gq(c:TT)(tb:TS):TS:=fun D σ H=>∃W:Nat->St->Hp->Prop,(∃m,W m σ H)/\∀m σ H,W m σ H->
 c σ H fun b H1=>if b=true then∃N:St->Hp->Prop,(∀bA H',N bA H'->∃m',m'<m/\W m' bA H')/\tb {D with nx:=N,ct:=N,bk:=D.nx} σ H1 else D.nx σ H1
theorem A5{c:Expr}{body:List Stmt}{tc:TT}{tb:TS}(hp:PassesOwn (model X.prog X.w) X.A X.env X.xe)(hc:PT X c tc)(hb:ja X body tb):PS X (.While c body [] pos) (Gq tc tb):=by
 intro pins s σ H D I h;obtain⟨W,⟨m0,w0⟩,turn⟩:=h;refine wpAny_While (codeAny_whileLoop (fun n s'=>∃bA H',Inv X pins bA H' s'/\W n bA H') ?_ m0 ⟨σ,H,I,w0⟩)
 rintro n s1 ⟨E9,H1,I1,w1⟩
 refine fT hp (dq (hc pins s1 E9 H1 _ I1 (turn n E9 H1 w1)) fun b s2 ⟨H2,I2,q2⟩=>?_);cases b with
 |true=>
  obtain⟨N,hN,q2⟩:=q2;rw[ab rfl];refine fT hp (dq (hb pins s2 E9 H2 _ I2 q2) fun f s3 q3=>?_);cases f with
  |next=>
   obtain⟨wq,H3,I3,n3⟩:=q3;obtain⟨m',hm,w3⟩:=hN wq H3 n3;exact⟨m',hm,wq,H3,I3,w3⟩
  |cont=>
   obtain⟨wq,H3,I3,n3⟩:=q3;obtain⟨m',hm,w3⟩:=hN wq H3 n3;exact⟨m',hm,wq,H3,I3,w3⟩
  |brk=>exact q3
  |ret v=>exact q3
 |false=>
  rw[ae cj];exact lD ⟨E9,H2,I2,q2⟩
end
structure It where
 go:Nat->Hp->Prop
 xH:Nat->Hp->V->Hp->Prop
 stop:Nat->Hp->Prop
def iL(X:Cx)(pins:List (Addr×Obj))(H:Hp)(b:Addr):Prop:=
 H b=none/\b≠X.env.locals/\b∉X.fs/\(b∈X.ex\/X.dS.heap.objs.size<=b)/\(∀x c,X.env.cells.lookup x=some c->c≠b)/\∀p∈X.pn++pins,p.1≠b
theorem Inv.uD {X:Cx}{pins:List (Addr×Obj)}{σ:St}{H H':Hp}{s:Shared}{b:Addr}(I:Inv X pins σ H s)(hb:s.heap.objs.size<=b)(hn:H' b=none):iL X pins H' b:=by
 refine⟨hn,bY (bj I.lt hb),I.OH hb,.inr (bo I.sz hb),fun x c e z=>?_,fun p hp z=>?_⟩
 ·obtain⟨v,q⟩:=I.cell x c e;exact absurd (bj q.lt (by rw[z];exact hb)) (ck _)
 ·exact absurd (bj (aA (I.pin p hp).1) (by rw[z];exact hb)) (ck _)
structure Turn(P:Program)(w:World)(K:PySem.W.Frag)(tg:Expr)(J:It)(fp:List Addr)(it:Addr)(tn:Nat->Heap->Prop):Prop where
 mem:it∈fp
 obj:∀i h,tn i h->∀b∈fp,∃o,h.get? b=some o/\∀v,o.data≠ .cell v
 keep:∀i h h',tn i h->(∀b∈fp,∀o,h.get? b=some o->h'.get? b=some o)->tn i h'
 item:∀(X:Cx),X.prog=P->X.w=w->X.K=K->X.calm=true->∀(i:Nat) (pins:List (Addr×Obj)) (s:Shared) (σ:St) (H:Hp) (E:Value->Shared->Prop),Inv X pins σ H s->(∀b∈fp,iL X pins H b)->tn i s.heap->J.go i H->
  wpAny (model P w) X.A (pyNext (.ref it)) (fun r s1=>∃u,r=some u/\
   wpAny (model P w) X.A (letOwnedTupleGo tg (.ref it) u) (fun _ s2=>∃x H',Inv X pins σ H' s2/\RelV x u/\J.xH i H x H'/\tn (i+1) s2.heap/\∀b∈fp,H' b=none) E s1) E s
 done:∀(X:Cx),X.prog=P->X.w=w->X.K=K->X.calm=true->∀(i:Nat) (pins:List (Addr×Obj)) (s:Shared) (σ:St) (H:Hp) (E:Value->Shared->Prop),Inv X pins σ H s->(∀b∈fp,iL X pins H b)->tn i s.heap->J.stop i H->
  wpAny (model P w) X.A (pyNext (.ref it)) (fun r s1=>r=none/\Inv X pins σ H s1) E s
 self:∀(A:Around) (i:Nat) (s:Shared) (Q:Value->Shared->Prop) (E:Value->Shared->Prop),tn i s.heap->Q (.ref it) s->wpAny (model P w) A (pyIter (.ref it)) Q E s
abbrev TI:=St->Hp->(It->Hp->Prop)->Prop
def NC(X:Cx)(pins:List (Addr×Obj))(σ:St)(tg:Expr)(R:It->Hp->Prop)(ND:Value)(s2:Shared):Prop:=
 ∃(it:Addr) (fp:List Addr) (tn:Nat->Heap->Prop) (J:It) (H':Hp),ND=.ref it/\Inv X pins σ H' s2/\Turn X.prog X.w X.K tg J fp it tn/\tn 0 s2.heap/\(∀b∈fp,iL X pins H' b)/\R J H'
def PI(X:Cx)(tg iter:Expr)(wi:TI):Prop:=
 ∀(pins:List (Addr×Obj)) (s:Shared) (σ:St) (H:Hp) (R:It->Hp->Prop),Inv X pins σ H s->wi σ H R->
  wpAny (model X.prog X.w) X.A (eval iter X.env) (fun v s1=>wpAny (model X.prog X.w) X.A (pyIter v) (NC X pins σ tg R) X.xe s1) X.xe s
theorem uE{M:Model}{A:Around}{E:Value->Shared->Prop}{s:Shared}{tg:Expr}{it:Addr}{u:Value}{o:Obj}{n:String}{vs:Array Value}{Q:Unit->Shared->Prop}(ho:s.heap.get? it=some o)(hc:o.cls=.type n)(hd:o.data=.fields vs)
  (hn:["enumerate","zip","dict_itemiterator","dict_reverseitemiterator","odict_iterator","itertools.zip_longest","itertools.pairwise"].contains n=false) (hQ:Q () s):wpAny M A (letOwnedTupleGo tg (.ref it) u) Q E s:=by
 unfold letOwnedTupleGo;cases tg<;>first
  |exact af hQ
  |(cases u<;>first
    |exact af hQ
    |(refine aa (i9 ho ?_)
      rw[hc,hd];show wpAny M A (if(["enumerate","zip","dict_itemiterator","dict_reverseitemiterator","odict_iterator","itertools.zip_longest","itertools.pairwise"].contains n&&vs[0]?==some (rawInt _))=true then _ else _) Q E s;rw[ae (by intro h;rw[hn,Bool.false_and]at h;cases h)];exact af hQ))
def NF(K:PySem.W.Frag)(a:Addr):It:=
 ⟨fun i H=>∃xs x,g8 K H a xs/\xs[i]?=some x,fun i H x H'=>H'=H/\∀xs,g8 K H a xs->xs[i]?=some x,fun i H=>∃xs,g8 K H a xs/\xs.length<=i⟩
def Rq(K:PySem.W.Frag)(a:Addr):It:=
 ⟨fun i H=>∃xs x,gy K H a xs/\xs[i]?=some x,fun i H x H'=>H'=H/\∀xs,gy K H a xs->xs[i]?=some x,fun i H=>∃xs,gy K H a xs/\xs.length<=i⟩
def NG(lo:Int)(n:Nat):It:=⟨fun i _=>i<n,fun i H x H'=>H'=H/\x=.int (lo+i),fun i _=>n<=i⟩
theorem rn{P:Program}{w:World}{K:PySem.W.Frag}{tg:Expr}(a it:Addr):Turn P w K tg (NF K a) [it] it (fun i h=>h.IsListIter it a i) where
 mem:=by simp
 obj:=fun i h st b hb=>by
  have e:b=it:=by simpa using hb
  subst e;obtain⟨o,e,c,d⟩:=st;exact⟨o,e,fun v z=>by rw[d]at z;cases z⟩
 keep:=fun i h h' st k=>st.at fun o e=>k it (by simp) o e
 item:=by
  intro X hP hw hK hc i pins s σ H E I hf st hg;subst hP hw hK;obtain⟨xs,x,hq,hx⟩:=hg;obtain⟨aT,rv,p,hz⟩:=I.list hq;obtain⟨u,hu,ru⟩:=rv.get hx;obtain⟨f0,f1,f2,f3,f4,f5⟩:=hf it (by simp);refine wpAny_pyNext_list_item st p.isList (x:=u) (by simpa using hu) fun h' qV sb=>?_
  have I1:Inv X pins σ H {s with heap:=h'}:=I.turned (t':=s.toks) (fun b o hb e=>(sb.2 b hb).trans e) f0 f1 f3 f4 f5;obtain⟨o,e,c,d⟩:=id qV;exact⟨u,rfl,uE (s:={s with heap:=h'}) e c d (by decide) ⟨x,H,I1,ru,⟨rfl,fun ys hy=>by rw[I.AV hy hq];exact hx⟩,qV,fun b hb=>(hf b hb).1⟩⟩
 done:=by
  intro X hP hw hK hc i pins s σ H E I hf st hg;subst hP hw hK;obtain⟨xs,hq,hx⟩:=hg;obtain⟨aT,rv,p,hz⟩:=I.list hq;obtain⟨f0,f1,f2,f3,f4,f5⟩:=hf it (by simp);have hl:=rv.length;exact wpAny_pyNext_list_end (I.ok.hd hc) st p.isList (by simp;omega) fun h' eb=>⟨rfl,I.turned (t':=s.toks) (fun b o hb e=>eb b o hb e) f0 f1 f3 f4 f5⟩
 self:=fun _ _ _ _ _ st h=>wpAny_pyIter_listiter st h
theorem wt{P:Program}{w:World}{K:PySem.W.Frag}{tg:Expr}(a it:Addr):Turn P w K tg (Rq K a) [it] it (fun i h=>h.IsTupleIter it a i) where
 mem:=by simp
 obj:=fun i h st b hb=>by
  have e:b=it:=by simpa using hb
  subst e;obtain⟨o,e,c,d⟩:=st;exact⟨o,e,fun v z=>by rw[d]at z;cases z⟩
 keep:=fun i h h' st k=>st.at fun o e=>k it (by simp) o e
 item:=by
  intro X hP hw hK hc i pins s σ H E I hf st hg;subst hP hw hK;obtain⟨xs,x,hq,hx⟩:=hg;obtain⟨aT,rv,p,hz⟩:=I.tuple hq;obtain⟨u,hu,ru⟩:=rv.get hx;obtain⟨f0,f1,f2,f3,f4,f5⟩:=hf it (by simp);refine oH st (show s.heap.IsTuple a aT.toArray from p) (x:=u) (by simpa using hu) fun h' qV sb=>?_
  have I1:Inv X pins σ H {s with heap:=h'}:=I.turned (t':=s.toks) (fun b o hb e=>(sb.2 b hb).trans e) f0 f1 f3 f4 f5;obtain⟨o,e,c,d⟩:=id qV;exact⟨u,rfl,uE (s:={s with heap:=h'}) e c d (by decide) ⟨x,H,I1,ru,⟨rfl,fun ys hy=>by rw[I.jP hy hq];exact hx⟩,qV,fun b hb=>(hf b hb).1⟩⟩
 done:=by
  intro X hP hw hK hc i pins s σ H E I hf st hg;subst hP hw hK;obtain⟨xs,hq,hx⟩:=hg;obtain⟨aT,rv,p,hz⟩:=I.tuple hq;obtain⟨f0,f1,f2,f3,f4,f5⟩:=hf it (by simp);have hl:=rv.length;exact wpAny_pyNext_tuple_end (I.ok.hd hc) st (show s.heap.IsTuple a aT.toArray from p) (by simp;omega) fun h' eb=>⟨rfl,I.turned (t':=s.toks) (fun b o hb e=>eb b o hb e) f0 f1 f3 f4 f5⟩
 self:=fun _ _ _ _ _ st h=>wpAny_pyIter_tupleiter st h
theorem wu{P:Program}{w:World}{K:PySem.W.Frag}{tg:Expr}(it:Addr)(lo:Int)(n:Nat):Turn P w K tg (NG lo n) [it] it (fun i h=>IsRangeIter h it (lo+(i:Nat)*1) ((n:Int) - (i:Nat)) 1) where
 mem:=by simp
 obj:=fun i h st b hb=>by
  have e:b=it:=by simpa using hb
  subst e;exact⟨_,st,fun v z=>by
   have z':Data.fields _=Data.cell v:=z;cases z'⟩
 keep:=fun i h h' st k=>k it (by simp) _ st
 item:=by
  intro X hP hw hK hc i pins s σ H E I hf st hg;subst hP hw hK;obtain⟨f0,f1,f2,f3,f4,f5⟩:=hf it (by simp);have W:=Walks.range (prog:=X.prog) (w:=X.w) (I.ok.hd hc) it lo 1 n;refine W.item i s _ _ hg st fun v h' tk hv qV kk=>?_
  obtain⟨t,rfl⟩:=hv;have I1:Inv X pins σ H {s with heap:=h',toks:=tk}:=I.turned (fun b o hb e=>kk b o (by simpa using hb) e) f0 f1 f3 f4 f5;refine⟨_,rfl,uE (s:={s with heap:=h',toks:=tk}) (n:="range_iterator") qV rfl rfl (by decide) ⟨.int (lo+i),H,I1,⟨t,?_⟩,⟨rfl,rfl⟩,qV,fun b hb=>(hf b hb).1⟩⟩;rw[Int.mul_one]
 done:=by
  intro X hP hw hK hc i pins s σ H E I hf st hg;subst hP hw hK;obtain⟨f0,f1,f2,f3,f4,f5⟩:=hf it (by simp);exact wpAny_pyNext_range_end (I.ok.hd hc) st (by have:n<=i:=hg;omega) fun h' eb=>⟨rfl,I.turned (t':=s.toks) (fun b o hb e=>eb b o hb e) f0 f1 f3 f4 f5⟩
 self:=fun _ _ _ _ _ st h=>wpAny_pyIter_rangeiter st h
end L2
namespace L2
open PySem PySem.Spec PyProof.Rows
section
variable {X:Cx}{tg:Expr}
theorem A6{pins:List (Addr×Obj)}{σ:St}{H:Hp}{s:Shared}{R:It->Hp->Prop}{E:Value->Shared->Prop}{lo hi:Int}{t u v:Tok}{tk:Nat}(I:Inv X pins σ H s)(h1:-(2 ^62)<=lo)(h2:lo<2 ^62)(h3:-(2 ^62)<=hi)(h4:hi<2 ^62)
  (q:R (NG lo (hi - lo).toNat) H):wpAny (model X.prog X.w) X.A (pyIter (.ref s.heap.objs.size)) (NC X pins σ tg R) E {s with heap:=s.heap.push {cls:=.type "range",data:=.fields #[.int lo t,.int hi u,.int 1 v]},toks:=tk}:=by
 refine wpAny_pyIter_range (IsRange.new ..) (small_one h1 h2 h3 h4) ?_
 have I1:Inv X pins σ H {s with heap:=s.heap.push {cls:=.type "range",data:=.fields #[.int lo t,.int hi u,.int 1 v]},toks:=tk}:=I.kept fun b o e=>ay _ e;refine⟨(s.heap.push {cls:=.type "range",data:=.fields #[.int lo t,.int hi u,.int 1 v]}).objs.size,[(s.heap.push {cls:=.type "range",data:=.fields #[.int lo t,.int hi u,.int 1 v]}).objs.size],_,_,H,rfl,
  I1.kept (t':=tk) fun b o e=>ay _ e,wu _ lo (hi - lo).toNat,?_,fun b hb=>?_,q⟩
 ·have e1:lo+((0:Nat):Int)*1=lo:=by simp
  have e2:(((hi - lo).toNat:Nat):Int) - ((0:Nat):Int)=Builtin.Range.rangeSize lo hi 1:=by rw[rangeSize_one];split<;>omega
  show IsRangeIter _ _ (lo+((0:Nat):Int)*1) ((((hi - lo).toNat:Nat):Int) - ((0:Nat):Int)) 1;rw[e1,e2];exact aQ _ rfl
 ·have e:b=(s.heap.push {cls:=.type "range",data:=.fields #[.int lo t,.int hi u,.int 1 v]}).objs.size:=by simpa using hb
  subst e;exact I1.uD (ak _) (I1.bC.fresh (ak _))
def Kf(ta:TA):TI:=fun σ H R=>ta σ H fun vs H1=>∃j:Int,vs=[.int j]/\-(2 ^62)<=j/\j<2 ^62/\R (NG 0 j.toNat) H1
theorem zl{a:Expr}{ta:TA}{p pos:Pos}(hg:Gl X "range")(hm:X.mg "range"=none)(ha:PA X [a] ta)(hs:starEach [a] X.env=[(false,eval a X.env)]:=by rfl):PI X tg (.Call (.Name "range" p) [a] [] pos) (Kf ta):=by
 intro pins s σ H R I h;refine Call_ (ka I hg hm boot_range (oo (dq (ha pos pins s σ H _ I h) fun us s1 ⟨vs,H1,I1,r1,q1⟩=>?_) hs rfl));obtain⟨j,e,q1,q2,q⟩:=q1;subst e;cases r1 with
 |cons r rr=>
  cases rr;obtain⟨t,rfl⟩:=r;exact call_range_1 (A6 I1 (by omega) (by omega) q1 q2 (by simpa using q))
def OU(wi:TI)(g:TG)(tb:TS):TS:=fun D σ H=>wi σ H fun J H1=>∃W:Nat->Nat->St->Hp->Prop,(∃m,W 0 m σ H1)/\∀i m σ H,W i m σ H->
 (J.stop i H/\D.nx σ H)\/(J.go i H/\∃N:St->Hp->Prop,(∀bA H',N bA H'->∃m',m'<m/\W (i+1) m' bA H')/\∀x H',J.xH i H x H'->g x σ H' fun qW H2=>tb {D with nx:=N,ct:=N,bk:=D.nx} qW H2)
def pz(fp:List Addr)(h:Heap):List (Addr×Obj):=fp.filterMap fun b=>(h.get? b).map fun o=>(b,o)
theorem iq{fp:List Addr}{h:Heap}{b:Addr}{o:Obj}(hb:b∈fp)(e:h.get? b=some o):(b,o)∈pz fp h:=iR.mpr ⟨b,hb,by rw[e];rfl⟩
theorem zm{fp:List Addr}{h:Heap}{p:Addr×Obj}(hp:p∈pz fp h):p.1∈fp/\h.get? p.1=some p.2:=by
 obtain⟨b,hb,e⟩:=iR.mp hp;cases q:h.get? b with
 |none=>rw[q]at e;cases e
 |some o=>
  rw[q]at e;have e':(b,o)=p:=Option.some.inj e;subst e';exact⟨hb,q⟩
theorem Inv.pinned {pins:List (Addr×Obj)}{σ:St}{H:Hp}{s:Shared}{fp:List Addr}(I:Inv X pins σ H s)(hf:∀b∈fp,iL X pins H b)(ho:∀b∈fp,∃o,s.heap.get? b=some o/\∀v,o.data≠ .cell v):Inv X (pins++pz fp s.heap) σ H s:=
 I.xD fun p hp=>(fM.mp hp).elim (fun z=>I.pin p (eS _ z)) fun z=>by
   obtain⟨hb,e⟩:=zm z;obtain⟨f0,f1,f2,_⟩:=hf p.1 hb;obtain⟨o,e',d⟩:=ho p.1 hb;rw[e]at e';cases e';exact⟨e,f0,f1,f2,d⟩
theorem Inv.lO {pins pl:List (Addr×Obj)}{σ:St}{H:Hp}{s:Shared}(I:Inv X (pins++pl) σ H s):Inv X pins σ H s:=I.xD fun p hp=>I.pin p (eS _ (oG _ hp))
theorem wx{iter:Expr}{body:List Stmt}{wi:TI}{g:TG}{tb:TS}{pos:Pos}(hp:PassesOwn (model X.prog X.w) X.A X.env X.xe)(hc:X.calm=true)(hi:PI X tg iter wi)(hg:PG X tg g)(hb:ja X body tb)
  (hs:∀x,foldedSetIterable iter X.env x=pure x:=by intro _;rfl):PS X (.For tg iter body [] pos) (OU wi g tb):=by
 intro pins s σ H D I h;refine wpAny_For (dq (hi pins s σ H _ I h) fun v s1 h1=>dq h1 fun ND s2 h2=>?_) hs;obtain⟨it,fp,tn,J,H2,e,I2,T,Dz,f2,W,⟨m0,w0⟩,turn⟩:=h2;subst e;have wy:∀{H':Hp},(∀b∈fp,H' b=none)->∀b∈fp,iL X pins H' b:=fun hn b hb=>⟨hn b hb,(f2 b hb).2⟩;refine codeAny_forLoop_any (fun n s'=>∃i bA H',Inv X pins bA H' s'/\tn i s'.heap/\(∀b∈fp,H' b=none)/\W i n bA H') ?_ m0 ⟨0,σ,H2,I2,Dz,fun b hb=>(f2 b hb).1,w0⟩
 rintro n s3 ⟨i,wq,H3,I3,Rr,Rt,w3⟩
 rcases turn i n wq H3 w3 with⟨stop,qn⟩|⟨go,N,hN,step⟩
 ·refine fT hp (dq (T.done X rfl rfl rfl hc i pins s3 wq H3 X.xe I3 (wy Rt) Rr stop) fun r s4 ⟨hr,I4⟩=>?_);subst hr;exact lD ⟨wq,H3,I4,qn⟩
 ·refine fT hp (dq (T.item X rfl rfl rfl hc i pins s3 wq H3 X.xe I3 (wy Rt) Rr go) fun r s4 ⟨u,hr,h4⟩=>?_);subst hr;refine fT hp (dq h4 fun _ s5 ⟨x,H5,I5,r5,y5,Jv,NH⟩=>?_);have SM:=I5.pinned (wy NH) (T.obj _ _ Jv);refine fT hp (dq (hg _ s5 wq H5 x u _ SM r5 (step x H5 y5)) fun _ s6 ⟨SN,H6,I6,q6⟩=>?_);refine fT hp (dq (hb _ s6 SN H6 _ I6 q6) fun f s7 q7=>?_);have again:∀{A7:St} {H7:Hp},Inv X (pins++pz fp s5.heap) A7 H7 s7->N A7 H7->∃m,m<n/\∃i bA H',Inv X pins bA H' s7/\tn i s7.heap/\(∀b∈fp,H' b=none)/\W i m bA H':=fun{A7 H7} I7 n7=>by
   obtain⟨m',hm,w7⟩:=hN A7 H7 n7;refine⟨m',hm,i+1,A7,H7,I7.lO,T.keep _ _ _ Jv fun b hb o e=>(I7.pin (b,o) (eS _ (eS _ (iq hb e)))).1,fun b hb=>?_,w7⟩;obtain⟨o,e,d⟩:=T.obj _ _ Jv b hb;exact(I7.pin (b,o) (eS _ (eS _ (iq hb e)))).2.1
  cases f with
  |next=>obtain⟨A7,H7,I7,n7⟩:=q7;exact again I7 n7
  |cont=>obtain⟨A7,H7,I7,n7⟩:=q7;exact again I7 n7
  |brk=>obtain⟨A7,H7,I7,q7⟩:=q7;exact⟨A7,H7,I7.lO,q7⟩
  |ret v=>obtain⟨x7,A7,H7,I7,r7,q7⟩:=q7;exact⟨x7,A7,H7,I7.lO,r7,q7⟩
end
end L2
namespace L2
open PySem PySem.Spec PyProof.Rows
abbrev R2:=V->V->Hp->VK->Prop
def qP(X:Cx)(f:Value->Value->Sem Value)(r:R2):Prop:=
 ∀(pins:List (Addr×Obj)) (s:Shared) (σ:St) (H:Hp) (x y:V) (v u:Value) (Q:VK),Inv X pins σ H s->RelV x v->RelV y u->r x y H Q->
  wpAny (model X.prog X.w) X.A (f v u) (EP X pins σ Q) X.xe s
def f_(X:Cx)(f:Value)(r:List V->Hp->VK->Prop):Prop:=
 ∀(pins:List (Addr×Obj)) (s:Shared) (σ:St) (H:Hp) (xs:List V) (us:List Value) (Q:VK),Inv X pins σ H s->Vals xs us->r xs H Q->
  wpAny (model X.prog X.w) X.A (call f us) (EP X pins σ Q) X.xe s
def OV(X:Cx)(r:V->Hp->(Bool->Hp->Prop)->Prop):Prop:=
 ∀(pins:List (Addr×Obj)) (s:Shared) (σ:St) (H:Hp) (x:V) (v:Value) (Q:Bool->Hp->Prop),Inv X pins σ H s->RelV x v->r x H Q->
  wpAny (model X.prog X.w) X.A (truthy v) (TP X pins σ Q) X.xe s
def Jw(r:R2)(ta tb:TE):TE:=fun σ H Q=>ta σ H fun x H1=>tb σ H1 fun y H2=>r x y H2 Q
def rI(C:Int->Int->Prop)(g:Int->Int->V):R2:=fun x y H Q=>∃i j,x=.int i/\y=.int j/\C i j/\Q (g i j) H
def Kg(g:Int->Int->V):R2:=fun x y H Q=>∃i j,x=.int i/\y=.int j/\Q (g i j) H
section
variable {X:Cx}{a b c:Expr}{ta tb tc:TE}{pos:Pos}
theorem Gr(ha:PE X a ta)(hb:PE X b tb){pins:List (Addr×Obj)}{s:Shared}{σ:St}{H:Hp}{R:V->V->Hp->Prop}(I:Inv X pins σ H s)
  (h:ta σ H fun x H1=>tb σ H1 fun y H2=>R x y H2) {Q:Value->Shared->Prop} {f:Value->Value->Sem Value}
  (hf:∀v u s2 x y H2,Inv X pins σ H2 s2->RelV x v->RelV y u->R x y H2->wpAny (model X.prog X.w) X.A (f v u) Q X.xe s2):
  wpAny (model X.prog X.w) X.A (eval a X.env) (fun v bJ=>wpAny (model X.prog X.w) X.A (eval b X.env) (fun u mE=>wpAny (model X.prog X.w) X.A (f v u) Q X.xe mE) X.xe bJ) X.xe s:=by
 refine dq (ha pins s σ H _ I h) fun v s1 ⟨x,H1,I1,r1,q1⟩=>?_
 refine dq (hb pins s1 σ H1 _ I1 q1) fun u s2 ⟨y,H2,I2,r2,q2⟩=>?_
 exact hf v u s2 x y H2 I2 r1 r2 q2
theorem Kh{op:Operator}{r:R2}(ho:qP X (binaryOp op) r)(ha:PE X a ta)(hb:PE X b tb):PE X (.BinOp a op b pos) (Jw r ta tb):=by
 intro pins s σ H Q I h;exact wpAny_BinOp (Gr ha hb I h fun v u s2 x y H2 I2 rx ry q=>ho pins s2 σ H2 x y v u Q I2 rx ry q)
theorem Ru{f:Value->Value->Sem Value}{C:Int->Int->Prop}{g:Int->Int->Int}
  (rule:∀(i j:Int) (t u:Tok) (s:Shared) (Q:Value->Shared->Prop) (E:Value->Shared->Prop),C i j->Q (.int (g i j) s.toks) {s with toks:=s.toks+1}->wpAny (model X.prog X.w) X.A (f (.int i t) (.int j u)) Q E s):
  qP X f (rI C fun i j=>.int (g i j)):=by
 intro pins s σ H x y v u Q I rx ry h;obtain⟨i,j,rfl,rfl,hc,q⟩:=h;obtain⟨t,rfl⟩:=rx;obtain⟨t',rfl⟩:=ry;exact rule i j t t' s _ _ hc ⟨.int (g i j),H,I.tok _,⟨_,rfl⟩,q⟩
theorem OW{f:Value->Value->Sem Value}{g:Int->Int->Int}
  (rule:∀(i j:Int) (t u:Tok) (s:Shared) (Q:Value->Shared->Prop) (E:Value->Shared->Prop),Q (.int (g i j) s.toks) {s with toks:=s.toks+1}->wpAny (model X.prog X.w) X.A (f (.int i t) (.int j u)) Q E s):
  qP X f (Kg fun i j=>.int (g i j)):=by
 intro pins s σ H x y v u Q I rx ry h;obtain⟨i,j,rfl,rfl,q⟩:=h;obtain⟨t,rfl⟩:=rx;obtain⟨t',rfl⟩:=ry;exact rule i j t t' s _ _ ⟨.int (g i j),H,I.tok _,⟨_,rfl⟩,q⟩
theorem Ki{f:Value->Value->Sem Value}{g:Int->Int->Bool}
  (rule:∀(i j:Int) (t u:Tok) (s:Shared) (Q:Value->Shared->Prop) (E:Value->Shared->Prop),Q (.bool (g i j)) s->wpAny (model X.prog X.w) X.A (f (.int i t) (.int j u)) Q E s):
  qP X f (Kg fun i j=>.bl (g i j)):=by
 intro pins s σ H x y v u Q I rx ry h;obtain⟨i,j,rfl,rfl,q⟩:=h;obtain⟨t,rfl⟩:=rx;obtain⟨t',rfl⟩:=ry;exact rule i j t t' s _ _ ⟨.bl (g i j),H,I,rfl,q⟩
def A8(i j:Int):Prop:=(-(2 ^64)<i/\i<2 ^64)\/(-(2 ^64)<j/\j<2 ^64)
theorem A8.ok {i j:Int}(h:A8 i j):IntMulOk i j:=by
 rcases h with⟨h1,h2⟩|⟨h1,h2⟩
 ·exact .of_left (intBits_le_64 h1 h2)
 ·exact .of_right (intBits_le_64 h1 h2)
theorem Gs:qP X (binaryOp .Add) (Kg fun i j=>.int (i+j)):=OW fun _ _ _ _ _ _ _ q=>add_int q
theorem Gu:qP X (binaryOp .Mult) (rI A8 fun i j=>.int (i*j)):=Ru fun _ _ _ _ _ _ _ hc q=>mul_int q hc.ok
theorem Gv:qP X (binaryOp .Mod) (rI (fun _ j=>0<j) fun i j=>.int (i % j)):=Ru fun i j _ _ _ _ _ hc q=>by
 have h1:(0:Int)<j:=hc;exact mod_int' (by omega) (by rw[Int.fmod_eq_emod_of_nonneg i (by omega)];exact q)
end
section
variable {X:Cx}{a b c:Expr}{ta tb tc:TE}{pos:Pos}
theorem wz{pins:List (Addr×Obj)}{σ:St}{H:Hp}{s:Shared}{Q:VK}{k k':Bool}(I:Inv X pins σ H s)(q:Q (.bl k) H)(e:k=k'):EP X pins σ Q (.bool k') s:=by
 subst e;exact⟨.bl k,H,I,rfl,q⟩
theorem Kj:qP X (compareOp .Lt) (Kg fun i j=>.bl (decide (i<j))):=Ki fun _ _ _ _ _ _ _ q=>lt_int q
theorem Kk:qP X (compareOp .Gt) (Kg fun i j=>.bl (decide (j<i))):=Ki fun _ _ _ _ _ _ _ q=>gt_int q
theorem zo:qP X (compareOp .Lt) (fun x y H Q=>∃i j,x=.str i/\y=.str j/\Q (.bl (decide (i.cps.toList<j.cps.toList))) H):=by
 intro pins s σ H x y v u Q I rx ry h;obtain⟨i,j,rfl,rfl,q⟩:=h;obtain⟨t,rfl⟩:=rx;obtain⟨t',rfl⟩:=ry;exact lt_str (wz I q rfl)
theorem Gw:qP X (compareOp .Is) (fun x y H Q=>y=.bU/\Q (.bl (decide (x=.bU))) H):=by
 intro pins s σ H x y v u Q I rx ry h;obtain⟨rfl,q⟩:=h;cases ry;refine is_none_gen (wz I q ?_);cases x<;>first
  |(cases rx;rfl)
  |(obtain⟨t,rfl⟩:=rx;rfl)
theorem mF(b:Expr){op:CmpOp}(h:op≠ .In:=by decide) (h2:op≠ .NotIn:=by decide):behindInMarks op b=false:=by
 have e1:(op==CmpOp.In)=false:=by cases op<;>first|rfl|exact absurd rfl h
 have e2:(op==CmpOp.NotIn)=false:=by cases op<;>first|rfl|exact absurd rfl h2
 cases b<;>simp[behindInMarks,e1,e2]
theorem xI{op:CmpOp}{r:R2}(ho:qP X (compareOp op) r)(ha:PE X a ta)(hb:PE X b tb)(hm:behindInMarks op b=false):PE X (.Compare a [op] [b] pos) (Jw r ta tb):=by
 intro pins s σ H Q I h;exact wpAny_Compare1 (Gr ha hb I h fun v u s2 x y H2 I2 rx ry q=>ho pins s2 σ H2 x y v u Q I2 rx ry q) hm
def Kl(t:TE):TT:=fun σ H Q=>t σ H fun x H'=>∃k,x=.bl k/\Q k H'
theorem DA{op:CmpOp}{r:R2}(ho:qP X (compareOp op) r)(ha:PE X a ta)(hb:PE X b tb)(hm:behindInMarks op b=false):PT X (.Compare a [op] [b] pos) (Kl (Jw r ta tb)):=by
 intro pins s σ H Q I h;refine wpAny_isTrue_Compare1 (dq (ha pins s σ H _ I h) fun v s1 ⟨x,H1,I1,r1,q1⟩=>dq (hb pins s1 σ H1 _ I1 q1) fun u s2 ⟨y,H2,I2,r2,q2⟩=>
  dq (ho pins s2 σ H2 x y v u _ I2 r1 r2 q2) fun c s3 ⟨z,H3,I3,r3,k,e,q3⟩=>?_) hm
 subst e;cases r3;exact iY ⟨H3,I3,q3⟩
def DB(K:PySem.W.Frag)(x:V)(H:Hp)(k:Bool):Prop:=
 match x with
 |.bU=>k=false
 |.bl b=>k=b
 |.int i=>k=(i !=0)
 |.str y=>y.length<=sizeLine/\k=((y.length:Int) !=0)
 |.Gd y=>y.size<=sizeLine/\k=((y.size:Int) !=0)
 |.ref p=>(∃xs,g8 K H p xs/\k=!xs.isEmpty)\/(∃xs,gy K H p xs/\k=!xs.isEmpty)\/∃ar,Rd H p (.dK ar)/\k=!ar.isEmpty
 |_=>False
theorem wA{κ:Type}{ar:List (κ×V)}{vs:List (κ×Value)}(r:KV ar vs):(!vs.isEmpty)=!ar.isEmpty:=by
 cases r<;>rfl
theorem pA{xs:List V}{aT:List Value}(r:Vals xs aT):(!aT.toArray.isEmpty)=!xs.isEmpty:=by
 cases r<;>simp
theorem pB:(sizeLine:Nat)<2 ^63:=by rw[bG];decide
theorem A9:OV X (fun x H Q=>∃k,DB X.K x H k/\Q k H):=by
 intro pins s σ H x v Q I rx h;obtain⟨k,e,q⟩:=h;have hl:=pB;have hs:sizeLine=16777216:=bG;cases x with
 |bU=>
  cases rx;have e':k=false:=e;subst e';exact truthy_none ⟨H,I,q⟩
 |bl b=>
  cases rx;have e':k=b:=e;subst e';exact iY ⟨H,I,q⟩
 |int i=>
  obtain⟨t,rfl⟩:=rx;have e':k=(i !=0):=e;subst e';exact PySem.P.truthy_int ⟨H,I,q⟩
 |str y=>
  obtain⟨t,rfl⟩:=rx;obtain⟨hy,e'⟩:y.length<=sizeLine/\k=((y.length:Int) !=0):=e;subst e';exact PySem.P.truthy_str (by omega) ⟨H,I.tok _,q⟩
 |Gd y=>
  obtain⟨t,rfl⟩:=rx;obtain⟨hy,e'⟩:y.size<=sizeLine/\k=((y.size:Int) !=0):=e;subst e';exact PySem.W.truthy_bytes (by omega) ⟨H,I.tok _,q⟩
 |ref p=>
  cases rx;have e':(∃xs,g8 X.K H p xs/\k=!xs.isEmpty)\/(∃xs,gy X.K H p xs/\k=!xs.isEmpty)\/∃ar,Rd H p (.dK ar)/\k=!ar.isEmpty:=e;rcases e' with⟨xs,hx,e'⟩|⟨xs,hx,e'⟩|⟨ar,hx,e'⟩
  ·subst e';obtain⟨aT,r,pl,hz⟩:=I.list hx;have hlen:=r.length;exact wpAny_truthy_list pl.isList (by simp only[a6];omega) ⟨H,I.tok _,by rw[pA r];exact q⟩
  ·subst e';obtain⟨aT,r,pl,hz⟩:=I.tuple hx;have hlen:=r.length;exact truthy_tuple pl (by simp only[a6];omega) ⟨H,I.tok _,by rw[pA r];exact q⟩
  ·subst e';obtain⟨hz,hS,vs,r,m⟩:ar.length<=sizeLine/\(p==sysModules)=false/\∃vs,KV ar vs/\s.heap.DictOf (av X.prog X.w) p vs:=hx.ok I.bC;have hlen:ar.length=vs.length:=Paired.length r;exact wpAny_truthy_dict hS m (by omega) ⟨H,I.tok _,by rw[wA r];exact q⟩
 |_=>exact(show False from e).elim
theorem uF(ha:PE X a ta)(he:∀whole,isTrue a X.env whole=(do let v<-whole;standAt a.pos;holding [v] (truthy v))):
  PT X a (fun σ H Q=>ta σ H fun x H'=>∃k,DB X.K x H' k/\Q k H'):=by
 intro pins s σ H Q I h;exact isTrue_plain (dq (ha pins s σ H _ I h) fun v s1 ⟨x,H1,I1,r1,q1⟩=>A9 pins s1 σ H1 x v Q I1 r1 q1) (he _)
theorem wB:qP X (binaryOp .Add) (fun x y H Q=>∃i j,x=.str i/\y=.str j/\i.length+j.length<=sizeLine/\Q (.str (i++j)) H):=by
 intro pins s σ H x y v u Q I rx ry h;obtain⟨i,j,rfl,rfl,hz,q⟩:=h;obtain⟨t,rfl⟩:=rx;obtain⟨t',rfl⟩:=ry;exact add_str (fun t' tk=>⟨.str (i++j),H,I.tok _,⟨_,rfl⟩,q⟩) hz
theorem vals1{x:V}{us:List Value}(r:Vals [x] us):∃u,us=[u]/\RelV x u:=by
 cases r with
 |cons r1 r2=>cases r2;exact⟨_,rfl,r1⟩
theorem vals2{x y:V}{us:List Value}(r:Vals [x,y] us):∃u w',us=[u,w']/\RelV x u/\RelV y w':=by
 cases r with
 |cons r1 r2=>
  cases r2 with
  |cons r3 r4=>cases r4;exact⟨_,_,rfl,r1,r3⟩
def OX(K:PySem.W.Frag)(x:V)(H:Hp)(n:Nat):Prop:=
 match x with
 |.str y=>y.length<=sizeLine/\n=y.length
 |.Gd y=>y.size<=sizeLine/\n=y.size
 |.ref p=>(∃xs,g8 K H p xs/\n=xs.length)\/∃xs,gy K H p xs/\n=xs.length
 |_=>False
theorem lP:f_ X (.builtin "len") (fun xs H Q=>∃x n,xs=[x]/\OX X.K x H n/\Q (.int n) H):=by
 intro pins s σ H xs us Q I r h;obtain⟨x,n,rfl,e,q⟩:=h;obtain⟨u,rfl,rx⟩:=vals1 r;have hl:=pB;have hs:sizeLine=16777216:=bG;cases x with
 |str y=>
  obtain⟨t,rfl⟩:=rx;obtain⟨hy,e'⟩:y.length<=sizeLine/\n=y.length:=e;subst e';exact len_str (by omega) ⟨.int _,H,I.tok _,⟨_,rfl⟩,q⟩
 |Gd y=>
  obtain⟨t,rfl⟩:=rx;obtain⟨hy,e'⟩:y.size<=sizeLine/\n=y.size:=e;subst e';exact PySem.W.len_bytes (by omega) ⟨.int _,H,I.tok _,⟨_,rfl⟩,q⟩
 |ref p=>
  cases rx;have e':(∃xs,g8 X.K H p xs/\n=xs.length)\/∃xs,gy X.K H p xs/\n=xs.length:=e;rcases e' with⟨xs,hx,e'⟩|⟨xs,hx,e'⟩
  ·subst e';obtain⟨aT,r',pl,hz⟩:=I.list hx;have hlen:=r'.length;exact Calls.call_len_list pl.isList (by simp only[a6];omega) ⟨.int xs.length,H,I.tok _,⟨_,by simp only[a6];rw[hlen]⟩,q⟩
  ·subst e';obtain⟨aT,r',pl,hz⟩:=I.tuple hx;have hlen:=r'.length;exact len_tuple pl (by simp only[a6];omega) ⟨.int xs.length,H,I.tok _,⟨_,by simp only[a6];rw[hlen]⟩,q⟩
 |_=>exact(show False from e).elim
end
end L2
namespace L2
open PySem PySem.Spec PyProof.Rows
structure Gx(h:Heap)(x dx C:Addr)(mA:Str->Option Value):Prop where
 obj:h.get? x=some (PySem.W.instObj C dx)
 ns:h.Ns1 dx mA
 ne:dx≠x
theorem zp{h:Heap}{dx:Addr}{mA:Str->Option Value}(n:h.Ns1 dx mA):∃od,h.get? dx=some od/\∀name,PySem.W.lookIn name od=some (mA name):=by
 obtain⟨o,es,ep,ho,hd,hk,_,hm⟩:=n;refine⟨o,ho,fun name=>?_⟩;have e:=hm name;unfold nsFind findBy at e;rw[<-Array.find?_toList]at e;unfold PySem.W.lookIn;rw[hd];dsimp only;split
 ·rename_i y q;rw[q]at e;exact bH some e
 ·rename_i q;rw[q]at e;have a:es.toList.any (·.refKey)=false:=by
   rw[List.any_eq_false];intro y hy;obtain⟨z,t,DC⟩:=hk y (oJ.mp hy);simp[DictEntry.refKey,DC]
  have a':¬es.toList.any (·.refKey)=true:=by rw[a];exact cj
  rw[ae a'];exact bH some e
theorem Gx.look {h:Heap}{x dx C:Addr}{mA:Str->Option Value}(I:Gx h x dx C mA):∃od,PySem.W.InstAt h x (PySem.W.instObj C dx) C (some od)/\∀name,PySem.W.lookIn name od=some (mA name):=
 let⟨od,ho,hl⟩:=zp I.ns
 ⟨od,⟨I.obj,rfl,rfl,ho⟩,hl⟩
theorem mD.some_of {v:V}{o:Option Value}(r:mD (some v) o):∃u,o=some u/\RelV v u:=by
 cases o with
 |none=>exact(show False from r).elim
 |some u=>exact⟨u,rfl,r⟩
section
variable {P:Program}{w:World}{H H':Hp}{h h':Heap}{a C dx:Addr}{fs zh:List (Str×V)}
theorem DD(bC:j2 P w H h)(e:H a=some (.ins C dx fs)):∃mA,Gx h a dx C mA/\(∀f,mD (fs.lookup f) (mA f))/\PySem.Within mA (fs.map (·.1))/\fs.length<=1000/\H dx=some (.own a):=by
 obtain⟨d,z,ne,ob,mA,n,r,q⟩:=(show bg P w H h a (.ins C dx fs)from bC a _ e);exact⟨mA,⟨ob,n,ne⟩,r,q,z,d⟩
end
structure Jx(K:PySem.W.Frag)(C:Addr):Prop where
 pg:PySem.W.plainGet K C Str.empty=true
 hd:PySem.W.hasDictIn K C=true
 po:PySem.W.plainOver K C=true
 sa:PySem.W.findIn K (.ref C) "__setattr__"=some (some (.builtin "object.__setattr__"))
theorem Jx.get {K:PySem.W.Frag}{C:Addr}(c:Jx K C)(f:Str):PySem.W.plainGet K C f=true:=c.pg
def Gy(K:PySem.W.Frag)(C:Addr)(f:Str):Prop:=PySem.W.findIn K (.ref C) f=some none
structure Meth(K:PySem.W.Frag)(C:Addr)(m:Str)(f:Addr):Prop where
 at_:PySem.W.findIn K (.ref C) m=some (some (.ref f))
 fn:PySem.W.isFn K (.ref f)=true
 kp:PySem.W.keepIn K (.ref f)=true
def Gz(X:Cx)(op:Operator)(rd:V->V->Hp->VK->Prop):Prop:=
 ∀(pins:List (Addr×Obj)) (s:Shared) (σ:St) (H:Hp) (x y:V) (u v:Value) (Q:VK),Inv X pins σ H s->RelV x u->RelV y v->rd x y H Q->wpAny (model X.prog X.w) X.A (inplaceOp op u v) (EP X pins σ Q) X.xe s
section
variable {X:Cx}{o e value:Expr}{f:Str}{pos pos' uG:Pos}{ta tv:TE}
def OY:V->V->Hp->VK->Prop:=fun x y H Q=>∃i j,x=.int i/\y=.int j/\Q (.int (i+j)) H
def OZ:V->V->Hp->VK->Prop:=fun x y H Q=>∃i j,x=.int i/\y=.int j/\Q (.int (i - j)) H
theorem GA:Gz X .Add OY:=by
 rintro pins s σ H x y u v Q I rx ry ⟨i,j,rfl,rfl,q⟩
 obtain⟨t,rfl⟩:=(show∃t,u=Value.int i t from rx);obtain⟨t',rfl⟩:=(show∃t',v=Value.int j t' from ry);exact PyProof.Rows.iadd_int ⟨.int (i+j),H,I.tok _,⟨_,rfl⟩,q⟩
theorem GB:Gz X .Sub OZ:=by
 rintro pins s σ H x y u v Q I rx ry ⟨i,j,rfl,rfl,q⟩
 obtain⟨t,rfl⟩:=(show∃t,u=Value.int i t from rx);obtain⟨t',rfl⟩:=(show∃t',v=Value.int j t' from ry);exact PyProof.Rows.isub_int ⟨.int (i - j),H,I.tok _,⟨_,rfl⟩,q⟩
end
section
variable {X:Cx}{pins:List (Addr×Obj)}{σ:St}{H:Hp}{s:Shared}{A:Around}{E:Value->Shared->Prop}{Q:Value->Shared->Prop}{c:Value}{b:Bool}
inductive lQ(K:PySem.W.Frag)(H:Hp):V->Value->Prop where
 |bU:lQ K H .bU (.type "NoneType")
 |bl (x:Bool):lQ K H (.bl x) (.type "bool")
 |int (i:Int):lQ K H (.int i) (.type "int")
 |str (x:Str):lQ K H (.str x) (.type "str")
 |E4 (x:UInt64):lQ K H (.E4 x) (.type "float")
 |lst {a:Addr} {xs:List V} (e:H a=some (.lst xs)):lQ K H (.ref a) (.type "list")
 |ff {a:Addr} {o:Obj} {xs:List V} (e:H a=some (.ff o (.lst xs))):lQ K H (.ref a) (.type "list")
 |tup {a:Addr} {xs:List V} (e:H a=some (.tup xs)):lQ K H (.ref a) (.type "tuple")
 |dK {a:Addr} {ar:List (Key×V)} (e:H a=some (.dK ar)):lQ K H (.ref a) (.type "dict")
 |dT {a:Addr} {ar:List (List Key×V)} (e:H a=some (.dT ar)):lQ K H (.ref a) (.type "dict")
 |ins {a C dx:Addr} {fs:List (Str×V)} (e:H a=some (.ins C dx fs)) (cl:Jx K C) (ha:PySem.W.findIn K (.ref C) "__class__"=some (some (.builtin "object.__class__")))
   (hn:PySem.W.specialIn K (.builtin "object.__class__") "__get__"=some (some (.builtin "getset_descriptor.__get__"))) (Rv:PySem.W.takesIn K (.builtin "object.__class__")=some true)
   (hm:PySem.W.mroIn K C (.type "object")=some true):lQ K H (.ref a) (.ref C)
theorem g9{x:V}{u t:Value}(I:Inv X pins σ H s)(rx:RelV x u)(ty:lQ X.K H x t)(e:PySem.W.kitOne X.K t c=some b)(h:∀tk,Q (.bool b) {s with toks:=tk}):
  wpAny (model X.prog X.w) A (call (.builtin "isinstance") [u,c]) Q E s:=by
 cases ty with
 |bU=>cases(show u=Value.none from rx);exact cC PySem.W.kitx_none I.nB True.intro e (fun z=>nomatch z) h
 |bl y=>cases(show u=Value.bool y from rx);exact cC PySem.W.kitx_bool I.nB True.intro e (fun z=>nomatch z) h
 |int i=>obtain⟨t,q⟩:=(show∃t,u=Value.int i t from rx);cases q;exact cC PySem.W.kitx_int I.nB True.intro e (fun z=>nomatch z) h
 |str y=>obtain⟨t,q⟩:=(show∃t,u=Value.str y t from rx);cases q;exact cC PySem.W.kitx_str I.nB True.intro e (fun z=>nomatch z) h
 |E4 y=>obtain⟨t,q⟩:=(show∃t,u=Value.float y t from rx);cases q;exact cC PySem.W.kitx_float I.nB True.intro e (fun z=>nomatch z) h
 |@lst a xs ea=>
  cases(show u=Value.ref a from rx);obtain⟨_,_,n,_,h1⟩:=(show bg X.prog X.w H s.heap a (.lst xs)from I.bC a _ ea);exact cC oQ I.nB ⟨_,h1,rfl⟩ e (fun z=>nomatch z) h
 |@ff a ob xs ea=>
  cases(show u=Value.ref a from rx);obtain⟨_,_,_,n,_,h1⟩:=(show bg X.prog X.w H s.heap a (.ff ob (.lst xs))from I.bC a _ ea);exact cC oQ I.nB ⟨_,h1,rfl⟩ e (fun z=>nomatch z) h
 |@tup a xs ea=>
  cases(show u=Value.ref a from rx);obtain⟨_,_,_,p⟩:=(show bg X.prog X.w H s.heap a (.tup xs)from I.bC a _ ea);obtain⟨o,h1,h2,_⟩:=p;exact cC PySem.W.kitx_tuple I.nB ⟨o,h1,h2⟩ e (fun z=>nomatch z) h
 |@dK a ar ea=>
  cases(show u=Value.ref a from rx);obtain⟨_,_,vs,_,p⟩:=(show bg X.prog X.w H s.heap a (.dK ar)from I.bC a _ ea);obtain⟨o,es,ep,h1,h2,_⟩:=p;exact cC lj I.nB ⟨o,h1,h2.1⟩ e (fun z=>nomatch z) h
 |@dT a ar ea=>
  cases(show u=Value.ref a from rx);obtain⟨_,_,xs,_,o,es,ep,h1,h2,_⟩:=(show bg X.prog X.w H s.heap a (.dT ar)from I.bC a _ ea);exact cC lj I.nB ⟨o,h1,h2.1⟩ e (fun z=>nomatch z) h
 |@ins a C dx fs ea cl ha hn Rv hm=>
  cases(show u=Value.ref a from rx);obtain⟨mA,O,_⟩:=DD I.bC ea;obtain⟨od,J,_⟩:=O.look;exact cC (PySem.W.kitx_own (cl.get _) cl.hd ha hn Rv hm) I.nB J e (fun z=>nomatch z) h
end
end L2
namespace L2
open PySem PySem.Spec PyProof.Rows
structure cM(k:Nat)(A:Around):Prop where
 hd:A.handled=none
 dp:A.depth+3*k+5<recursionLimit
 un:A.units+16*k+200<cLine
theorem cM.mono {j k:Nat}{A:Around}(r:cM k A)(h:j<=k):cM j A:=⟨r.hd,by have:=r.dp;omega,by have:=r.un;omega⟩
theorem cM.deeper {k:Nat}{A:Around}(r:cM (k+1) A)(env:Env):cM k (A.deeper env):=
 ⟨r.hd,by have:=r.dp;show A.depth+1+3*k+5<_;omega,by have:=r.un;show A.units+3+16*k+200<_;omega⟩
theorem cM.depth {k:Nat}{A:Around}(r:cM k A):A.depth<recursionLimit:=by have:=r.dp;omega
theorem cM.units {k:Nat}{A:Around}(r:cM k A):A.units+64<cLine:=by have:=r.un;omega
def O0:TA:=fun _ H Q=>Q [] H
def Km(ta:TE)(tr:TA):TA:=fun σ H Q=>ta σ H fun x H1=>tr σ H1 fun xs H2=>Q (x::xs) H2
section
variable {X:Cx}{e:Expr}{es:List Expr}{te:TE}{t:TA}{pos:Pos}
theorem kb:PA X [] O0:=fun _ _ _ _ H Q I h=>lu ⟨[],H,I,.nil,h⟩
theorem ir(ha:PE X e te)(hr:PA X es t)(hs:starEach (e::es) X.env=(false,eval e X.env)::starEach es X.env:=by rfl):PA X (e::es) (Km te t):=by
 intro pos pins s σ H Q I h;rw[hs];show wpAny _ _ (spliced ((false,eval e X.env)::backTo pos (starEach es X.env))) _ _ s;refine iU (dq (ha pins s σ H _ I h) fun u s1 ⟨x,H1,I1,r1,q1⟩=>?_);exact dq (hr pos pins s1 σ H1 _ I1 q1) fun us s2 ⟨xs,H2,I2,r2,q2⟩=>⟨x::xs,H2,I2,.cons r1 r2,q2⟩
def O1(t:TA):TE:=fun σ H Q=>t σ H fun xs H1=>xs.length<=sizeLine/\∀p,H1 p=none->Q (.ref p) (upd H1 p (.tup xs))
def O2(t:TA):TE:=fun σ H Q=>t σ H fun xs H1=>xs.length<=sizeLine/\∀p,H1 p=none->Q (.ref p) (upd H1 p (.lst xs))
theorem A_{x1}(h:PA X es t):PE X (.Tuple es x1 pos) (O1 t):=by
 intro pins s σ H Q I hq;refine wpAny_Tuple_spliced (dq (h pos pins s σ H _ I hq) fun us s1 ⟨xs,H1,I1,r,z,q⟩=>⟨by rw[<-r.length];exact z,?_⟩);have hf:H1 s1.heap.objs.size=none:=I1.bC.fresh (ak _);refine⟨.ref s1.heap.objs.size,upd H1 s1.heap.objs.size (.tup xs),I1.laid (t':=s1.toks) (fun b u e=>ay _ e) (ak _) ?_,rfl,q _ hf⟩;exact⟨z,us,r,⟨_,aQ _ rfl,rfl,_,rfl,rfl⟩⟩
theorem Ba(h:PA X es t):PE X (.List es pos) (O2 t):=by
 intro pins s σ H Q I hq;refine wpAny_List_spliced (dq (h pos pins s σ H _ I hq) fun us s1 ⟨xs,H1,I1,r,z,q⟩=>⟨by rw[<-r.length];exact z,?_⟩);have hf:H1 s1.heap.objs.size=none:=I1.bC.fresh (ak _);refine⟨.ref s1.heap.objs.size,upd H1 s1.heap.objs.size (.lst xs),I1.laid (t':=s1.toks) (fun b u e=>ay _ e) (ak _) ?_,rfl,q _ hf⟩;exact⟨z,us,0,r,aQ _ rfl⟩
end
abbrev Sp:=List V->Hp->VK->XK->Prop
abbrev wC:=List Env->Hp->Shared->XK->Value->Shared->Prop
structure DE(P:Program)(w:World)(K:PySem.W.Frag)(mg:Str->Option Value)(base:Heap)(A:Around)(outer:List Env)(s:Shared)(H:Hp):Prop where
 frames:A.frames=some outer
 mod:Mod K mg base
 bs:∀b o,base.get? b=some o->s.heap.get? b=some o/\H b=none
 E5:base.objs.size<=s.heap.objs.size
 pk:s.heap.FunFrames base outer
 Jr:∀b∈lN outer,H b=none
 bC:j2 P w H s.heap
 bare:AllBare s.gens
def CE(outer:List Env)(P:Program)(w:World)(H:Hp)(s:Shared)(Q:VK)(u:Value)(s':Shared):Prop:=
 ∃v H',s'.os=s.os/\AllBare s'.gens/\Un (lN outer) [] H H' s.heap s'.heap/\j2 P w H' s'.heap/\RelV v u/\Q v H'
def CR(CX:wC)(outer:List Env)(P:Program)(w:World)(H:Hp)(s:Shared)(Q:VK)(E:XK)(r:Result)(s':Shared):Prop:=
 match r with
 |.ok (.ret u)=>CE outer P w H s Q u s'
 |.ok _=>False
 |.error e=>CX outer H s E e s'
structure fg(P:Program)(w:World)(K:PySem.W.Frag)(mg:Str->Option Value)(base:Heap)(CX:wC)(k:Nat)(f:Addr)(fd:FuncData)(ps:List Str)(sp:Sp):Prop where
 len:∀vs H Q E,sp vs H Q E->vs.length=ps.length
 run:∀(A:Around) (outer:List Env) (s:Shared) (H:Hp) (args:Args) (us:List Value) (vs:List V) (Q:VK) (E:XK),cM k A->DE P w K mg base A outer s H->BindsTo s fd args (ps.zip us)->Vals vs us->sp vs H Q E->
  codeAny (model P w) A (.call (.ref f) args) (CR CX outer P w H s Q E) s
theorem fg.mono {P:Program}{w:World}{K:PySem.W.Frag}{mg:Str->Option Value}{base:Heap}{CX:wC}{j k:Nat}{f:Addr}{fd:FuncData}{ps:List Str}{sp:Sp}(F:fg P w K mg base CX j f fd ps sp)(h:j<=k):
  fg P w K mg base CX k f fd ps sp:=⟨F.len,fun A outer s H args us vs Q E hr=>F.run A outer s H args us vs Q E (hr.mono h)⟩
section
variable {X:Cx}{pins:List (Addr×Obj)}{σ:St}{H:Hp}{s s':Shared}
theorem Inv.O3 (I:Inv X pins σ H s):DE X.prog X.w X.K X.mg X.base X.A X.stack s H:=
 ⟨I.ok.frames,I.ok.mod,I.bs,bo I.ok.E5 I.sz,I.stack,I.sJ,I.bC,I.bare⟩
theorem Inv.after {Q:VK}{u:Value}(I:Inv X pins σ H s)(h:CE X.stack X.prog X.w H s Q u s'):EP X pins σ Q u s':=by
 obtain⟨v,H',os,bare,un,bC,r,q⟩:=h;obtain⟨hh,g,d,t,SO⟩:=s';obtain rfl:SO=s.os:=os;exact⟨v,H',I.call (h':=hh) (g':=g) (d':=d) (t':=t) (ch:=[]) un bC bare (fun b z=>absurd z (by simp)),r,q⟩
end
def E_(sp:Sp)(Fb:List V)(E:XK)(t:TA):TE:=fun σ H Q=>t σ H fun vs H1=>sp (vs++Fb) H1 Q E
def Binds(K:PySem.W.Frag)(fd:FuncData)(ps:List Str)(ds:List Value):Prop:=
 ∀(s:Shared) (us:List Value),K.In s.heap->(us++ds).length=ps.length->BindsTo s fd ⟨us,[]⟩ (ps.zip (us++ds))
theorem Binds.all {K:PySem.W.Frag}{fd:FuncData}{ps:List Str}(h:∀us:List Value,us.length=ps.length->bindArgs fd ⟨us,[]⟩=pure (ps.zip us)):Binds K fd ps []:=fun s us _ hl=>by
 rw[dr]at hl⊢;exact .of_eq (h us hl)
def Passes(CX:wC)(X:Cx)(E:XK):Prop:=∀(pins:List (Addr×Obj)) (σ:St) (H:Hp) (s:Shared) (e:Value) (s':Shared),Inv X pins σ H s->CX X.stack H s E e s'->X.xe e s'
section
variable {X:Cx}{CX:wC}{k:Nat}{f C:Addr}{fd:FuncData}{ps:List Str}{sp:Sp}{Fb:List V}{ds:List Value}{E:XK}{x m:Str}{p pos apos:Pos}{e o:Expr}{es:List Expr}{ta:TE}{t:TA}
theorem GC{pins:List (Addr×Obj)}{σ:St}{H:Hp}{s:Shared}{Q:VK}{us:List Value}{vs:List V}(F:fg X.prog X.w X.K X.mg X.base CX k f fd ps sp)(hr:cM k X.A)(hb:Binds X.K fd ps ds)(hd:Vals Fb ds)(hx:Passes CX X E)
  (I:Inv X pins σ H s) (r:Vals vs us) (h:sp (vs++Fb) H Q E):wpAny (model X.prog X.w) X.A (call (.ref f) us) (EP X pins σ Q) X.xe s:=by
 have r2:Vals (vs++Fb) (us++ds):=r.append hd;have hl:(us++ds).length=ps.length:=by rw[<-r2.length];exact F.len _ _ _ _ h
 refine wpAny_call (e_ (F.run X.A X.stack s H ⟨us,[]⟩ (us++ds) (vs++Fb) Q E hr I.O3 (hb s us I.nB hl) r2 h) fun r s' hq=>?_);cases r with
 |error e=>exact hx pins σ H s e s' I hq
 |ok fl=>
  cases fl with
  |ret u=>exact I.after hq
  |next=>exact False.elim hq
  |brk=>exact False.elim hq
  |cont=>exact False.elim hq
theorem xJ(F:fg X.prog X.w X.K X.mg X.base CX k f fd ps sp)(hr:cM k X.A)(hg:Gl X x)(hm:X.mg x=some (.ref f))(hk:PySem.W.keepIn X.K (.ref f)=true)(hb:Binds X.K fd ps ds)(hd:Vals Fb ds)(hx:Passes CX X E)
  (ha:PA X (e::es) t) (iu:(x==("__debug__":Str))=false:=by decide) (he:starEach (e::es) X.env=(false,eval e X.env)::starEach es X.env:=by rfl) (nE:(backTo pos (starEach es X.env)).any (·.1)=false:=by rfl):
  PE X (.Call (.Name x p) (e::es) [] pos) (E_ sp Fb E t):=by
 intro pins s σ H Q I h;refine iV (Du I hg hm ?_ iu);refine PySem.W.callWith_K (h₀:=X.base) I.ok.mod.J8 hk (dq (ha pos pins s σ H _ I h) fun us s1 ⟨vs,H1,I1,r,q⟩=>⟨I1.nB,?_⟩) he nE;exact GC F hr hb hd hx I1 r q
structure Mk(K:PySem.W.Frag)(C f:Addr):Prop where
 makes:PySem.W.makesIn K C=true
 init:PySem.W.findIn K (.ref C) "__init__"=some (some (.ref f))
 fn:PySem.W.isFn K (.ref f)=true
 kp:PySem.W.keepIn K (.ref C)=true
end
structure c_(N P:List Str)(sc:Scope):Prop where
 kind:sc.kind=.function
 co:sc.isCoroutine=false
 gen:sc.isGenerator=false
 nd:N.Nodup
 pre:N.take P.length=P
 par:∀x∈P,sc.names.lookup x=some .local\/sc.names.lookup x=some .cell
 GD:∀y∈sc.names,y.2≠ .free
theorem rq{kindOf:Str->Option NameKind}{x:Str}:∀{binds:List (Str×Value)} {m:Str->Option Value},(∀v,(x,v)∉binds)->bindL kindOf binds m x=m x
 |[],_,_=>rfl
 |(n,v)::r,m,h=>by
  unfold bindL;rw[rq fun w hw=>h w (aR _ hw)];split
  ·have:x≠n:=by rintro rfl;exact h v aK
   simp[this]
  ·rfl
theorem rA{kindOf:Str->Option NameKind}{x:Str}:∀{binds:List (Str×Value)} {m:Str->Option Value},(∀v,(x,v)∉binds)->bindC kindOf binds m x=m x
 |[],_,_=>rfl
 |(n,v)::r,m,h=>by
  unfold bindC;rw[rA fun w hw=>h w (aR _ hw)];split
  ·rfl
  ·have:x≠n:=by rintro rfl;exact h v aK
   simp[this]
theorem rB{kindOf:Str->Option NameKind}{x:Str}{v:Value}:∀{P:List Str} {vs:List Value} {i:Nat} {m:Str->Option Value},P.Nodup->P[i]?=some x->vs[i]?=some v->kindOf x=some .local->
  bindL kindOf (P.zip vs) m x=some v
 |[],_,_,_,_,h,_,_=>by simp at h
 |_::_,[],_,_,_,_,h,_=>by simp at h
 |p::P,w::vs,0,m,nd,h1,h2,hk=>by
  simp at h1 h2;subst h1;subst h2;show bindL kindOf ((p,w)::P.zip vs) m p=_;unfold bindL;rw[rq fun v hv=>(cU.mp nd).1 (o5 hv).1,ab hk];simp
 |p::P,w::vs,i+1,m,nd,h1,h2,hk=>by
  show bindL kindOf ((p,w)::P.zip vs) m x=_;unfold bindL;exact rB (i:=i) (cU.mp nd).2 (by simpa using h1) (by simpa using h2) hk
theorem rD{kindOf:Str->Option NameKind}{x:Str}{v:Value}:∀{P:List Str} {vs:List Value} {i:Nat} {m:Str->Option Value},P.Nodup->P[i]?=some x->vs[i]?=some v->kindOf x≠some .local->
  bindC kindOf (P.zip vs) m x=some v
 |[],_,_,_,_,h,_,_=>by simp at h
 |_::_,[],_,_,_,_,h,_=>by simp at h
 |p::P,w::vs,0,m,nd,h1,h2,hk=>by
  simp at h1 h2;subst h1;subst h2;show bindC kindOf ((p,w)::P.zip vs) m p=_;unfold bindC;rw[rA fun v hv=>(cU.mp nd).1 (o5 hv).1,ae hk];simp
 |p::P,w::vs,i+1,m,nd,h1,h2,hk=>by
  show bindC kindOf ((p,w)::P.zip vs) m x=_;unfold bindC;exact rD (i:=i) (cU.mp nd).2 (by simpa using h1) (by simpa using h2) hk
def start(N:List Str)(vs:List V):St:=vs.map some++List.replicate (N.length - vs.length) none
def iM(CX:wC)(P:Program)(w:World)(K:PySem.W.Frag)(mg:Str->Option Value)(base:Heap)(N:List Str)(qual:Str)(scope:Scope)(f:Addr)(cd:Value)(A:Around)(outer:List Env)(s:Shared)(H:Hp)(E:XK):Cx where
 prog:=P
 w:=w
 K:=K
 mg:=mg
 base:=base
 A:=A.deeper (envOfC qual scope s.heap.objs.size f cd)
 N:=N
 dS:=s
 uA:=H
 env:=envOfC qual scope s.heap.objs.size f cd
 outer:=outer
 stack:=envOfC qual scope s.heap.objs.size f cd::outer
 ex:=[]
 calm:=true
 fn:=fun _=>true
 pn:=[]
 xe:=fun e s'=>wpAny (model P w) (A.deeper (envOfC qual scope s.heap.objs.size f cd)) (leaving (envOfC qual scope s.heap.objs.size f cd) e) (fun _ Dl=>CX outer H s E e Dl) (fun e' Dl=>CX outer H s E e' Dl) s'
theorem uH{sc:Scope}{n:Nat}{x:Str}(h:sc.names.lookup x=some .cell):∃c,(cellsFrom n sc.names []).lookup x=some c:=by
 have q:=PySem.W.cellsFrom_some sc.names n [] (.inl h);exact oy.mp q
theorem zq{CX:wC}{P:Program}{w:World}{K:PySem.W.Frag}{mg:Str->Option Value}{base:Heap}{N ps:List Str}{qual:Str}{scope:Scope}{f:Addr}{cd:Value}{A:Around}{outer:List Env}{s s1:Shared}{H:Hp}{E:XK}{us:List Value}{vs:List V}
  (S:c_ N ps scope) (hd:A.handled=none) (e0:DE P w K mg base A outer s H) (hl:vs.length=ps.length) (r:Vals vs us)
  (x:InCallC s s.heap.objs.size (bindL (envOfC qual scope s.heap.objs.size f cd).kindOf (ps.zip us) fun _=>none) (cellsFrom (s.heap.objs.size+1) scope.names []) (bindC (envOfC qual scope s.heap.objs.size f cd).kindOf (ps.zip us) fun _=>none) s1):
  Inv (iM CX P w K mg base N qual scope f cd A outer s H E) [] (start N vs) H s1:=by
 have nE:ps.length<=N.length:=by have:=bH List.length S.pre;rw[oX]at this;omega
 obtain⟨h1,tk,rfl,hk⟩:=x.done;have Jy:∀b:Addr,b∉(iM CX P w K mg base N qual scope f cd A outer s H E).ex:=fun b z=>absurd (show b∈([]:List Addr)from z) (by simp);refine⟨⟨e0.mod,S.kind,rfl,rfl,ak _,fun y z c h1 h2=>?_,fun y hy=>?_,fun y c _ h=>?_,fun _=>hd,Around.frames_deeper e0.frames,.inr ⟨rfl,rfl⟩,fun b z=>absurd z (Jy b),e0.bs,e0.E5,fun b _ _=>Jy b,fun b z=>absurd z (Jy b),e0.pk,e0.Jr⟩,
  rfl,e0.bare,Un.kept hk,⟨_,x.toInCall.ns,fun i y v h1 h2 h3=>?_⟩,fun y c h=>⟨_,x.cell y c h⟩,e0.bC.fresh (ak _),fun y c h=>?_,fun p hp=>absurd (show p∈([]:List (Addr×Obj))from hp) (by simp),e0.bC.kept hk,?_⟩
 ·exact name_of_addr x.apart (fJ h1) (fJ h2)
 ·have hy:scope.names.lookup y=some .cell\/scope.names.lookup y=some .free:=hy;rcases hy with hy|hy
  ·exact uH hy
  ·exact absurd rfl (S.GD _ (fJ hy))
 ·exact e8 (x.above y c (fJ h))
 ·have hi:i<vs.length:=by
   unfold start at h2;by_cases hi:i<vs.length
   ·exact hi
   ·rw[dH (by simpa using hi)]at h2;rw[kQ]at h2;split at h2<;>cases h2
  have ha:vs[i]?=some v:=by
   unfold start at h2;rw[bX (by simpa using hi),aS]at h2;cases e:vs[i]? with
   |none=>rw[e]at h2;cases h2
   |some a=>rw[e]at h2;cases h2;rfl
  obtain⟨u,hu,rv⟩:=r.get ha;have hp:ps[i]?=some y:=by
   rw[<-S.pre,List.getElem?_take_of_lt (by omega)];exact h1
  have Rw:ps.Nodup:=by rw[<-S.pre];exact S.nd.sublist (List.take_sublist _ _)
  refine⟨u,rv,?_⟩;rcases S.par y (bu hp)with k|k
  ·exact .inl ⟨k,rB Rw hp hu k⟩
  ·obtain⟨c,e⟩:=uH (n:=s.heap.objs.size+1) k;refine .inr ⟨.inl k,c,e,?_⟩;have q:=x.cell y c e;rw[rD Rw hp hu (by show scope.names.lookup y≠_;rw[k];decide)]at q;exact q
 ·exact e0.bC.fresh (e8 (x.above y c (fJ h)))
 ·unfold start;show _=N.length;rw[ba,ai,kY];omega
theorem Bc{CX:wC}{P:Program}{w:World}{K:PySem.W.Frag}{mg:Str->Option Value}{base:Heap}{k:Nat}{f:Addr}{name qual:Str}{params:Arguments}{body:List Stmt}{scope:Scope}{dV kV doc pm cE ct oc:Value}{an od:Option Addr}
  {xK:Array (Option Value)} {N ps:List Str} {sp:Sp} (lk:K.lookup f=some ⟨oc,od,.func (PySem.W.fnOf name qual params body scope dV kV doc pm an cE ct),xK⟩) (nC:PySem.W.codeIn K cE qual=true) (S:c_ N ps scope)
  (len:∀vs H Q E,sp vs H Q E->vs.length=ps.length)
  (f':∀(A:Around) (outer:List Env) (s:Shared) (H:Hp) (vs:List V) (Q:VK) (E:XK),cM k (A.deeper (envOfC qual scope s.heap.objs.size f cE))->sp vs H Q E->
   ∃t,ja (iM CX P w K mg base N qual scope f cE A outer s H E) body t/\t {nx:=fun _ H'=>Q .bU H',rt:=Q} (start N vs) H):
  fg P w K mg base CX (k+1) f (PySem.W.fnOf name qual params body scope dV kV doc pm an cE ct) ps sp:=by
 refine⟨len,fun A outer s H args us vs Q E hr e0 hb r Fc=>?_⟩;have hl:=len _ _ _ _ Fc;have KX:K.In s.heap:=e0.mod.J8.keeps fun b o e=>(e0.bs b o e).1;have lim:s.heap.NoLimit:=e0.mod.nolimit.keeps fun b o e=>(e0.bs b o e).1;have Kn:∀y∈ps.zip us,scope.names.lookup y.1=some .local\/(scope.names.lookup y.1=some .cell/\((cellsFrom (s.heap.objs.size+1) scope.names []).lookup y.1).isSome=true):=fun⟨n,v⟩ hy=>by
  rcases S.par n (o5 hy).1 with q|q
  ·exact .inl q
  ·exact .inr ⟨q,PySem.W.cellsFrom_some _ _ _ (.inl q)⟩
 refine codeAny_call_function hr.depth (KX _ _ lk) rfl S.co S.gen rfl (PySem.W.codeRec_of KX nC) (hb _ _ _ _ ?_);refine wpAny_newFunctionEnv_cells S.kind Kn fun env he s1 x=>?_
 subst he;refine⟨lim.keeps x.toInCall.keep,codeAny_func ?_⟩;obtain⟨t,ht,hq⟩:=f' A outer s H vs Q E (hr.deeper _) Fc;have I:Inv (iM CX P w K mg base N qual scope f cE A outer s H E) [] (start N vs) H s1:=zq S hr.hd e0 hl r x;refine c0 (ht [] s1 (start N vs) H _ I hq) (fun fl s' hs=>?_) fun e s' hs=>hs;have fin:∀{bA:St} {H':Hp} {v:V} {u:Value},Inv (iM CX P w K mg base N qual scope f cE A outer s H E) [] bA H' s'->RelV v u->Q v H'->CE outer P w H s Q u s':=
  fun{bA H' v u} J rv q=>⟨v,H',J.os,J.bare,J.base,J.bC,rv,q⟩
 cases fl with
 |ret u=>
  obtain⟨v,bA,H',J,rv,q⟩:=hs;exact fin J rv q
 |next=>
  obtain⟨bA,H',J,q⟩:=hs;exact fin (v:=V.bU) (u:=Value.none) J rfl q
 |brk=>
  obtain⟨_,_,_,q⟩:=hs;exact False.elim q
 |cont=>
  obtain⟨_,_,_,q⟩:=hs;exact False.elim q
end L2
namespace L2
open PySem PySem.Spec PyProof.Rows
section
variable {X:Cx}{x:Str}{p pos:Pos}{e:Expr}{es:List Expr}{t:TA}{id T:String}{r:List V->Hp->VK->Prop}
def NI(r:List V->Hp->VK->Prop)(t:TA):TE:=fun σ H Q=>t σ H fun vs H1=>r vs H1 Q
theorem uI(hc:f_ X (.builtin id) r)(hg:Gl X x)(hm:X.mg x=none)(hv:bootBuiltins x=some (.builtin id))(ha:PA X (e::es) t)(hn:x≠"__name__":=by decide) (iu:(x==("__debug__":Str))=false:=by decide)
  (he:starEach (e::es) X.env=(false,eval e X.env)::starEach es X.env:=by rfl) (nE:(backTo pos (starEach es X.env)).any (·.1)=false:=by rfl):PE X (.Call (.Name x p) (e::es) [] pos) (NI r t):=by
 intro pins s σ H Q I h;refine iV (ka I hg hm hv ?_ hn iu);exact PyProof.Rows.callWith_builtin1 (dq (ha pos pins s σ H _ I h) fun us s1 ⟨vs,H1,I1,r1,q1⟩=>hc pins s1 σ H1 vs us Q I1 r1 q1) he nE
theorem g_(hc:f_ X (.type T) r)(hg:Gl X x)(hm:X.mg x=none)(hv:bootBuiltins x=some (.type T))(ha:PA X (e::es) t)(hn:x≠"__name__":=by decide) (iu:(x==("__debug__":Str))=false:=by decide)
  (he:starEach (e::es) X.env=(false,eval e X.env)::starEach es X.env:=by rfl) (nE:(backTo pos (starEach es X.env)).any (·.1)=false:=by rfl):PE X (.Call (.Name x p) (e::es) [] pos) (NI r t):=by
 intro pins s σ H Q I h;refine iV (ka I hg hm hv ?_ hn iu);exact oo (dq (ha pos pins s σ H _ I h) fun us s1 ⟨vs,H1,I1,r1,q1⟩=>hc pins s1 σ H1 vs us Q I1 r1 q1) he nE
end
end L2
namespace HT
open PySem PyProof.Rows
def lexLt:List Int->List Int->Bool
 |[],[]=>false
 |[],_::_=>true
 |_::_,[]=>false
 |x::xs,y::ys=>if x=y then lexLt xs ys else decide (x<y)
theorem wD(x y:Int)(xs ys:List Int):lexLt (x::xs) (y::ys)=if x=y then lexLt xs ys else decide (x<y):=rfl
theorem qX:lexLt [] []=false:=rfl
theorem pC(y:Int)(ys:List Int):lexLt [] (y::ys)=true:=rfl
theorem pE(x:Int)(xs:List Int):lexLt (x::xs) []=false:=rfl
theorem Bd(A:Around)(s:Shared)(a:Int)(t:Tok)(c:Int)(u:Tok):∃e,SeqAt.EqAt A s (.int a t) (.int c u) e/\(e=true↔a=c):=
 ⟨(a==c),SeqAt.EqAt.int_int a t c u,by simp⟩
theorem Be(A:Around)(s:Shared)(a:Int)(t:Tok)(c:Int)(u:Tok)(prog:Program)(w:World)(E:Value->Shared->Prop)(Q:Value->Shared->Prop)(h:Q (.bool (decide (a<c))) s):
  wpAny (model prog w) A (richCompare .Lt (.int a t) (.int c u)) Q E s:=
 (PyProof.Rows.lt_int h:wpAny (model prog w) A (compareOp .Lt (.int a t) (.int c u)) Q E s)
section
open PySem.SeqAt
open PySem.AutoSeq1 (wpAny_loadPart')
open PySem.MeetsSeq PySem.MeetsSeq2 PySem.MeetsSeq3
theorem qY(l b:Addr)(items gC:Array Value)(n n2:Nat)(dd Dm:Option Addr)(sl Fd:Array (Option Value))(ns ms:List Int)(hi:IntsAre items.toList ns)(hj:IntsAre gC.toList ms):
  Meets (Builtin.«tuple.__lt__» ⟨[.ref l,.ref b],[]⟩)
   (fun _ R s=>s.heap.get? l=some {cls:=.type "tuple",dict:=dd,data:=.seq items n,slots:=sl}/\s.heap.get? b=some {cls:=.type "tuple",dict:=Dm,data:=.seq gC n2,slots:=Fd}/\
    R (.ok (.ret (.bool (lexLt ns ms)))) s):=
 .of_wp fun prog w A R s h=>by
  obtain⟨hp,g,d,tk,os⟩:=s;obtain⟨hl,hb,h⟩:=h;have f2:=AutoSeq1.sub_tuple_tuple;have z1:items.size=ns.length:=by rw[<-hi.length];simp
  have z2:gC.size=ms.length:=by rw[<-hj.length];simp
  wp_walk using wpAny_loadPart' hl,wpAny_loadPart' hb,iZ _ (fun rest b s'=>b.1=none/\s'=⟨hp,g,d,tk,os⟩/\∃(vs ws:List Value) (Jz JA:List Int),rest=vs.zip ws/\
   IntsAre vs Jz/\IntsAre ws JA/\Jz.length+gC.size=JA.length+items.size/\R (.ok (.ret (.bool (lexLt Jz JA)))) ⟨hp,g,d,tk,os⟩) _
  case turn=>
   rintro ⟨y,x⟩ rest b s' ⟨jQ,rfl,vs,ws,Jz,JA,hz,O4,NJ,hlen,hR⟩
   cases O4 with
   |nil=>rw[List.zip_nil_left]at hz;cases hz
   |cons a t O5=>
    cases NJ with
    |nil=>rw[List.zip_nil_right]at hz;cases hz
    |cons c u O6=>
     rw[List.zip_cons_cons]at hz;injection hz with SQ Ko
     injection SQ with hy hx
     subst hy hx;rw[wD]at hR;simp only[bb]at hlen;obtain⟨e,he,Kp⟩:=Bd A.in1 ⟨hp,g,d,tk,os⟩ a t c u;refine aa (he prog w _ _ ?_);cases e with
     |true=>
      rw[ab (Kp.mp rfl)]at hR
      wp_walk
      exact⟨rfl,rfl,_,_,_,_,Ko,O5,O6,by omega,hR⟩
     |false=>
      rw[ae (fun q=>absurd (Kp.mpr q) cj)]at hR;have SR:=Be A.in1 ⟨hp,g,d,tk,os⟩ a t c u prog w
      wp_walk using SR
      exact⟨_,rfl,by simpa using hR⟩
  case fin=>
   rintro ⟨b1,b2⟩ s' ⟨jQ,rfl,vs,ws,Jz,JA,hz,O4,NJ,hlen,hR⟩
   simp only at jQ;subst jQ;have hv:lexLt Jz JA=decide (items.size<gC.size):=by
    cases O4 with
    |nil=>
     cases NJ with
     |nil=>
      simp only[dt]at hlen;rw[qX];exact(a_ (by omega)).symm
     |cons c u hw=>
      simp only[dt,bb]at hlen;rw[pC];exact(bF (by omega)).symm
    |cons a t hv=>
     cases NJ with
     |nil=>
      simp only[dt,bb]at hlen;rw[pE];exact(a_ (by omega)).symm
     |cons c u hw=>
      rw[List.zip_cons_cons]at hz;cases hz
   rw[hv]at hR
   wp_walk
   exact⟨_,rfl,by simpa[Builtin.Tuple.tupleCompareSizes]using hR⟩
  case h=>
   exact⟨rfl,rfl,items.toList,gC.toList,ns,ms,rfl,hi,hj,by omega,h⟩
end
section
variable {prog:Program}{w:World}{A:Around}{E:Value->Shared->Prop}{s:Shared}
theorem wF{l b:Addr}{items gC:Array Value}{ns ms:List Int}{Q:Value->Shared->Prop}(hl:IsTup s.heap l items)(hb:IsTup s.heap b gC)(hi:IntsAre items.toList ns)(hj:IntsAre gC.toList ms)
  (hu:A.units<cLine) (h:Q (.bool (lexLt ns ms)) s):wpAny (model prog w) A (compareOp .Lt (.ref l) (.ref b)) Q E s:=by
 obtain⟨⟨cls,dd,data,sl⟩,ho,hc,n,hd⟩:=id hl;obtain⟨⟨O7,Dm,data2,Fd⟩,GF,Kq,n2,hd2⟩:=id hb;simp only at hc hd Kq hd2;subst hc hd Kq hd2;exact richCompare_meets_room (op:=.Lt) ⟨_,ho,rfl⟩ ⟨_,GF,rfl⟩ PySem.F.slot_tuple_lt PySem.F.entry_tuple_lt (PySem.F.args_tuple_lt_2 _ _) (qY l b items gC n n2 dd Dm sl Fd ns ms hi hj)
  ⟨ho,GF,show Value.bool (lexLt ns ms)≠Value.notImplemented/\Q (.bool (lexLt ns ms)) s from⟨(fun x=>nomatch x),h⟩⟩ hu
theorem DF{t b:Addr}{vs ws:List Value}{Q:Value->Shared->Prop}(ht:IsTup s.heap t vs.toArray)(hb:IsTup s.heap b ws.toArray)(hv:vs≠[])
  (h1:ws=[]->Q (.ref t) s) (h2:ws≠[]->Q (.ref s.heap.objs.size) {s with heap:=s.heap.push {cls:=.type "tuple",data:=.seq (vs++ws).toArray}})
  (hsz:vs.length+ws.length<=sizeLine):wpAny (model prog w) A (binaryOp .Add (.ref t) (.ref b)) Q E s:=by
 obtain⟨⟨cls,dd,data,sl⟩,ho,hc,n,hd⟩:=id ht;obtain⟨⟨O7,Dm,data2,Fd⟩,GF,Kq,n2,hd2⟩:=id hb;simp only at hc hd Kq hd2;subst hc hd Kq hd2;have e:vs.toArray++ws.toArray=(vs++ws).toArray:=by simp
 by_cases hw:ws=[]
 ·exact concat_meets ⟨_,ho,rfl⟩ ⟨_,GF,rfl⟩ noFill_tuple_add seq_tuple_add oB oA (oz _ _)
   (tuple_addW1 t b vs.toArray ws.toArray n n2 dd Dm sl Fd (by simpa using hv) (by simp[hw])) ⟨ho,GF,h1 hw⟩
 ·refine concat_meets ⟨_,ho,rfl⟩ ⟨_,GF,rfl⟩ noFill_tuple_add seq_tuple_add oB oA (oz _ _)
   (tuple_addW2 t b vs.toArray ws.toArray n n2 dd Dm sl Fd (by simpa using hv) (by simpa using hw) (by rw[a6,a6];exact hsz)) ⟨ho,GF,?_⟩
  rw[e];exact h2 hw
end
end HT
namespace L2
open PySem PySem.Spec PyProof.Rows
section
variable {X:Cx}{e:Expr}{te:TE}{lo hi:Option Expr}{tl th:TO}{pos p2:Pos}
def Kr(K:PySem.W.Frag):R2:=fun x y H Q=>∃a b xs ys,x=.ref a/\y=.ref b/\gy K H a xs/\gy K H b ys/\xs≠[]/\xs.length+ys.length<=sizeLine/\
 (ys=[]->Q (.ref a) H)/\(ys≠[]->∀p,H p=none->Q (.ref p) (upd H p (.tup (xs++ys))))
theorem Vals.sN {xs:List V}{us:List Value}(r:Vals xs us):us=[]↔xs=[]:=by
 cases r with
 |nil=>simp
 |cons _ _=>simp
theorem DG:qP X (binaryOp .Add) (Kr X.K):=by
 intro pins s σ H x y v u Q I rx ry h;obtain⟨a,b,xs,ys,rfl,rfl,ha,hb,hx,hz,q1,q2⟩:=h;cases rx;cases ry;obtain⟨aT,r1,p1,_⟩:=I.tuple ha;obtain⟨uJ,r2,p2,_⟩:=I.tuple hb;refine HT.DF p1 p2 (fun z=>hx (r1.sN.mp z)) (fun z=>⟨.ref a,H,I,rfl,q1 (r2.sN.mp z)⟩) (fun z=>?_) (by rw[<-r1.length,<-r2.length];exact hz);refine⟨.ref s.heap.objs.size,_,I.laid (t':=s.toks) (o:=.tup (xs++ys)) (fun b ob q=>ay _ q) (ak _) ?_,rfl,q2 (fun w=>z (r2.sN.mpr w)) _ (I.bC.fresh (ak _))⟩;exact⟨by rw[ba];exact hz,_,r1.append r2,j9.new _ _⟩
end
end L2
namespace L2
open PySem PySem.Spec PyProof.Rows
def Fe(n:Nat)(i:Int):Option Nat:=if 0<=i then(if i<n then some i.toNat else none)else if-(n:Int)<=i then some (i+n).toNat else none
def qQ{α:Type}(xs:List α)(i:Int):Option α:=(Fe xs.length i).bind fun j=>xs[j]?
theorem DH{n:Nat}{i:Int}{j:Nat}(h:Fe n i=some j):seqIndex? i n=some j/\j<n/\-(n:Int)<=i/\i<n:=by
 unfold Fe at h;by_cases h0:0<=i
 ·rw[ab h0]at h;by_cases h1:i<n
  ·rw[ab h1]at h;have e:i.toNat=j:=Option.some.inj h;exact⟨by rw[seqIndex_of h0 h1,e],by omega,by omega,h1⟩
  ·rw[ae h1]at h;cases h
 ·rw[ae h0]at h;by_cases h1:-(n:Int)<=i
  ·rw[ab h1]at h;have e:(i+n).toNat=j:=Option.some.inj h;exact⟨by rw[seqIndex_neg (by omega) h1,e],by omega,h1,by omega⟩
  ·rw[ae h1]at h;cases h
theorem sO{α:Type}{xs:List α}{i:Int}{v:α}(h:qQ xs i=some v):∃j,seqIndex? i xs.length=some j/\xs[j]?=some v/\j<xs.length/\-(xs.length:Int)<=i/\i<xs.length:=by
 unfold qQ at h;cases e:Fe xs.length i with
 |none=>rw[e]at h;cases h
 |some j=>
  rw[e]at h;obtain⟨h1,h2,h3,h4⟩:=DH e;exact⟨j,h1,h,h2,h3,h4⟩
theorem DI{α:Type}{xs:List α}{j:Nat}{v:α}(h:xs[j]?=some v):qQ xs (j:Int)=some v:=by
 have hj:j<xs.length:=(cJ.mp h).1;have e:Fe xs.length (j:Int)=some j:=by
  unfold Fe;rw[ab (by omega),ab (by omega)];simp
 unfold qQ;rw[e];exact h
def nV(b:Expr):Prop:=∀o i,subscripted b false o i=operate [o,i] (getItem o i)
def JB(X:Cx)(r:R2):Prop:=
 ∀(value slice:Expr) (pins:List (Addr×Obj)) (s:Shared) (σ:St) (H:Hp) (x y:V) (v u:Value) (Q:VK),Inv X pins σ H s->RelV x v->RelV y u->r x y H Q->
  subscripted slice false v u=operate [v,u] (getItem v u)->wpAny (model X.prog X.w) X.A (subscriptTail value slice v u) (EP X pins σ Q) X.xe s
def SS(X:Cx)(id:String)(r:V->List V->Hp->VK->Prop):Prop:=
 ∀(pins:List (Addr×Obj)) (s:Shared) (σ:St) (H:Hp) (x:V) (xs:List V) (v:Value) (us:List Value) (Q:VK),Inv X pins σ H s->RelV x v->Vals xs us->r x xs H Q->
  wpAny (model X.prog X.w) X.A (call (.builtin id) (v::us)) (EP X pins σ Q) X.xe s
section
variable {X:Cx}{a b:Expr}{ta tb:TE}{pos:Pos}
theorem Ff{r:R2}(hr:JB X r)(ha:PE X a ta)(hb:PE X b tb)(hs:nV b):PE X (.Subscript a b pos) (Jw r ta tb):=by
 intro pins s σ H Q I h;exact Subscript_ (Gr ha hb I h fun v u s2 x y H2 I2 rx ry q=>hr a b pins s2 σ H2 x y v u Q I2 rx ry q (hs _ _))
def O8(K:PySem.W.Frag):R2:=fun x y H Q=>∃p xs i v,x=.ref p/\y=.int i/\g8 K H p xs/\qQ xs i=some v/\Q v H
def O9(K:PySem.W.Frag):R2:=fun x y H Q=>∃p xs i v,x=.ref p/\y=.int i/\gy K H p xs/\qQ xs i=some v/\Q v H
def O_:R2:=fun x y H Q=>∃z i c,x=.str z/\y=.int i/\z.length<=sizeLine/\qQ z.cps.toList i=some c/\Q (.str ⟨#[c]⟩) H
theorem xM:JB X (O8 X.K):=by
 intro value slice pins s σ H x y v u Q I rx ry h hs;obtain⟨p,xs,i,z,rfl,rfl,hq,he,q⟩:=h;cases rx;obtain⟨t,rfl⟩:=ry;obtain⟨aT,r,pl,hz⟩:=I.list hq;obtain⟨j,h1,h2,h3,h4,h5⟩:=sO he;obtain⟨w,ew,jc⟩:=r.get h2;have hl:=r.length;have hn:=pB;have fin:EP X pins σ Q w s:=⟨z,H,I,jc,q⟩;by_cases h0:0<=i
 ·have hj:i.toNat=j:=by
   rw[seqIndex_of h0 h5]at h1;exact Option.some.inj h1
  exact item_listR pl.isList h0 (by omega) (by rw[hj];simpa using ew) fin hs
 ·have hj:(i+(aT.toArray.size:Int)).toNat=j:=by
   rw[seqIndex_neg (by omega) h4]at h1;rw[a6,<-hl];exact Option.some.inj h1
  exact subscriptTail_builtinR (x:=w) pl.isList.typeIs slot_list_getitem.lookup
   (wpAny_getItem_list_neg (Q:=fun r s'=>r=w/\EP X pins σ Q r s') pl.isList (by omega) (by rw[a6]<;>omega) (by omega) (by rw[hj];simpa using ew) ⟨rfl,fin⟩) hs
theorem GG:JB X (O9 X.K):=by
 intro value slice pins s σ H x y v u Q I rx ry h hs;obtain⟨p,xs,i,z,rfl,rfl,hq,he,q⟩:=h;cases rx;obtain⟨t,rfl⟩:=ry;obtain⟨aT,r,pl,hz⟩:=I.tuple hq;obtain⟨j,h1,h2,h3,h4,h5⟩:=sO he;obtain⟨w,ew,jc⟩:=r.get h2;have hl:=r.length;have hn:=pB;have fin:EP X pins σ Q w s:=⟨z,H,I,jc,q⟩;exact subscriptTail_builtinR (x:=w) pl.typeIs slot_tuple_getitem.lookup
  (getItem_tuple (j:=j) (Q:=fun r s'=>r=w/\EP X pins σ Q r s') pl (by omega) (by omega) (by rw[a6,<-hl];exact h1) (by simpa using ew) ⟨rfl,fin⟩) hs
theorem GH:JB X O_:=by
 intro value slice pins s σ H x y v u Q I rx ry h hs;obtain⟨z,i,c,rfl,rfl,hz,he,q⟩:=h;obtain⟨t,rfl⟩:=rx;obtain⟨t',rfl⟩:=ry;obtain⟨j,h1,h2,h3,h4,h5⟩:=sO he;have hl:z.cps.toList.length=z.length:=by simp[Str.length]
 rw[hl]at h1 h4 h5;have hn:=pB;exact tail_any (typeIs_str s z t) slot_str_getitem.lookup (getItem_str (c:=c) (by
  have e1:decide (i< -(2 ^63:Int))=false:=a_ (by omega);have e2:decide (i>=2 ^63)=false:=a_ (by omega);rw[e1,e2,lE]) (by rw[h1];simpa using h2) ⟨.str ⟨#[c]⟩,H,I.tok _,⟨_,rfl⟩,q⟩) hs
theorem Inv.lst {pins:List (Addr×Obj)}{σ:St}{H:Hp}{s:Shared}{p:Addr}{xs:List V}(I:Inv X pins σ H s)(h:H p=some (.lst xs)):
  ∃(aT:List Value) (n:Nat),Vals xs aT/\s.heap.get? p=some {cls:=.type "list",data:=.seq aT.toArray n}/\xs.length<=sizeLine:=by
 obtain⟨z,aT,n,r,e⟩:=I.bC p _ h;exact⟨aT,n,r,e,z⟩
def Fg:V->Bool
 |.bU=>true
 |.bl _=>true
 |.int _=>true
 |.str _=>true
 |_=>false
theorem lR:f_ X (.type "list") (fun xs H Q=>∃p ys,xs=[.ref p]/\(g8 X.K H p ys\/gy X.K H p ys)/\∀l,H l=none->Q (.ref l) (upd H l (.lst ys))):=by
 intro pins s σ H xs us Q I r h;obtain⟨p,ys,rfl,hq,q⟩:=h;obtain⟨u,rfl,rx⟩:=vals1 r;cases rx;have fin:∀(aT:List Value),Vals ys aT->ys.length<=sizeLine->∀(h':Heap) (c':Nat),(∀b o',s.heap.get? b=some o'->h'.get? b=some o')->
   h'.get? s.heap.objs.size=some {cls:=.type "list",dict:=none,data:=.seq aT.toArray c',slots:=#[]}->EP X pins σ Q (.ref s.heap.objs.size) {s with heap:=h'}:=fun aT r' hz h' c' kp e=>
  ⟨.ref s.heap.objs.size,_,I.laid (t':=s.toks) kp (ak _) (show bg X.prog X.w _ h' _ (.lst ys)from⟨hz,aT,c',r',e⟩),rfl,q _ (I.bC.fresh (ak _))⟩
 rcases hq with hq|hq
 ·obtain⟨aT,r',pl,hz⟩:=I.list hq;have hlen:=r'.length;obtain⟨o,ho,hc,n,hd⟩:=pl.isList;exact call_list_seq p (.inl rfl) ho hc hd (fun h' c' kp e=>fin aT r' hz h' c' kp e) (by simp only[a6]<;>omega)
 ·obtain⟨aT,r',pl,hz⟩:=I.tuple hq;have hlen:=r'.length;obtain⟨o,ho,hc,n,hd⟩:=pl;exact call_list_seq p (.inr rfl) ho hc hd (fun h' c' kp e=>fin aT r' hz h' c' kp e) (by simp only[a6]<;>omega)
theorem j3:f_ X (.type "tuple") (fun xs H Q=>∃p ys,xs=[.ref p]/\((g8 X.K H p ys/\∀l,H l=none->Q (.ref l) (upd H l (.tup ys)))\/(gy X.K H p ys/\Q (.ref p) H))):=by
 intro pins s σ H xs us Q I r h;obtain⟨p,ys,rfl,h⟩:=h;obtain⟨u,rfl,rx⟩:=vals1 r;cases rx;rcases h with⟨hq,q⟩|⟨hq,q⟩
 ·obtain⟨aT,r',pl,hz⟩:=I.list hq;have hlen:=r'.length;refine call_tuple_list pl.isList (fun h' kp=>?_) (by simp only[a6]<;>omega);have I1:Inv X pins σ H {s with heap:=h'}:=I.kept (t':=s.toks) kp;have I2:Inv X pins σ (upd H h'.objs.size (.tup ys)) {s with heap:=h'.push {cls:=.type "tuple",data:=.seq aT.toArray}}:=
   I1.laid (t':=s.toks) (fun b o e=>ay _ e) (ak _) (show bg X.prog X.w _ _ _ (.tup ys)from⟨hz,aT,r',j9.new _ _⟩)
  exact⟨.ref h'.objs.size,_,I2,rfl,q _ (I1.bC.fresh (ak _))⟩
 ·obtain⟨aT,r',pl,hz⟩:=I.tuple hq;exact call_tuple_same pl ⟨.ref p,H,I,rfl,q⟩
def Rx(K:PySem.W.Frag)(T:String)(x:V)(H:Hp):Prop:=match x with
 |.str _=>T="str"
 |.int _=>T="int"
 |.ref p=>(T="list"/\∃xs,g8 K H p xs)\/(T="tuple"/\∃o,K.lookup p=some o/\o.cls=.type "tuple"/\o.dict=none)\/
   (T="dict"/\((∃ar,H p=some (.dK ar))\/∃ar,H p=some (.dT ar)))\/(T="set"/\∃S n,H p=some (.set S n))
 |_=>False
theorem GI{pins:List (Addr×Obj)}{σ:St}{H:Hp}{s:Shared}{T:String}{x:V}{v:Value}(I:Inv X pins σ H s)(r:RelV x v)(ty:Rx X.K T x H):
  s.TypeIs v T/\∀a,v=.ref a->∃ob,s.heap.get? a=some ob/\ob.dict=none:=by
 cases x with
 |str z=>
  obtain⟨t,rfl⟩:=r;cases(show T="str"from ty);exact⟨typeIs_str s z t,fun _ e=>nomatch e⟩
 |int i=>
  obtain⟨t,rfl⟩:=r;cases(show T="int"from ty);exact⟨typeIs_int s i t,fun _ e=>nomatch e⟩
 |ref p=>
  cases r;rcases ty with⟨rfl,xs,hq⟩|⟨rfl,o,hk,hc,hd⟩|⟨rfl,hk⟩|⟨rfl,S,n,hk⟩
  ·obtain⟨aT,_,pl,_⟩:=I.list hq;refine⟨pl.isList.typeIs,fun a e=>?_⟩;cases e;obtain⟨o,n,e,c,hd,_⟩:=pl;exact⟨o,e,hd⟩
  ·refine⟨⟨o,I.nB p o hk,hc⟩,fun a e=>?_⟩;cases e;exact⟨o,I.nB _ o hk,hd⟩
  ·have z:∃o,s.heap.get? p=some o/\o.ExactDict:=by
    rcases hk with⟨ar,hk⟩|⟨ar,hk⟩
    ·obtain⟨_,_,_,_,o,_,_,e,ex,_⟩:=I.bC p _ hk;exact⟨o,e,ex⟩
    ·obtain⟨_,_,_,_,o,_,_,e,ex,_⟩:=I.bC p _ hk;exact⟨o,e,ex⟩
   obtain⟨o,e,ex⟩:=z;refine⟨⟨o,e,ex.1⟩,fun a e2=>?_⟩;cases e2;exact⟨o,e,ex.2.1⟩
  ·obtain⟨o,_,_,_,e,ex,_⟩:=I.bC p _ hk;refine⟨⟨o,e,ex.1⟩,fun a e2=>?_⟩;cases e2;exact⟨o,e,ex.2.1⟩
 |_=>exact False.elim ty
def SU(K:PySem.W.Frag)(T:String)(r:V->List V->Hp->VK->Prop)(to:TE)(t:TA):TE:=fun σ H Q=>to σ H fun x H1=>Rx K T x H1/\t σ H1 fun xs H2=>r x xs H2 Q
variable {o e:Expr}{es:List Expr}{to:TE}{t:TA}{name:Str}{apos dE:Pos}{T id:String}{r:V->List V->Hp->VK->Prop}
theorem Ks(pa:PlainAttrs T)(slot:Slot T name id)(Kt:typeOf (.builtin id)=pure (.type "method_descriptor"))(hm:SS X id r)(ho:PE X o to)(ha:PA X (e::es) t)
  (uK:attributeBase o name X.env (eval o X.env)=eval o X.env:=by rfl)
  (O':((backTo dE (starEach (e::es) X.env)).all (fun x=>!x.1)&&(backToKw dE (keywordEach [] X.env)).all (fun x=>x.1.isSome)
   &&decide ((e::es).length+([]:List Keyword).length+(if([]:List Keyword).isEmpty then 0 else 1)<30))=true:=by rfl)
  (uL:(apos.endLine==dE.line)=true:=by rfl) (hs:starEach (e::es) X.env=(false,eval e X.env)::starEach es X.env:=by rfl) (GJ:(backTo dE (starEach es X.env)).any (·.1)=false:=by rfl):
  PE X (.Call (.Attribute o name apos) (e::es) [] dE) (SU X.K T r to t):=by
 intro pins s σ H Q I h;refine wpAny_Call_method_late uK O' uL rfl (dq (ho pins s σ H _ I h) fun v s1 ⟨x,H1,I1,r1,ty,q1⟩=>?_);obtain⟨h1,h2⟩:=GI I1 r1 ty;refine⟨T,id,pa,slot,Kt,h1,h2,?_⟩;have hA:=ha dE pins s1 σ H1 _ I1 q1;rw[hs]at hA⊢;refine Calls.callWith_builtin (by show(false||(backTo dE (starEach es X.env)).any (·.1))=false;rw[GJ]<;>rfl) (Calls.evalArgs_plain ?_);exact dq hA fun us s2 ⟨vs,H2,I2,r2,q2⟩=>hm pins s2 σ H2 x vs v us Q I2 r1 r2 q2
end
end L2
namespace L2
open PySem PySem.Spec PyProof.Rows
def NK(X:Cx)(id:String)(r:V->List V->Hp->VK->Prop):Prop:=
 ∀(pins:List (Addr×Obj)) (s:Shared) (σ:St) (H:Hp) (x:V) (xs:List V) (v:Value) (us:List Value) (Q:VK),Inv X pins σ H s->RelV x v->Vals xs us->r x xs H Q->
  wpAny (model X.prog X.w) X.A (call (.builtin id) (v::us)) (EP X pins σ Q) X.xe s
theorem Vals.one:∀{x:V} {us:List Value},Vals [x] us->∃u,us=[u]/\RelV x u
 |_,_,.cons r .nil=>⟨_,rfl,r⟩
theorem Vals.eraseIdx:∀{xs:List V} {us:List Value} (i:Nat),Vals xs us->Vals (xs.eraseIdx i) (us.eraseIdx i)
 |_,_,_,.nil=>.nil
 |_,_,0,.cons _ t=>t
 |_,_,i+1,.cons r t=>.cons r (Vals.eraseIdx i t)
theorem Vals.rep {xs:List V}{us:List Value}(h:Vals xs us):∀k:Nat,Vals (List.replicate k xs).flatten (List.replicate k us).flatten
 |0=>.nil
 |k+1=>by
  rw[ij,ij,gK,gK];exact Vals.append h (Vals.rep h k)
theorem rE{α:Type}:∀(l:List α) (i:Nat),(l.eraseIdx i).length<=l.length
 |[],_=>ak _
 |_::_,0=>fZ _
 |_::r,i+1=>Nat.succ_le_succ (rE r i)
theorem foldl_rep(aT:List Value):∀(k:Nat) (acc:List Value),
  List.foldl (fun x1 x2=>x1++x2) acc.toArray (List.replicate k aT.toArray)=(acc++(List.replicate k aT).flatten).toArray
 |0,acc=>by simp
 |k+1,acc=>by
  have e:acc.toArray++aT.toArray=(acc++aT).toArray:=by simp
  have e2:(acc++aT)++(List.replicate k aT).flatten=acc++(List.replicate (k+1) aT).flatten:=by
   rw[ij,gK,gw]
  rw[<-e2,<-foldl_rep aT k (acc++aT),<-e,ij,List.foldl_cons]
section
variable {X:Cx}{pins:List (Addr×Obj)}{σ:St}{H:Hp}{s:Shared}{l b:Addr}{xs ys zs:List V}
theorem Inv.Ku {aT sL:List Value}{n:Nat}{f:Array Value->Array Value}{t':Nat}(I:Inv X pins σ H s)(hH:H l=some (.lst xs))
  (e:s.heap.get? l=some {cls:=.type "list",data:=.seq aT.toArray n}) (hf:f aT.toArray=sL.toArray) (hv:Vals ys sL) (hz:ys.length<=sizeLine):
  Inv X pins σ (upd H l (.lst ys)) {s with heap:=s.heap.update l (Obj.mapSeq f),toks:=t'}:=by
 have q:=PySem.IsL.update e f;rw[hf]at q;refine I.write (x:=l) (e:=l) (by rw[hH];exact trivial) (.inl rfl) (fun b' u hb hu=>(gv s.heap (Obj.mapSeq f) (bS hb)).trans hu) ⟨_,q⟩ ?_
 exact⟨hz,sL,_,hv,q⟩
theorem Inv.GK {aT:List Value}{t':Nat}(I:Inv X pins σ H s)(hv:Vals ys aT)(hz:ys.length<=sizeLine):
  Inv X pins σ (upd H s.heap.objs.size (.lst ys)) {s with heap:=s.heap.push {cls:=.type "list",data:=.seq aT.toArray},toks:=t'}:=
 I.laid (fun _ _ q=>ay _ q) (ak _) ⟨hz,aT,0,hv,aQ _ rfl⟩
theorem Inv.fresh (I:Inv X pins σ H s):H s.heap.objs.size=none:=I.bC.fresh (ak _)
theorem Inv.Bf (I:Inv X pins σ H s)(hH:H l=some (.lst xs)):xs.length<=sizeLine/\∃(aT:List Value) (n:Nat),Vals xs aT/\xs.length=aT.length/\s.heap.get? l=some {cls:=.type "list",data:=.seq aT.toArray n}:=by
 obtain⟨z,aT,n,r,e⟩:=I.bC l _ hH;exact⟨z,aT,n,r,r.length,e⟩
theorem Bg{n:Nat}(h:n<=sizeLine):Builtin.List.listTooLong n=false:=by
 unfold Builtin.List.listTooLong;exact a_ (by omega)
end
section
variable {X:Cx}
def xN:V->List V->Hp->VK->Prop:=fun x vs H Q=>∃l xs y,x=.ref l/\vs=[y]/\H l=some (.lst xs)/\xs.length<sizeLine/\Q .bU (upd H l (.lst (xs++[y])))
theorem eM:NK X "list.append" xN:=by
 intro pins s σ H x vs v us Q I rx rv h;obtain⟨l,xs,y,rfl,rfl,hH,hz,q⟩:=h;cases rx;obtain⟨u,rfl,ru⟩:=rv.one;obtain⟨z,aT,n,r,hl,e⟩:=I.Bf hH;refine g7 ig ⟨_,e,rfl⟩ F.entry_list_append (F.args_list_append_2 _ _) (PySem.list_append l aT.toArray n u (by rw[a6];omega)) ⟨e,?_⟩;refine⟨.bU,_,I.Ku (sL:=aT++[u]) hH e (by simp) (r.append (.cons ru .nil)) ?_,rfl,q⟩;rw[ba,jK];omega
def Bh:V->List V->Hp->VK->Prop:=fun x vs H Q=>∃l xs i k y,x=.ref l/\vs=[.int i]/\H l=some (.lst xs)/\-(2 ^63)<=i/\i<2 ^63/\seqIndex? i xs.length=some k/\xs[k]?=some y/\Q y (upd H l (.lst (xs.eraseIdx k)))
theorem Bi:NK X "list.pop" Bh:=by
 intro pins s σ H x vs v us Q I rx rv h;obtain⟨l,xs,i,k,y,rfl,rfl,hH,h1,h2,hk,hy,q⟩:=h;cases rx;obtain⟨u,rfl,ru⟩:=rv.one;obtain⟨t,rfl⟩:=ru;obtain⟨z,aT,n,r,hl,e⟩:=I.Bf hH;obtain⟨w,hw,jc⟩:=r.get hy;refine g7 F.slot_list_pop ⟨_,e,rfl⟩ F.entry_list_pop (F.args_list_pop_2 _ _)
  (MeetsSeq.list_pop_at l aT.toArray n i t k w (fitsIndex_both h1 h2) (by rw[a6,<-hl];exact hk) (by rw[<-cy];exact hw) (by rw[a6];omega)) ⟨e,?_⟩
 refine⟨y,_,I.Ku (sL:=aT.eraseIdx k) hH e ?_ (r.eraseIdx k) ?_,jc,q⟩
 ·show aT.toArray.eraseIdxIfInBounds k=(aT.eraseIdx k).toArray;rw[List.eraseIdxIfInBounds_toArray]
 ·have:=rE xs k;omega
def Pa:R2:=fun x y H Q=>∃l b xs zs,x=.ref l/\y=.ref b/\H l=some (.lst xs)/\H b=some (.lst zs)/\xs.length+zs.length<=sizeLine/\∀p,H p=none->Q (.ref p) (upd H p (.lst (xs++zs)))
theorem GL:qP X (binaryOp .Add) Pa:=by
 intro pins s σ H x y v u Q I rx ry h;obtain⟨l,b,xs,zs,rfl,rfl,hH,hB,hz,q⟩:=h;cases rx;cases ry;obtain⟨z,aT,n,r,hl,e⟩:=I.Bf hH;obtain⟨z2,uJ,n2,r2,DJ,e2⟩:=I.Bf hB;refine PySem.P.add_list e e2 ?_ (by rw[a6,a6];omega)
 have ea:aT.toArray++uJ.toArray=(aT++uJ).toArray:=by simp
 rw[ea];exact⟨.ref _,_,I.GK (t':=s.toks) (r.append r2) (by rw[ba];omega),rfl,q _ I.fresh⟩
def Pb:R2:=fun x y H Q=>∃l k xs,x=.ref l/\y=.int k/\H l=some (.lst xs)/\-(2 ^63)<=k/\k<2 ^63/\xs.length*k.toNat<=sizeLine/\
 ∀p,H p=none->Q (.ref p) (upd H p (.lst (List.replicate k.toNat xs).flatten))
theorem len_rep{α:Type}(xs:List α)(k:Nat):(List.replicate k xs).flatten.length=k*xs.length:=by
 induction k with
 |zero=>simp
 |succ k ih=>rw[ij,gK,ba,ih,Nat.succ_mul,Nat.add_comm]
theorem GN:qP X (binaryOp .Mult) Pb:=by
 intro pins s σ H x y v u Q I rx ry h;obtain⟨l,k,xs,rfl,rfl,hH,h1,h2,hz,q⟩:=h;cases rx;obtain⟨t,rfl⟩:=ry;obtain⟨z,aT,n,r,hl,e⟩:=I.Bf hH;have hlen:aT.toArray.size*k.toNat<=sizeLine:=by rw[a6,<-hl];exact hz
 have Pc:¬aT.toArray.size*k.toNat>(2 ^63 - 1)/8:=by
  have:(sizeLine:Nat)<=(2 ^63 - 1)/8:=by decide
  omega
 have Pd:¬(!Builtin.List.listFitsIndex k)=true:=by
  rw[fitsIndex_both h1 h2];exact cj
 have Kv:¬Builtin.List.listTooLong (aT.toArray.size*k.toNat)=true:=by
  rw[Bg hlen];exact cj
 have DK:List.foldl (fun x1 x2=>x1++x2) #[] (List.replicate (if aT.toArray.isEmpty=true then 0 else k.toNat) aT.toArray)=(List.replicate k.toNat aT).flatten.toArray:=by
  have f0:∀m:Nat,List.foldl (fun x1 x2=>x1++x2) #[] (List.replicate m aT.toArray)=(List.replicate m aT).flatten.toArray:=fun m=>by
   have:=foldl_rep aT m [];rw[ly]at this;exact this
  rw[f0];cases aT with
  |nil=>simp
  |cons a r'=>rw[ae (by simp)]
 refine wpAny_binaryOp_repeat_ref (T:="list") (U:="int") (by decide) ⟨_,e,rfl⟩ (fun s'=>typeIs_int s' k t) noFill_list_mul F.fills_int_mul F.slot_int_rmul repeat_list F.slot_int_index.lookup
  (g7 F.slot_int_rmul (typeIs_int s k t) F.entry_int_rmul (F.args_int_rmul_2 _ _) (int___rmul___int_list k t l aT.toArray n)
   ⟨e,rfl,⟨_,e,rfl⟩,g7 F.slot_list_mul ⟨_,e,rfl⟩ F.entry_list_mul (F.args_list_mul_2 _ _) (AutoListH.list___mul___list_int_3 l aT.toArray n k t Pd Pc Kv) ⟨e,?_⟩⟩)
 rw[DK];exact⟨.ref _,_,I.GK (t':=s.toks) (r.rep k.toNat) (by rw[len_rep,Nat.mul_comm];exact hz),rfl,q _ I.fresh⟩
end
end L2
namespace L2
open PySem PySem.Spec PyProof.Rows
section
variable {κ:Type}[DecidableEq κ]
def jY(ar:List (κ×V))(k:κ):Option V:=(ar.find? fun kv=>decide (kv.1=k)).map (·.2)
def putK(ar:List (κ×V))(k:κ)(v:V):List (κ×V):=
 if(ar.any fun kv=>decide (kv.1=k))=true then ar.map (fun kv=>if kv.1=k then(kv.1,v)else kv)else ar++[(k,v)]
theorem jd{p:κ×V}{r:List (κ×V)}{k:κ}(e:p.1=k):jY (p::r) k=some p.2:=by simp[jY,cV,e]
theorem je{p:κ×V}{r:List (κ×V)}{k:κ}(e:¬p.1=k):jY (p::r) k=jY r k:=by simp[jY,cV,e]
theorem uM(k:κ):∀ar:List (κ×V),(ar.any fun kv=>decide (kv.1=k))=(jY ar k).isSome
 |[]=>rfl
 |p::r=>by
  rw[fV];by_cases e:p.1=k
  ·simp only[jd e,bF e,lI,Option.isSome_some]
  ·rw[je e,a_ e,lF];exact uM k r
theorem jf(ar:List (κ×V))(k:κ)(v:V):(putK ar k v).length<=ar.length+1:=by
 unfold putK;split
 ·rw[ai];omega
 ·rw[ba,bb,dt];omega
theorem mD.mG {o:Option V}{u:Option Value}(r:mD o u):o.isSome=u.isSome:=by
 cases o with
 |none=>cases u with
  |none=>rfl
  |some _=>exact(show False from r).elim
 |some _=>cases u with
  |none=>exact(show False from r).elim
  |some _=>rfl
theorem mD.getD {o:Option V}{u:Option Value}{d:V}{d':Value}(r:mD o u)(rd:RelV d d'):RelV (o.getD d) (u.getD d'):=by
 cases o with
 |none=>cases u with
  |none=>exact rd
  |some _=>exact(show False from r).elim
 |some _=>cases u with
  |none=>exact(show False from r).elim
  |some _=>exact r
theorem KV.val {ar:List (κ×V)}{vs:List (κ×Value)}(r:KV ar vs)(k:κ):mD (jY ar k) (valueAt vs k):=by
 unfold KV at r
 induction r with
 |nil=>exact True.intro
 |@cons p q ps qs h t ih=>
  obtain⟨h1,h2⟩:=h;by_cases e:p.1=k
  ·have e':q.1=k:=h1.symm.trans e;have b:valueAt (q::qs) k=some q.2:=by simp[valueAt,cV,e']
   rw[jd e,b];exact h2
  ·have e':¬q.1=k:=fun z=>e (h1.trans z);have b:valueAt (q::qs) k=valueAt qs k:=by simp[valueAt,cV,e']
   rw[je e,b];exact ih
theorem KV.any {ar:List (κ×V)}{vs:List (κ×Value)}(r:KV ar vs)(k:κ):(ar.any fun kv=>decide (kv.1=k))=vs.any fun kv=>decide (kv.1=k):=by
 unfold KV at r
 induction r with
 |nil=>rfl
 |cons h t ih=>rw[fV,fV,ih,h.1]
theorem KV.GO {ar:List (κ×V)}{vs:List (κ×Value)}(r:KV ar vs)(k:κ){y:V}{u:Value}(ry:RelV y u):
  KV (ar.map fun kv=>if kv.1=k then(kv.1,y)else kv) (vs.map fun kv=>if kv.1=k then(kv.1,u)else kv):=by
 unfold KV at r⊢
 induction r with
 |nil=>exact .nil
 |@cons p q ps qs h t ih=>
  rw[aB,aB];refine .cons ?_ ih
  obtain⟨h1,h2⟩:=h;by_cases e:p.1=k
  ·rw[ab e,ab (h1.symm.trans e)];exact⟨h1,ry⟩
  ·rw[ae e,ae (fun z=>e (h1.trans z))];exact⟨h1,h2⟩
theorem KV.put {ar:List (κ×V)}{vs:List (κ×Value)}(r:KV ar vs)(k:κ){y:V}{u:Value}(ry:RelV y u):KV (putK ar k y) (stored vs k u):=by
 unfold putK stored;rw[r.any k];by_cases e:(vs.any fun kv=>decide (kv.1=k))=true
 ·rw[ab e,ab e];exact r.GO k ry
 ·rw[ae e,ae e];exact Paired.snoc r ⟨rfl,ry⟩
theorem KV.keys {ar:List (κ×V)}{vs:List (κ×Value)}(r:KV ar vs):ar.map (·.1)=vs.map (·.1):=by
 unfold KV at r
 induction r with
 |nil=>rfl
 |cons h t ih=>rw[aB,aB,ih,h.1]
theorem KV.length {ar:List (κ×V)}{vs:List (κ×Value)}(r:KV ar vs):ar.length=vs.length:=Paired.length r
end
theorem uN{P:Program}{w:World}{k:Key}{u:Value}(r:RelV (kV k) u):(av P w).is k u=true:=by
 cases k with
 |inl i=>obtain⟨t,e⟩:=(show∃t,u=Value.int i t from r);subst e;exact uy P w i t
 |inr x=>obtain⟨t,e⟩:=(show∃t,u=Value.str x t from r);subst e;exact uz P w x t
theorem rG{P:Program}{w:World}:∀{ks:List Key} {us:List Value},Vals (ks.map kV) us->ItemsAre (av P w) ks us
 |[],_,r=>by rw[List.map_nil]at r;cases r;exact .nil
 |k::ks,_,r=>by
  rw[aB]at r;cases r with
  |cons h t=>exact .cons (uN h) (rG t)
abbrev KT(H:Hp):List (List Key×V)->List (List Key×Addr×Value)->Prop:=Paired fun p q=>p.1=q.1/\H q.2.1=some (.tup (p.1.map kV))/\RelV p.2 q.2.2
theorem KT.val {H:Hp}{ar:List (List Key×V)}{xs:List (List Key×Addr×Value)}(r:KT H ar xs)(k:List Key):mD (jY ar k) ((atKey xs k).map (·.2)):=by
 induction r with
 |nil=>exact True.intro
 |@cons p q ps qs h t ih=>
  obtain⟨h1,_,h2⟩:=h;by_cases e:p.1=k
  ·have e':q.1=k:=h1.symm.trans e;have b:atKey (q::qs) k=some q.2:=by simp[atKey,cV,e']
   rw[jd e,b];exact h2
  ·have e':¬q.1=k:=fun z=>e (h1.trans z);have b:atKey (q::qs) k=atKey qs k:=by simp[atKey,cV,e']
   rw[je e,b];exact ih
theorem KT.GO {H:Hp}{ar:List (List Key×V)}{xs:List (List Key×Addr×Value)}(r:KT H ar xs)(k:List Key){y:V}{u:Value}(ry:RelV y u):
  KT H (ar.map fun kv=>if kv.1=k then(kv.1,y)else kv) (xs.map (putAt k u)):=by
 induction r with
 |nil=>exact .nil
 |@cons p q ps qs h t ih=>
  rw[aB,aB];refine .cons ?_ ih
  obtain⟨h1,h2,h3⟩:=h;unfold putAt;by_cases e:p.1=k
  ·rw[ab e,ab (h1.symm.trans e)];exact⟨h1,h2,ry⟩
  ·rw[ae e,ae (fun z=>e (h1.trans z))];exact⟨h1,h2,h3⟩
theorem KT.put {H:Hp}{ar:List (List Key×V)}{xs:List (List Key×Addr×Value)}(r:KT H ar xs)(k:List Key){b:Addr}{y:V}{u:Value}(hb:H b=some (.tup (k.map kV)))(ry:RelV y u):
  KT H (putK ar k y) (storedH xs k b u):=by
 have e:(ar.any fun kv=>decide (kv.1=k))=(atKey xs k).isSome:=by
  rw[uM,(r.val k).mG,Option.isSome_map]
 unfold putK storedH;rw[e];by_cases q:(atKey xs k).isSome=true
 ·rw[ab q,ab q];exact r.GO k ry
 ·rw[ae q,ae q];exact Paired.snoc r ⟨rfl,hb,ry⟩
theorem KT.keeps {H H':Hp}{ar:List (List Key×V)}{xs:List (List Key×Addr×Value)}(r:KT H ar xs)(ht:∀b ys,H b=some (.tup ys)->H' b=some (.tup ys)):KT H' ar xs:=
 Paired.Ge r fun _ _ z=>⟨z.1,ht _ _ z.2.1,z.2.2⟩
section
variable {P:Program}{w:World}{H:Hp}{h:Heap}{a:Addr}
theorem Bj{u:HO}(ok:j2 P w H h)(e:Rd H a u):bg P w H h a u:=e.ok ok
theorem pF{ar:List (Key×V)}(ok:j2 P w H h)(e:Rd H a (.dK ar)):ar.length<=sizeLine/\(a==sysModules)=false/\∃vs,KV ar vs/\h.DictOf (av P w) a vs:=
 show bg P w H h a (.dK ar)from Bj ok e
theorem Kw{ar:List (Key×V)}(ok:j2 P w H h)(e:H a=some (.dK ar)):ar.length<=sizeLine/\(a==sysModules)=false/\∃vs,KV ar vs/\h.DictOf (av P w) a vs:=pF ok (.inl e)
theorem jg{ks:List Key}(ok:j2 P w H h)(e:H a=some (.tup (ks.map kV))):(tupleKind (av P w)).is h ks a:=by
 obtain⟨_,aT,r,o,h1,h2,n,h3,_⟩:=(show bg P w H h a (.tup (ks.map kV))from ok a _ e);exact⟨o,aT.toArray,n,h1,h2,h3,by simpa using rG r⟩
theorem pG{ar:List (List Key×V)}(ok:j2 P w H h)(e:Rd H a (.dT ar)):ar.length<=sizeLine/\(a==sysModules)=false/\
  ∃xs,KT H ar xs/\h.DictOfH (tupleKind (av P w)) a xs:=by
 obtain⟨z,y,xs,r,o,es,ep,h1,h2,h3,h4,h5⟩:=(show bg P w H h a (.dT ar)from Bj ok e);refine⟨z,y,xs,r,o,es,ep,h1,h2,h3,h4,fun x hx=>?_,h5⟩;have all:∀{l:List (List Key×V)} {m:List (List Key×Addr×Value)},KT H l m->∀x∈m,(tupleKind (av P w)).is h x.1 x.2.1:=by
  intro l m q
  induction q with
  |nil=>intro x hx;exact nomatch hx
  |@cons p q ps qs hq t ih=>
   intro x hx;rcases aO.mp hx with e|hx
   ·subst e;exact jg ok (by rw[<-hq.1];exact hq.2.1)
   ·exact ih x hx
 exact all r x hx
theorem Kx{ar:List (List Key×V)}(ok:j2 P w H h)(e:H a=some (.dT ar)):ar.length<=sizeLine/\(a==sysModules)=false/\
  ∃xs,KT H ar xs/\h.DictOfH (tupleKind (av P w)) a xs:=pG ok (.inl e)
end
def mH(H:Hp)(a:Addr)(y:V)(r:Option V):Prop:=
 (∃ar k,Rd H a (.dK ar)/\y=kV k/\r=jY ar k)\/∃ar k b,Rd H a (.dT ar)/\y=.ref b/\H b=some (.tup (k.map kV))/\r=jY ar k
def sP(H:Hp)(a:Addr)(y v:V)(H':Hp):Prop:=
 (∃ar k,H a=some (.dK ar)/\y=kV k/\ar.length<sizeLine/\H'=upd H a (.dK (putK ar k v)))\/
 ∃ar k b,H a=some (.dT ar)/\y=.ref b/\H b=some (.tup (k.map kV))/\ar.length<sizeLine/\H'=upd H a (.dT (putK ar k v))
theorem mH.k {H:Hp}{a:Addr}{ar:List (Key×V)}{k:Key}(e:H a=some (.dK ar)):mH H a (kV k) (jY ar k):=.inl ⟨ar,k,.inl e,rfl,rfl⟩
theorem mH.t {H:Hp}{a b:Addr}{ar:List (List Key×V)}{k:List Key}(e:H a=some (.dT ar))(eb:H b=some (.tup (k.map kV))):mH H a (.ref b) (jY ar k):=.inr ⟨ar,k,b,.inl e,rfl,eb,rfl⟩
theorem sP.k {H:Hp}{a:Addr}{ar:List (Key×V)}{k:Key}{v:V}(e:H a=some (.dK ar))(hl:ar.length<sizeLine):sP H a (kV k) v (upd H a (.dK (putK ar k v))):=.inl ⟨ar,k,e,rfl,hl,rfl⟩
theorem sP.t {H:Hp}{a b:Addr}{ar:List (List Key×V)}{k:List Key}{v:V}(e:H a=some (.dT ar))(eb:H b=some (.tup (k.map kV)))(hl:ar.length<sizeLine):
  sP H a (.ref b) v (upd H a (.dT (putK ar k v))):=.inr ⟨ar,k,b,e,rfl,eb,hl,rfl⟩
section
variable {X:Cx}{pins:List (Addr×Obj)}{σ:St}{H:Hp}{s:Shared}{a:Addr}{y v:V}{u r:Value}{o:Option V}{A:Around}{E:Value->Shared->Prop}
theorem Inv.big (I:Inv X pins σ H s):sysModules<s.heap.objs.size:=by
 have h:mainGlobals<s.heap.objs.size:=(I.mod.glob.keeps I.bk).lt;exact Nat.lt_trans (by decide) h
theorem mI{Q:Value->Shared->Prop}(hu:A.units+1<cLine)(I:Inv X pins σ H s)(g:mH H a y (some v))(ry:RelV y u)(h:∀w' s',Inv X pins σ H s'->RelV v w'->Q w' s'):
  wpAny (model X.prog X.w) A (getItem (.ref a) u) Q E s:=by
 rcases g with⟨ar,k,e,ey,l⟩|⟨ar,k,b,e,ey,eb,l⟩
 ·subst ey;obtain⟨z,hd,vs,rel,dd⟩:=pF I.bC e;obtain⟨w',hw,jc⟩:=mD.some_of (v:=v) (o:=valueAt vs k) (by rw[l];exact rel.val k);exact wpAny_getItem_of (uN ry) dd.mapOf hw (h w' _ (I.tok _) jc)
 ·subst ey;cases(show u=Value.ref b from ry);obtain⟨z,hd,xs,rel,dd⟩:=pG I.bC e;obtain⟨w',hw,jc⟩:=mD.some_of (v:=v) (o:=(atKey xs k).map (·.2)) (by rw[l];exact rel.val k);obtain⟨p,hp,GP⟩:=Option.map_eq_some_iff.mp hw;refine wpAny_getItem_heap (ik hu) (jg I.bC eb) dd hp ?_
  rw[GP];exact h w' _ (I.tok _) jc
theorem Pe{Q:Value->Shared->Prop}(hu:A.units+1<cLine)(I:Inv X pins σ H s)(g:mH H a y o)(ry:RelV y u)(h:∀s',Inv X pins σ H s'->Q (.bool o.isSome) s'):
  wpAny (model X.prog X.w) A (compareOp .In u (.ref a)) Q E s:=by
 rcases g with⟨ar,k,e,ey,l⟩|⟨ar,k,b,e,ey,eb,l⟩
 ·subst ey;obtain⟨z,hd,vs,rel,dd⟩:=pF I.bC e;refine wpAny_in_of (uN ry) hd dd.mapOf ?_
  rw[<-(rel.val k).mG,<-l];exact h _ (I.tok _)
 ·subst ey;cases(show u=Value.ref b from ry);obtain⟨z,hd,xs,rel,dd⟩:=pG I.bC e;refine wpAny_in_heap (ik hu) (jg I.bC eb) hd dd ?_
  have q:=(rel.val k).mG;rw[Option.isSome_map]at q;rw[<-q,<-l];exact h _ (I.tok _)
theorem xO{h':Heap}{t':Nat}{ob:HO}(I:Inv X pins σ H s)(mu:J5 (H a))(hs:Heap.SameBut a s.heap h')(he:∃q,h'.get? a=some q)(new:bg X.prog X.w (upd H a ob) h' a ob):
  Inv X pins σ (upd H a ob) {s with heap:=h',toks:=t'}:=
 I.write (x:=a) (e:=a) mu (.inl rfl) (fun b q hb z=>(hs.2 b hb).trans z) he new
theorem GQ{P:Program}{w:World}{H':Hp}{h':Heap}{ar:List (Key×V)}{vs:List (Key×Value)}(z:ar.length<=sizeLine)(hd:(a==sysModules)=false)(rel:KV ar vs)(dd:h'.DictOf (av P w) a vs):
  bg P w H' h' a (.dK ar):=⟨z,hd,vs,rel,dd⟩
theorem rH{H':Hp}{Q:Unit->Shared->Prop}(hu:A.units+1<cLine)(I:Inv X pins σ H s)(g:sP H a y v H')(ry:RelV y u)(rv:RelV v r)(h:∀s',Inv X pins σ H' s'->Q () s'):
  wpAny (model X.prog X.w) A (setItem (.ref a) u r) Q E s:=by
 rcases g with⟨ar,k,e,ey,l,eH⟩|⟨ar,k,b,e,ey,eb,l,eH⟩
 ·subst ey eH;obtain⟨z,hd,vs,rel,dd⟩:=Kw I.bC e;have hz:vs.length<=sizeLine:=by rw[<-rel.length];exact z
  have hl:(putK ar k v).length<=sizeLine:=by have:=jf ar k v;omega
  refine wpAny_setItem_pairs (hsz:=hz) (uN ry) dd fun h' Fh hs=>h _ ?_
  have he:∃q,h'.get? a=some q:=let⟨q,_,_,hq,_⟩:=Fh;⟨q,hq⟩
  exact xO I (by rw[e];exact True.intro) hs he (GQ hl hd (rel.put k rv) Fh)
 ·subst ey eH;cases(show u=Value.ref b from ry);obtain⟨z,hd,xs,rel,dd⟩:=Kx I.bC e;have hz:xs.length<=sizeLine:=by rw[<-Paired.length rel];exact z
  have hl:(putK ar k v).length<=sizeLine:=by have:=jf ar k v;omega
  refine wpAny_setItem_heap (hsz:=hz) (ik hu) (jg I.bC eb) dd fun h' Fh hs=>h _ ?_
  obtain⟨q,es,ep,hq,h2,h3,h4,_,h5⟩:=Fh;refine xO I (by rw[e];exact True.intro) hs ⟨q,hq⟩ ⟨hl,hd,_,(rel.put k eb rv).keeps fun c ys ec=>?_,q,es,ep,hq,h2,h3,h4,h5⟩;rw[ah (J2 ec e (fun z=>nomatch z))];exact ec
end
section
variable {X:Cx}{pins:List (Addr×Obj)}{σ:St}{H:Hp}{s:Shared}{a:Addr}{ar:List (Key×V)}{k:Key}{u:Value}{A:Around}{E:Value->Shared->Prop}
theorem Ky{Q:Value->Shared->Prop}(I:Inv X pins σ H s)(e:Rd H a (.dK ar))(h:∀t s',Inv X pins σ H s'->Q (.int ar.length t) s'):wpAny (model X.prog X.w) A (call (.builtin "len") [.ref a]) Q E s:=by
 obtain⟨z,hd,vs,rel,dd⟩:=pF I.bC e;refine call_len_dict hd dd (by rw[<-rel.length];rw[bG]at z;omega) ?_
 rw[<-rel.length];exact h _ _ (I.tok _)
end
theorem nh{X:Cx}{pins:List (Addr×Obj)}{σ:St}{H:Hp}{s:Shared}{a:Addr}{y:V}{o:Option V}(I:Inv X pins σ H s)(g:mH H a y o):s.TypeIs (.ref a) "dict":=by
 rcases g with⟨ar,k,e,_,_⟩|⟨ar,k,b,e,_,_,_⟩
 ·obtain⟨_,_,vs,_,dd⟩:=pF I.bC e;exact dd.typeIs
 ·obtain⟨_,_,xs,_,dd⟩:=pG I.bC e;exact dd.typeIs
def Kz(td ty tv:TE):TS:=fun D σ H=>tv σ H fun v H1=>td σ H1 fun x H2=>ty σ H2 fun y H3=>∃a H4,x=.ref a/\sP H3 a y v H4/\D.nx σ H4
def KA(td ty tv:TE)(rd:V->V->Hp->VK->Prop):TS:=fun D σ H=>td σ H fun x H1=>ty σ H1 fun y H2=>∃a v,x=.ref a/\mH H2 a y (some v)/\
 tv σ H2 fun y2 H3=>rd v y2 H3 fun z H4=>∃H5,sP H4 a y z H5/\D.nx σ H5
section
variable {X:Cx}{o i e value:Expr}{pos pos' uG:Pos}{td ty tv:TE}
theorem DL(hu:X.A.units+1<cLine)(ho:PE X o td)(hi:PE X i ty)(hv:PE X value tv)(hs:swapsWith value (some (.Subscript o i pos')) pos.line X.env=pure false):
  PS X (.Assign [.Subscript o i pos'] value pos) (Kz td ty tv):=by
 intro pins s σ H D I h;refine wpAny_Assign_Subscript (dq (hv pins s σ H _ I h) fun r s1 ⟨v,H1,I1,rv,q1⟩=>dq (ho pins s1 σ H1 _ I1 q1) fun u s2 ⟨x,H2,I2,rx,q2⟩=>dq (hi pins s2 σ H2 _ I2 q2) fun iv s3 ⟨y,H3,I3,ry,a,H4,ex,g,q3⟩=>?_) hs;subst ex;obtain rfl:u=Value.ref a:=rx;exact rH hu I3 g ry rv fun s4 I4=>⟨σ,H4,I4,q3⟩
theorem DM{op:Operator}{rd:V->V->Hp->VK->Prop}(hu:X.A.units+1<cLine)(ho:PE X o td)(hi:PE X i ty)(hv:PE X value tv)(SV:Gz X op rd)
  (ha:∀ov iv new,augStore i ov iv new=(do holding [new,ov,iv] (setItem ov iv new);release [new,ov,iv] [];pure .next)):PS X (.AugAssign (.Subscript o i uG) op value pos) (KA td ty tv rd):=by
 intro pins s σ H D I h;refine wpAny_AugAssign_SubscriptAny (dq (ho pins s σ H _ I h) fun u s1 ⟨x,H1,I1,rx,q1⟩=>dq (hi pins s1 σ H1 _ I1 q1) fun iv s2 ⟨y,H2,I2,ry,a,v,ex,g,q2⟩=>?_) ha;subst ex;obtain rfl:u=Value.ref a:=rx;refine mI hu I2 g ry fun w' s3 I3 jc=>dq (hv pins s3 σ H2 _ I3 q2) fun w2 s4 ⟨y2,H3,I4,SW,q3⟩=>dq (SV pins s4 σ H3 v y2 w' w2 _ I4 jc SW q3) fun w3 s5 ⟨z,H4,I5,rz,H5,g5,q4⟩=>?_
 exact rH hu I5 g5 ry rz fun s6 I6=>⟨σ,H5,I6,q4⟩
end
theorem Bk{P:Program}{w:World}{H:Hp}(h:Heap)(hb:sysModules<h.objs.size):bg P w H (h.push {cls:=.type "dict",data:=.dict #[]}) h.objs.size (.dT []):=
 ⟨bx _,beq_eq_false_iff_ne.mpr (bS (aP hb)),[],.nil,_,#[],0,aQ _ rfl,⟨rfl,rfl,rfl⟩,rfl,rfl,fU⟩
def GR:TE:=fun _ H Q=>∀p,H p=none->Q (.ref p) (upd H p (.dT []))
section
variable {X:Cx}{pos:Pos}
theorem Bl:PE X (.Dict [] [] pos) GR:=fun pins s σ H Q I h=>
 wpAny_Dict_empty ⟨.ref s.heap.objs.size,_,I.laid (a:=s.heap.objs.size) (o:=.dT []) (t':=s.toks) (fun _ _ q=>ay _ q) (ak _) (Bk s.heap I.big),rfl,h _ (I.bC.fresh (ak _))⟩
end
structure M1(X:Cx)(o:Expr)(m:Str)(apos:Pos)(e:Expr)(dE:Pos):Prop where
 base:attributeBase o m X.env (eval o X.env)=eval o X.env
 JC:((backTo dE (starEach [e] X.env)).all (fun x=>!x.1)&&(backToKw dE (keywordEach [] X.env)).all (fun x=>x.1.isSome)
  &&decide (([e]:List Expr).length+([]:List Keyword).length+(if([]:List Keyword).isEmpty then 0 else 1)<30))=true
 line:(apos.endLine==dE.line)=true
 trees:backTo dE (starEach [e] X.env)=[(false,eval e X.env)]
def Ry(H:Hp)(a:Addr):Prop:=(∃ar,Rd H a (.dK ar))\/∃ar,Rd H a (.dT ar)
theorem GS{X:Cx}{pins:List (Addr×Obj)}{σ:St}{H:Hp}{s:Shared}{a:Addr}(I:Inv X pins σ H s)(d:Ry H a):
  s.TypeIs (.ref a) "dict"/\(∀b,Value.ref a=.ref b->∃ob,s.heap.get? b=some ob/\ob.dict=none)/\(a==sysModules)=false:=by
 rcases d with⟨ar,e⟩|⟨ar,e⟩
 ·obtain⟨_,hd,vs,_,dd⟩:=pF I.bC e;refine⟨dd.typeIs,fun b q=>?_,hd⟩;cases q;obtain⟨ob,_,_,h1,h2,_⟩:=dd;exact⟨ob,h1,h2.2.1⟩
 ·obtain⟨_,hd,xs,_,dd⟩:=pG I.bC e;refine⟨dd.typeIs,fun b q=>?_,hd⟩;cases q;obtain⟨ob,_,_,h1,h2,_⟩:=dd;exact⟨ob,h1,h2.2.1⟩
section
variable {X:Cx}{pins:List (Addr×Obj)}{σ:St}{H:Hp}{s:Shared}{a:Addr}{y d:V}{u r:Value}{o:Option V}{A:Around}{E:Value->Shared->Prop}
theorem GU{Q:Value->Shared->Prop}(hu:A.units+1<cLine)(I:Inv X pins σ H s)(g:mH H a y o)(ry:RelV y u)(h:∀w' s',Inv X pins σ H s'->RelV (o.getD .bU) w'->Q w' s'):
  wpAny (model X.prog X.w) A (call (.builtin "dict.get") [.ref a,u]) Q E s:=by
 rcases g with⟨ar,k,e,ey,l⟩|⟨ar,k,b,e,ey,eb,l⟩
 ·subst ey;obtain⟨z,hd,vs,rel,dd⟩:=pF I.bC e;refine call_meetsIn oE dd.typeIs PySem.F.entry_dict_get (PySem.F.args_dict_get_2 _ _) (meets_dict_get (av X.prog X.w) a (uN ry) hd) ⟨_,dd.mapOf,h _ _ (I.tok _) ?_⟩;rw[l];exact(rel.val k).getD rfl
 ·subst ey;cases(show u=Value.ref b from ry);obtain⟨z,hd,xs,rel,dd⟩:=pG I.bC e;refine call_meetsIn oE dd.typeIs PySem.F.entry_dict_get (PySem.F.args_dict_get_2 _ _) (meetsH_dict_get (tupleKind (av X.prog X.w)) a b hd) ⟨ik hu,k,xs,jg I.bC eb,dd,h _ _ (I.tok _) ?_⟩;rw[l];exact(rel.val k).getD rfl
end
def GV(td ty:TE):TE:=fun σ H Q=>td σ H fun x H1=>∃a,x=.ref a/\Ry H1 a/\ty σ H1 fun y H2=>∃o,mH H2 a y o/\Q (o.getD .bU) H2
section
variable {X:Cx}{o e f:Expr}{apos dE:Pos}{td ty tx:TE}
theorem Bn(hu:X.A.units+1<cLine)(ho:PE X o td)(he:PE X e ty)(m:M1 X o "get" apos e dE):PE X (.Call (.Attribute o "get" apos) [e] [] dE) (GV td ty):=by
 intro pins s σ H Q I h;refine wpAny_Call_method m.base m.JC m.line PySem.F.plainAttrs_dict oE PySem.F.type_dict_get (dq (ho pins s σ H _ I h) fun u s1 ⟨x,H1,I1,rx,a,ex,d,q1⟩=>?_);subst ex;obtain rfl:u=Value.ref a:=rx;obtain⟨t1,t2,_⟩:=GS I1 d;refine⟨t1,t2,?_⟩;rw[m.trees];refine Calls.callWith_builtin rfl (Calls.evalArgs_plain (iU (dq (he pins s1 σ H1 _ I1 q1) fun iv s2 ⟨y,H2,I2,ry,ov,g,q2⟩=>lu ?_)));exact GU hu I2 g ry fun w' s3 I3 jc=>⟨_,H2,I3,jc,q2⟩
end
end L2
namespace RA
open PySem PySem.W PySem.Calls PyProof.Rows
theorem nF{P:Params}{h:Heap}:∀(ns:List Int) (vs:List Value),WellAll P h vs (ns.map WData.int)->IntsAre vs ns:=by
 intro ns
 induction ns with
 |nil=>
  intro vs w;rw[List.map_nil]at w;cases w;exact .nil
 |cons n ns ih=>
  intro vs w;rw[aB]at w;cases w with
  |cons a b=>
   cases a;exact .cons _ _ (ih _ b)
theorem zr{l:OpenLaw}{n:Nat}(hn:l.most=some n){P:Params}{h:Heap}{args:List WData}{vals:List Value}
  (DN:l.row.toRowW.claim.pre args=true) (Pf:WellAll P h vals args):
  ∃a vs ns,vals=[Value.ref a]/\args=[WData.list (ns.map WData.int)]/\h.get? a=some {cls:=.type "list",data:=.seq vs.toArray}/\IntsAre vs ns/\ns.length<=n:=by
 have SX:WShape.hasAll [] args [.list .int]=true:=(pre_splitW DN).1;have hc:l.pre.holds [] {args:=args}=true:=(pre_splitW DN).2;obtain⟨d,r,rfl,h1,h2⟩:=hasAllW_cons SX;obtain rfl:=hasAllW_nil h2;obtain⟨xs,rfl,h3⟩:=hasW_list h1;obtain⟨ns,rfl⟩:=items_int h3;have hlen:ns.length<=n:=by
  unfold OpenLaw.pre at hc;have h4:(WTm.not (.lt (.lit (.int (n:Int))) (.len (.arg 0)))).holds [] {args:=[.list (ns.map .int)]}=true:=by
   have h4:=(holds_andW hc).1;rw[hn]at h4;exact h4
  have h5:=condW_of h4 (w_not (w_lt w_lit (w_len_list (w_arg rfl))));rw[ai]at h5;refine oY fun q=>?_
  have q':(n:Int)<((ns.length:Nat):Int):=by omega
  first
   |(rw[bF q']at h5;exact absurd h5 (by decide))
   |(simp at h5;omega)
 cases Pf with
 |cons w1 w2=>
  cases w2;cases w1 with
  |list ho qZ=>exact⟨_,_,ns,rfl,rfl,ho,nF ns _ qZ,hlen⟩
theorem zt(l:OpenLaw)(args:List WData):l.row.toRowW.claim.post args (.bool true) args=true:=
 postW_of (r:=l.row.toRowW) (X:=(true==true))
  (show WShape.has [] (.bool true) .bool=true by first|rfl|decide|simp[WShape.has,WShape.arms,WShape.armsAll])
  (show(WTm.eq .res (.lit (.bool true))).value [] {args:=args,res:=some (.bool true),after:=args}=some (.bool (true==true))from w_eq_bool (w_res rfl) w_lit) rfl
theorem uO{l:OpenLaw}{n:Nat}{q:Program}{loose:List Str}{XP:(Str->Option Value)->Heap->Prop}{YP:World->Heap->Prop}{d:DefRec}
  (hn:l.most=some n) (KC:d.params.defaults=[])
  (call:∀(w:World) (dS bJ:Shared) (mg mb:Str->Option Value) (fa:Addr) (o:Obj) (pm cd doc:Value) (a:Addr) (vs:List Value) (ns:List Int),
   Ground q loose [] XP w dS mg mb bJ.heap->YP w bJ.heap->
   bJ.heap.get? fa=some o->o.data=.func (docDef d.name d.params d.body d.scope pm cd doc)->bJ.heap.CodeRec cd d.name->mg d.name=some (.ref fa)->
   bJ.heap.get? a=some {cls:=.type "list",data:=.seq vs.toArray}->IntsAre vs ns->ns.length<=n->bJ.gens=#[]->
   codeAny (model l.prog w) callerA (.call (.ref fa) ⟨[.ref a],[]⟩) (fun r s'=>r=.ok (.ret (.bool true))/\OldK bJ.heap s'.heap/\s'.os=bJ.os/\AllBare s'.gens) bJ):
  WalkO q loose XP YP l.row.toRowW d [] (fun f vs=>PySem.call f vs):=by
 intro w dS bJ mg mb G Y fa o pm cd doc dV kV ho hd nC hD KD hg args vals as DN SY VI Pf VJ;obtain rfl:dV=.none:=Dflts.none hD KC;obtain rfl:kV=.none:=Dflts.noKw hD;obtain⟨a,vs,ns,rfl,rfl,GW,hints,hlen⟩:=zr hn DN Pf;refine enter_call (e_ (call w dS bJ mg mb fa o pm cd doc a vs ns G Y ho (fd_plain hd) nC KD GW hints hlen hg) fun r s' hq=>?_);obtain⟨rfl,h2,h3,h4⟩:=hq;exact⟨.inl ⟨.bool true,.bool true,[],rfl,fun _=>rfl,.bool true,zt l _,fun _=>⟨List.Pairwise.nil,fun _ hm=>(nomatch hm)⟩⟩,h2,h3,h4⟩
end RA
namespace L2
open PySem PySem.Spec PyProof.Rows
theorem rJ:∀{vs:List Value} {ns:List Int},IntsAre vs ns->Vals (ns.map V.int) vs
 |_,_,.nil=>.nil
 |_,_,.cons n t h=>.cons ⟨t,rfl⟩ (rJ h)
theorem Bo{P:Program}{w:World}{K:PySem.W.Frag}{mg mb:Str->Option Value}{CX:wC}{k:Nat}{fa a:Addr}{fd:FuncData}{x:Str}{sp:Sp}{bJ:Shared}{vs:List Value}{ns:List Int}{tc tP:Addr}{tq:Str}
  (KX:K.In bJ.heap) (zu:bJ.heap.Ns mainGlobals mg) (hb:bJ.heap.Ns builtinsNs mb) (Pg:∀x:Str,x≠"__name__"->mb x=bootBuiltins x) (GX:bJ.heap.NoLimit) (hg:bJ.gens=#[])
  (KG:∃bm ob,mg "__builtins__"=some (.ref bm)/\bm≠builtinsNs/\bm≠mainGlobals/\bJ.heap.get? bm=some ob/\ob.cls=.type "module"/\ob.dict=some builtinsNs/\ob.data=.plain) (hC:PySem.W.CodeHd bJ.heap tc tP) (hP:bJ.heap.get? tP=some (PySem.W.tabObj #[])) (GY:K.lookup tP=none)
  (ha:bJ.heap.get? a=some {cls:=.type "list",data:=.seq vs.toArray}) (hi:IntsAre vs ns) (hl:ns.length<=sizeLine) (hr:cM k callerA)
  (F:∀base:Heap,K.In base->base.Ns mainGlobals mg->fg P w K mg base CX k fa fd [x] sp) (uP:∀(s:Shared) (u:Value),BindsTo s fd ⟨[u],[]⟩ [(x,u)])
  (Fc:∀H:Hp,H tP=some (.uh #[.str tq 0])->g8 K H a (ns.map V.int)->sp [.ref a] H (fun v _=>v=.bl true) fun _ _ _=>False)
  (Ph:∀H e s',CX [] H bJ (fun _ _ _=>False) e s'->False):
  codeAny (model P w) callerA (.call (.ref fa) ⟨[.ref a],[]⟩) (fun r s'=>r=.ok (.ret (.bool true))/\OldK bJ.heap s'.heap/\s'.os=bJ.os/\AllBare s'.gens) bJ:=by
 have rv:=rJ hi;have Pj:=hi.length;have Pk:a≠tP:=fun z=>by rw[z,hP]at ha;cases ha
 have KH:∀H:Hp,bg P w H bJ.heap tP (.uh #[.str tq 0]):=fun H=>⟨#[],hP,trivial,fun pos v e=>by cases e⟩;have core:∀H:Hp,H tP=some (.uh #[.str tq 0])->g8 K H a (ns.map V.int)->j2 P w H bJ.heap->(∀b,H b≠none->b=a\/b=tP)->(H a≠none->K.lookup a=none)->(∀u,H a=some u->∃o xs,u=.ff o (.lst xs))->
   codeAny (model P w) callerA (.call (.ref fa) ⟨[.ref a],[]⟩) (fun r s'=>r=.ok (.ret (.bool true))/\OldK bJ.heap s'.heap/\s'.os=bJ.os/\AllBare s'.gens) bJ:=by
  intro H hT hS bC hA hK hF;have sQ:∀{b:Addr} {o:Obj},bJ.heap.get? b=some o->H b=none->(sI bJ.heap H).get? b=some o:=fun e n=>AM e n;have Jy:∀{b:Addr} {o:Obj},bJ.heap.get? b=some o->(∀xs n,o.data≠ .seq xs n)->(∀xs,o.data≠ .fields xs)->H b=none:=fun{b o} e d1 d2=>by
   cases q:H b with
   |none=>rfl
   |some u=>
    rcases hA b (by rw[q];simp)with e'|e'
    ·subst e';rw[ha]at e;cases e;exact absurd rfl (d1 _ _)
    ·subst e';rw[hP]at e;cases e;exact absurd rfl (d2 _)
  have NL:∀{b:Addr} {m:Str->Option Value},bJ.heap.Ns b m->(sI bJ.heap H).Ns b m:=fun{b m} ⟨o,es,ep,e,d,r⟩=>⟨o,es,ep,sQ e (Jy e (fun _ _ z=>by rw[d]at z;cases z) fun _ z=>by rw[d]at z;cases z),d,r⟩;have RB:K.In (sI bJ.heap H):=fun b o e=>sQ (KX b o e) (by
   cases q:H b with
   |none=>rfl
   |some u=>
    rcases hA b (by rw[q];simp)with e'|e'
    ·subst e';rw[hK (by rw[q];simp)]at e;cases e
    ·subst e';rw[GY]at e;cases e)
  have hM:Mod K mg (sI bJ.heap H):=⟨RB,NL zu,⟨mb,NL hb,Pg⟩,(let⟨mc,h1,h2⟩:=GX;⟨mc,NL h1,h2⟩),(let⟨bm,ob,b1,b2,b3,b4,b5,b6,b7⟩:=KG;⟨bm,ob,b1,b2,b3,sQ b4 (Jy b4 (fun _ _ z=>by rw[b7]at z;cases z) fun _ z=>by rw[b7]at z;cases z),b5,b6,b7⟩)⟩;have e0:DE P w K mg (sI bJ.heap H) callerA [] bJ H:=⟨rfl,hM,fun b o e=>Ds e,Nat.le_of_eq (zi _ _),trivial,fun b hb=>absurd (show b∈([]:List Addr)from hb) (by simp),bC,.of_eq hg⟩;refine e_ ((F _ RB (NL zu)).run callerA [] bJ H ⟨[.ref a],[]⟩ [.ref a] [.ref a] _ _ hr e0 (uP bJ (.ref a)) (.cons rfl .nil) (Fc H hT hS)) fun r s' h=>?_
  cases r with
  |error e=>exact(Ph H e s' h).elim
  |ok fl=>
   cases fl with
   |next=>exact False.elim h
   |brk=>exact False.elim h
   |cont=>exact False.elim h
   |ret u=>
    obtain⟨v,H',os,bare,un,KI,r',q⟩:=h;have q':v=.bl true:=q;subst q';obtain rfl:u=Value.bool true:=r';have keep:∀b o,b≠tP->bJ.heap.get? b=some o->s'.heap.get? b=some o:=fun b o nb e=>by
     cases q:H b with
     |none=>exact un.keep b o e q (by intro z;exact absurd (show b∈([]:List Addr)from z) (by simp)) (by simp)
     |some u=>
      rcases hA b (by rw[q];simp)with e'|e'
      ·subst e';obtain⟨ob,xs,z⟩:=hF u q;subst z;have z2:=un.iK b ob _ q;obtain⟨e1,_⟩:=bC b _ q;obtain⟨e2,_⟩:=KI b _ z2;rw[e]at e1;cases e1;exact e2
      ·exact absurd e' nb
    obtain⟨more,S0⟩:=un.i_ tP _ hT;obtain⟨qs,hq,_⟩:=KI tP _ S0;refine⟨rfl,⟨fun b o e=>?_,fun b o e=>?_⟩,os,bare⟩
    ·by_cases nb:b=tP
     ·subst nb;rw[hP]at e;cases e;exact .inr (.inl ⟨(hC.tab hP).isCodeTable,rfl,#[],qs,rfl,by rw[Array.empty_append];exact hq⟩)
     ·exact .inl (keep b o nb e)
    ·by_cases nb:b=tP
     ·subst nb;exact⟨_,hq⟩
     ·exact⟨o,keep b o nb e⟩
 cases hk:K.lookup a with
 |some o=>
  have e:=KX a o hk;rw[ha]at e;cases e;refine core (fun b=>if b=tP then some (.uh #[.str tq 0])else none) (ab rfl) (.inr ⟨_,vs.toArray,_,hk,rfl,rfl,rfl,by rw[a6,Pj];exact hl,by simpa using rv⟩) (fun b u z=>?_) (fun b z=>?_) (fun z=>absurd (ae Pk) z) fun u z=>by rw[ae Pk]at z;cases z
  ·by_cases hb:b=tP
   ·have z':=(ab hb).symm.trans z;cases z';rw[hb];exact KH _
   ·have z':=(ae hb).symm.trans z;cases z'
  ·by_cases hb:b=tP
   ·exact .inr hb
   ·exact absurd (ae hb) z
 |none=>
  refine core (fun b=>if b=a then some (.ff {cls:=.type "list",data:=.seq vs.toArray} (.lst (ns.map V.int)))else if b=tP then some (.uh #[.str tq 0])else none) ((ae (bS Pk)).trans (ab rfl)) (.inl (.inr ⟨{cls:=.type "list",data:=.seq vs.toArray},ab rfl⟩)) (fun b u z=>?_) (fun b z=>?_) (fun _=>hk) fun u z=>?_
  ·by_cases hb:b=a
   ·have z':=(ab hb).symm.trans z;cases z';subst hb;exact⟨ha,by rw[ai];exact hl,vs,_,rv,ha⟩
   ·have z':=(ae hb).symm.trans z;by_cases DO:b=tP
    ·have z2:=(ab DO).symm.trans z';cases z2;rw[DO];exact KH _
    ·have z2:=(ae DO).symm.trans z';cases z2
  ·by_cases hb:b=a
   ·exact .inl hb
   ·by_cases DO:b=tP
    ·exact .inr DO
    ·exact absurd ((ae hb).trans (ae DO)) z
  ·have z':=(ab rfl).symm.trans z;cases z';exact⟨_,_,rfl⟩
end L2
namespace L2
open PySem PySem.Spec PyProof.Rows
theorem DP{l:PySem.W.OpenLaw}{n k:Nat}{q:Program}{loose:List Str}{XP:(Str->Option Value)->Heap->Prop}{YP:World->Heap->Prop}{d:DefRec}{K:Params->PySem.W.Frag}{CX:World->wC}{sp:World->Sp}{x:Str}{tc tP:Addr}{tq:Str}
  (hn:l.most=some n) (NM:n<=sizeLine) (KC:d.params.defaults=[]) (hr:cM k callerA)
  (hY:∀(w:World) (h:Heap),YP w h->(K w.params).In h) (hC:∀(w:World) (h:Heap),YP w h->PySem.W.CodeHd h tc tP) (hP:∀(w:World) (h:Heap),YP w h->h.get? tP=some (PySem.W.tabObj #[])) (GY:∀w:World,(K w.params).lookup tP=none)
  (F:∀(w:World) (mg:Str->Option Value) (fa:Addr) (h:Heap),(K w.params).In h->h.Ns mainGlobals mg->mg d.name=some (.ref fa)->
   ∃fd:FuncData,(∀(s:Shared) (u:Value),BindsTo s fd ⟨[u],[]⟩ [(x,u)])/\
    ∀base:Heap,(K w.params).In base->base.Ns mainGlobals mg->fg l.prog w (K w.params) mg base (CX w) k fa fd [x] (sp w))
  (Fc:∀(w:World) (H:Hp) (a:Addr) (ns:List Int),ns.length<=n->H tP=some (.uh #[.str tq 0])->g8 (K w.params) H a (ns.map V.int)->sp w [.ref a] H (fun v _=>v=.bl true) fun _ _ _=>False)
  (Ph:∀(w:World) (H:Hp) (s:Shared) (e:Value) (s':Shared),CX w [] H s (fun _ _ _=>False) e s'->False):
  PySem.W.WalkO q loose XP YP l.row.toRowW d [] (fun f vs=>PySem.call f vs):=by
 refine RA.uO hn KC fun w dS bJ mg mb fa o pm cd doc a vs ns G Y ho hd nC KD GW hints hlen hg=>?_
 have KX:=hY w _ Y;obtain⟨fd,hb,hF⟩:=F w mg fa _ KX G.T.g KD;have KG:∃bm ob,mg "__builtins__"=some (.ref bm)/\bm≠builtinsNs/\bm≠mainGlobals/\bJ.heap.get? bm=some ob/\ob.cls=.type "module"/\ob.dict=some builtinsNs/\ob.data=.plain:=by
  obtain⟨bm,ob,b1,b2,b3,b4,b5,b6⟩:=G.T.bmain;refine⟨bm,ob,b1,b2,fun z=>?_,b3,b4,b5,b6⟩;obtain⟨o,es,ep,e,hd,_⟩:=G.T.g;rw[z,e]at b3;cases b3;rw[hd]at b6;cases b6
 exact Bo KX G.T.g G.T.b G.T.builtins G.T.nolimit hg KG (hC w _ Y) (hP w _ Y) (GY w) GW hints (bo hlen NM) hr hF hb (fun H hO hS=>Fc w H a ns hlen hO hS) fun H e s'=>Ph w H bJ e s'
end L2
namespace L2
open PySem PySem.Spec PyProof.Rows
def nW(s:Stmt):Arguments:=match s with
 |.FunctionDef _ a _ _ _ _ _ _ _ _=>a
 |_=>{posonlyargs:=[],args:=[],vararg:=none,kwonlyargs:=[],kw_defaults:=[],kwarg:=none,defaults:=[]}
def cF(s:Stmt):List Stmt:=match s with
 |.FunctionDef _ _ b _ _ _ _ _ _ _=>b
 |_=>[]
def aE(s:Stmt):Scope:=match s with
 |.FunctionDef _ _ _ _ _ _ sc _ _ _=>sc
 |_=>{kind:=.function,names:=[],isGenerator:=false,isCoroutine:=false}
abbrev kc:wC:=fun _ _ _ _ _ _=>False
abbrev E0:XK:=fun _ _ _=>False
theorem KJ{X:Cx}:Passes kc X E0:=fun _ _ _ _ _ _ _ h=>h.elim
structure q_(K:PySem.W.Frag)(x qual:Str)(st:Stmt)(f:Addr)(fd:FuncData):Prop where
 ex:∃(oc:Value) (od:Option Addr) (kV doc pm:Value) (an:Option Addr) (cE ct:Value) (xK:Array (Option Value)),
  fd=PySem.W.fnOf x qual (nW st) (cF st) (aE st) .none kV doc pm an cE ct/\K.lookup f=some ⟨oc,od,.func fd,xK⟩/\PySem.W.codeIn K cE qual=true
 kp:PySem.W.keepIn K (.ref f)=true
section
variable {P:Program}{w:World}{K:PySem.W.Frag}{mg:Str->Option Value}{base:Heap}
theorem q_.ok {x qual:Str}{st:Stmt}{f:Addr}{fd:FuncData}{N ps:List Str}{k:Nat}{sp:Sp}(F:q_ K x qual st f fd)(S:c_ N ps (aE st))(len:∀vs H Q E,sp vs H Q E->vs.length=ps.length)
  (f':∀(cE:Value) (A:Around) (outer:List Env) (s:Shared) (H:Hp) (vs:List V) (Q:VK) (E:XK),cM k (A.deeper (envOfC qual (aE st) s.heap.objs.size f cE))->sp vs H Q E->
   ∃t,ja (iM kc P w K mg base N qual (aE st) f cE A outer s H E).AE (cF st) t/\t {nx:=fun _ H'=>Q .bU H',rt:=Q} (start N vs) H):fg P w K mg base kc (k+1) f fd ps sp:=by
 obtain⟨oc,od,kV,doc,pm,an,cE,ct,xK,rfl,lk,nC⟩:=F.ex;refine Bc lk nC S len fun A outer s H vs Q E hr Fc=>?_
 obtain⟨t,h,q⟩:=f' cE A outer s H vs Q E hr Fc;exact⟨t,h.AE,q⟩
theorem q_.binds {x qual:Str}{st:Stmt}{f:Addr}{fd:FuncData}{ps:List Str}(F:q_ K x qual st f fd)
  (h:∀(kV doc pm:Value) (an:Option Addr) (cE ct:Value) (us:List Value),us.length=ps.length->bindArgs (PySem.W.fnOf x qual (nW st) (cF st) (aE st) .none kV doc pm an cE ct) ⟨us,[]⟩=pure (ps.zip us)):Binds K fd ps []:=by
 obtain⟨oc,od,kV,doc,pm,an,cE,ct,xK,rfl,lk,nC⟩:=F.ex;exact .all (h kV doc pm an cE ct)
end
theorem fI{A:Around}{k:Nat}(hr:cM k A):A.units+1<cLine:=Nat.lt_of_le_of_lt (Nat.add_le_add_left (by decide:1<=64) _) hr.units
theorem G0{A B:Prop}(h:B):if false=true then A else B:=by
 rw[ae cj];exact h
theorem G1{A B:Prop}(h:A):if true=true then A else B:=by
 rw[ab rfl];exact h
def au(H H':Hp):Prop:=∀b o,H b=some o->H' b=some o
theorem au.refl (H:Hp):au H H:=fun _ _ h=>h
theorem au.trans {H H1 H2:Hp}(a:au H H1)(b:au H1 H2):au H H2:=fun c o h=>b c o (a c o h)
theorem au.free {H H':Hp}(e:au H H'){l:Addr}(h:H' l=Option.none):H l=Option.none:=by
 cases q:H l with
 |none=>rfl
 |some o=>
  rw[e l o q]at h;cases h
theorem au.seq {K:PySem.W.Frag}{H H':Hp}{a:Addr}{xs:List V}(e:au H H')(h:g8 K H a xs):g8 K H' a xs:=by
 rcases h with(h|⟨o,h⟩)|h
 ·exact .inl (.inl (e _ _ h))
 ·exact .inl (.inr ⟨o,e _ _ h⟩)
 ·exact .inr h
end L2
namespace L2
open PySem PySem.Spec PyProof.Rows
theorem pH{α β:Type}{f:α->β->Sem (ForInStep β)}{g:β->α->β}:∀(l:List α) (c:β),(∀x∈l,∀c,f x c=pure (.yield (g c x)))->forIn l c f=(pure (l.foldl g c):Sem β)
 |[],c,_=>rfl
 |x::l,c,h=>by
  rw[o6,h x aK,pure_bind];exact pH l _ fun y hy=>h y (aR _ hy)
def gD(env:Env)(cs:List (Str×Addr))(x:Str×NameKind):List (Str×Addr):=if x.2== .free then(x.1,(env.cells.lookup x.1).getD 0)::cs else cs
def sR(scope:Scope)(env:Env):List (Str×Addr):=scope.names.foldl (gD env) []
theorem iw{scope:Scope}{env:Env}(h:∀x∈scope.names,x.2=.free->∃c,env.cells.lookup x.1=some c):closureFor scope env=pure (sR scope env):=by
 simp only[closureFor];rw[pH (g:=gD env) scope.names [] (fun x hx c=>by
  obtain⟨n,k⟩:=x;by_cases hk:k=.free
  ·subst hk;obtain⟨a,ha⟩:=h _ hx rfl;have dF:env.cells.lookup n=some a:=ha;simp[cellOf,dF,gD]
  ·have e:(k==NameKind.free)=false:=by simpa using hk
   simp[e,gD])]
 rfl
theorem ke{env:Env}:∀(names:List (Str×NameKind)) (acc:List (Str×Addr)),(∀x∈names,x.2=.free->∃c,env.cells.lookup x.1=some c)->(∀x c,acc.lookup x=some c->env.cells.lookup x=some c)->
  ∀x c,(names.foldl (gD env) acc).lookup x=some c->env.cells.lookup x=some c
 |[],_,_,ha,x,c,e=>ha x c e
 |(n,k)::r,acc,hf,ha,x,c,e=>by
  refine ke r (gD env acc (n,k)) (fun y hy=>hf y (aR _ hy)) (fun y d ed=>?_) x c e;unfold gD at ed;by_cases hk:k=.free
  ·subst hk;obtain⟨a,hn⟩:=hf (n,.free) aK rfl;have Js:env.cells.lookup n=some a:=hn;simp only[br,fc,Js,Option.getD_some,cB]at ed;split at ed
   ·rename_i hy;have:y=n:=by simpa using hy
    subst this;rw[Js];exact ed
   ·exact ha y d ed
  ·have e:(k==NameKind.free)=false:=by simpa using hk
   simp only[e,bK,bp]at ed;exact ha y d ed
theorem kf{env:Env}:∀(names:List (Str×NameKind)) (acc:List (Str×Addr)) (x:Str),((acc.lookup x).isSome=true\/(x,NameKind.free)∈names)->((names.foldl (gD env) acc).lookup x).isSome=true
 |[],_,_,h=>h.elim (fun z=>z) fun z=>absurd z (by simp)
 |(n,k)::r,acc,x,h=>by
  refine kf r (gD env acc (n,k)) x ?_
  unfold gD;rcases h with h|h
  ·left;split
   ·rw[cB];split<;>simp_all
   ·exact h
  ·rcases aO.mp h with h|h
   ·left;cases h;simp[cB]
   ·exact .inr h
theorem kg{env:Env}:∀{names:List (Str×NameKind)} {x:Str} {k:NameKind},(names.map fun(n,k)=>if(k==NameKind.free&&env.scope.kind== .function&&env.kindOf n==some .cell)then(n,NameKind.cell)else(n,k)).lookup x=some k->
  names.lookup x=some k\/names.lookup x=some .free
 |[],_,_,h=>by simp at h
 |(n,j)::r,x,k,h=>by
  simp only[aB]at h;by_cases hx:x=n
  ·subst hx;by_cases hc:(j==NameKind.free&&env.scope.kind== .function&&env.kindOf x==some .cell)=true
   ·rw[ab hc]at h;simp only[aM,g6]at hc;right;rw[cB,br,hc.1.1]
   ·rw[ae hc]at h;left;rw[cB,br]at h⊢;exact h
  ·have e:(x==n)=false:=by simpa using hx
   have h':(r.map fun(n,k)=>if(k==NameKind.free&&env.scope.kind== .function&&env.kindOf n==some .cell)then(n,NameKind.cell)else(n,k)).lookup x=some k:=by
    split at h<;>(rw[cB,e]at h;exact h)
   rcases kg h' with z|z
   ·left;rw[cB,e];exact z
   ·right;rw[cB,e];exact z
theorem lS{env:Env}:∀{names:List (Str×NameKind)} {x:Str},names.lookup x=some .free->
  (names.map fun(n,k)=>if(k==NameKind.free&&env.scope.kind== .function&&env.kindOf n==some .cell)then(n,NameKind.cell)else(n,k)).lookup x=some .cell\/
  (names.map fun(n,k)=>if(k==NameKind.free&&env.scope.kind== .function&&env.kindOf n==some .cell)then(n,NameKind.cell)else(n,k)).lookup x=some .free
 |[],_,h=>by simp at h
 |(n,j)::r,x,h=>by
  simp only[aB];by_cases hx:x=n
  ·subst hx;rw[cB,br]at h;have hj:j=.free:=Option.some.inj h;by_cases hc:(j==NameKind.free&&env.scope.kind== .function&&env.kindOf x==some .cell)=true
   ·left;rw[ab hc,cB,br]
   ·right;rw[ae hc,cB,br,hj]
  ·have e:(x==n)=false:=by simpa using hx
   rw[cB,e]at h;rcases lS (env:=env) h with z|z
   ·left;split<;>(rw[cB,e];exact z)
   ·right;split<;>(rw[cB,e];exact z)
def kE(X:Cx)(scope:Scope)(N:List Str)(s:Shared)(H:Hp)(ex:List Addr):Cx where
 prog:=X.prog
 w:=X.w
 K:=X.K
 mg:=X.mg
 base:=X.base
 A:=X.A
 N:=N
 dS:=s
 uA:=H
 env:=compEnvC scope (sR scope X.env) s.heap.objs.size X.env
 outer:=X.stack
 stack:=X.stack
 ex:=ex
 fn:=fun _=>false
 calm:=X.calm
 pn:=[]
 xe:=fun _ _=>False
def KL(N N':List Str)(ix:List (Option Nat))(sc scope:Scope):Bool:=
 decide (N'.length=ix.length)&&(N'.zip ix).all (fun p=>match p.2 with
  |none=>true
  |some j=>decide (N[j]?=some p.1)&&decide (scope.names.lookup p.1=some .free))&&
 scope.names.all (fun y=>y.2 != .cell&&(y.2 != .free||decide (sc.names.lookup y.1=some .cell))&&(y.2 != .local||decide (scope.names.lookup y.1=some .local)))&&(scope.kind== .function)
structure fN(X:Cx)(N':List Str)(ix:List (Option Nat))(scope:Scope):Prop where
 len:N'.length=ix.length
 free:∀(i:Nat) (x:Str) (j:Nat),N'[i]?=some x->ix[i]?=some (some j)->X.N[j]?=some x/\scope.names.lookup x=some .free
 sS:∀y∈scope.names,y.2≠ .cell
 cell:∀y∈scope.names,y.2=.free->X.env.scope.names.lookup y.1=some .cell
 loc:∀y∈scope.names,y.2=.local->scope.names.lookup y.1=some .local
 kind:scope.kind=.function
theorem fN.of {X:Cx}{N N':List Str}{ix:List (Option Nat)}{sc scope:Scope}(hN:X.N=N)(hs:X.env.scope=sc)(h:KL N N' ix sc scope=true):fN X N' ix scope:=by
 unfold KL at h;simp only[aM,cA,bM]at h;obtain⟨⟨⟨h1,h2⟩,h3⟩,h4⟩:=h;refine⟨h1,fun i x j e1 e2=>?_,fun y hy z=>?_,fun y hy z=>?_,fun y hy z=>?_,by simpa using h4⟩
 ·have m:(x,some j)∈N'.zip ix:=bu (i:=i) (by rw[List.getElem?_zip_eq_some];exact⟨e1,e2⟩);have q:=h2 _ m;simp only[aM,cA]at q;rw[hN];exact q
 ·have q:=(h3 y hy).1.1;rw[z]at q;simp at q
 ·have q:=(h3 y hy).1.2;rw[z]at q;simp only[gL,lF,cA]at q;rw[hs];exact q
 ·have q:=(h3 y hy).2;rw[z]at q;simp only[gL,lF,cA]at q;exact q
def dU(ix:List (Option Nat))(σ:St):St:=ix.map fun o=>o.bind fun j=>(σ[j]?).join
theorem wG{X:Cx}{N':List Str}{ix:List (Option Nat)}{scope:Scope}{pins:List (Addr×Obj)}{σ:St}{H:Hp}{s:Shared}{cO:Heap}{fp:List Addr}{tk:Nat}(L:fN X N' ix scope)(I:Inv X pins σ H s)
  (zu:cO.Ns s.heap.objs.size (fun _=>none)) (Bp:∀b o,s.heap.get? b=some o->cO.get? b=some o)
  (hf:∀b∈fp,iL X pins H b) (KN:∀b∈fp,b<s.heap.objs.size):Inv (kE X scope N' s H fp) [] (dU ix σ) H {s with heap:=cO,toks:=tk}:=by
 have jh:∀y∈scope.names,y.2=.free->∃c,X.env.cells.lookup y.1=some c:=fun y hy z=>I.ok.has y.1 (.inl (L.cell y hy z));have sub:∀x c,(sR scope X.env).lookup x=some c->X.env.cells.lookup x=some c:=ke scope.names [] jh (fun x c e=>by simp at e);have has:∀x,scope.names.lookup x=some .free->∃c,(sR scope X.env).lookup x=some c:=fun x e=>
  oy.mp (kf scope.names [] x (.inr (fJ e)))
 have Jq:∀b∈fp,b∉lN X.stack:=fun b hb z=>by
  obtain⟨_,f1,f2,_⟩:=hf b hb;rcases aO.mp (I.wm b z)with q|q
  ·exact f1 q
  ·exact f2 q
 refine⟨⟨I.ok.mod,L.kind,I.ok.glob,I.ok.blt,ak _,fun x y c e1 e2=>I.ok.inj x y c (sub x c e1) (sub y c e2),fun x hx=>?_,fun x c z=>absurd (show false=true from z) cj,I.ok.hd,I.ok.frames,.inl rfl,
   fun b hb=>⟨aP (KN b hb),fun x c e=>(hf b hb).2.2.2.2.1 x c (sub x c e)⟩,I.bs,bo I.ok.E5 I.sz,fun b o e hb=>?_,Jq,I.stack,I.sJ⟩,
  rfl,I.bare,Un.kept Bp,⟨_,zu,fun i x v e1 e2 e3=>?_⟩,fun x c e=>?_,I.fresh,fun x c e=>I.fH x c (sub x c e),fun p hp=>absurd (show p∈([]:List (Addr×Obj))from hp) (by simp),I.bC.kept Bp,?_⟩
 ·have hx:(relabel scope X.env).names.lookup x=some .cell\/(relabel scope X.env).names.lookup x=some .free:=hx;have xE:scope.names.lookup x=some .free:=by
   rcases hx with z|z
   ·rcases kg z with q|q
    ·exact absurd rfl (L.sS _ (fJ q))
    ·exact q
   ·rcases kg z with q|q
    ·exact q
    ·exact q
  exact has x xE
 ·obtain⟨_,_,_,q,_⟩:=hf b hb;rcases q with q|q
  ·exact I.ok.zj b o e q
  ·exact absurd (bj (aA (I.ok.bs b o e).1) q) (ck _)
 ·
  unfold dU at e2;rw[aS]at e2;cases eo:ix[i]? with
  |none=>rw[eo]at e2;cases e2
  |some o=>
   rw[eo]at e2;cases o with
   |none=>exact absurd (show(some none:Option (Option V))=some (some v)from e2) (by simp)
   |some j=>
    obtain⟨n1,n2⟩:=L.free i x j e1 eo;have NN:(σ[j]?).join=some v:=Option.some.inj (show some ((σ[j]?).join)=some (some v)from e2);have e4:σ[j]?=some (some v):=by
     cases q:σ[j]? with
     |none=>rw[q]at NN;cases NN
     |some z=>
      rw[q]at NN;have:z=some v:=NN;rw[this]
    have wH:X.env.scope.names.lookup x=some .cell:=L.cell _ (fJ n2) rfl;obtain⟨m,hn,hl⟩:=I.loc;obtain⟨u,r,l⟩:=hl j x v n1 e4 (.inr (.inl wH));refine⟨u,r,?_⟩;rcases l with⟨k,_⟩|⟨k,c,ec,z⟩
    ·have k':X.env.scope.names.lookup x=some .local:=k;rw[wH]at k';cases k'
    ·obtain⟨c',J'⟩:=has x n2;have S3:c'=c:=by
      have q:=sub x c' J';rw[ec]at q;exact(Option.some.inj q).symm
     subst S3;refine .inr ⟨?_,c',J',?_⟩
     ·exact lS n2
     ·obtain⟨o',zk,AQ⟩:=z;exact⟨o',Bp _ _ zk,AQ⟩
 ·obtain⟨v,o,ho,hd⟩:=I.cell x c (sub x c e);exact⟨v,o,Bp _ _ ho,hd⟩
 ·show(dU ix σ).length=N'.length;unfold dU;rw[ai];exact L.len.symm
end L2
namespace L2
open PySem PySem.Spec PyProof.Rows
abbrev xQ(ifs:List Expr)(env:Env):Sem Bool:=forIn ifs true fun c r=>if r=true then do let ok<-isTrue c env (eval c env);pure (ForInStep.yield ok)else pure (ForInStep.yield r)
section
variable {prog:Program}{w:World}{A:Around}{R:Result->Shared->Prop}{s:Shared}
theorem DQ{elt target iter:Expr}{ifs:List Expr}{scope:Scope}{pos:Pos}{it acc:Value}{env:Env}(I:Nat->Shared->Prop)
  (turn:∀n s,I n s->wpAny (model prog w) A (pyNext it) (fun r bJ=>match r with
   |none=>R (.ok .next) bJ
   |some v=>wpAny (model prog w) A (letOwnedTupleGo target it v) (fun _ Fj=>wpAny (model prog w) A (assign target env v) (fun _ mE=>
     wpAny (model prog w) A (xQ ifs env) (fun ok wo=>
      if ok=true then wpAny (model prog w) A (eval elt env) (fun x DR=>
       wpAny (model prog w) A (call (.builtin "list.append") [acc,x]) (fun _ KO=>∃m,m<n/\I m KO) (fun _ _=>False) DR) (fun _ _=>False) wo
      else∃m,m<n/\I m wo) (fun _ _=>False) mE) (fun _ _=>False) Fj) (fun _ _=>False) bJ) (fun _ _=>False) s)
  (n:Nat) (h:I n s):codeAny (model prog w) A (.compLoop (.ListComp elt [⟨target,iter,ifs,0⟩] scope pos) 0 it acc env) R s:=by
 refine codeAny_loop rfl I (fun n s hI=>?_) n h;show wpAny _ A ((compTurn (.ListComp elt [⟨target,iter,ifs,0⟩] scope pos) 0 it acc env).onRaise (fun x=>do noteFrame x env;theTreesLotGoes x)) _ _ s;refine wpAny_noted ?_
 rw[compTurn_list];refine aa (wpAny_standAt (aa (c0 (turn n s hI) (fun r bJ cO=>?_) fun _ _ f=>f.elim)));cases r with
 |none=>exact af cO
 |some v=>
  refine aa (c0 cO (fun _ Fj KQ=>?_) fun _ _ f=>f.elim);refine aa (c0 KQ (fun _ mE mJ=>aa (c0 mJ (fun ok wo uQ=>?_) fun _ _ f=>f.elim)) fun _ _ f=>f.elim);cases ok with
  |false=>exact af ⟨rfl,uQ⟩
  |true=>exact aa (aa (c0 uQ (fun x DR G_=>aa (c0 G_ (fun _ KO jZ=>af (af ⟨rfl,jZ⟩)) fun _ _ f=>f.elim)) fun _ _ f=>f.elim))
end
def PF(X:Cx)(ifs:List Expr)(t:TT):Prop:=
 ∀(pins:List (Addr×Obj)) (s:Shared) (σ:St) (H:Hp) (Q:Bool->Hp->Prop),Inv X pins σ H s->t σ H Q->wpAny (model X.prog X.w) X.A (xQ ifs X.env) (TP X pins σ Q) X.xe s
theorem Bq{X:Cx}:PF X [] (fun _ H Q=>Q true H):=fun _ _ _ H _ I h=>wpAny_tests_nil ⟨H,I,h⟩
theorem Ha{X:Cx}{c:Expr}{t:TT}(h:PT X c t):PF X [c] t:=fun pins s σ H Q I q=>wpAny_tests_one (h pins s σ H Q I q)
def Pl(J:It)(D:Addr)(NO:St)(H0:Hp)(g:TG)(tc:TT)(te:TE)(Q:Hp->Prop):Prop:=
 ∃W:Nat->Nat->St->Hp->Prop,(∃m,W 0 m NO H0)/\∀i m σ H,W i m σ H->(J.stop i H/\Q H)\/
  (J.go i H/\∃N:St->Hp->Prop,(∀bA H',N bA H'->∃m',m'<m/\W (i+1) m' bA H')/\∀x H',J.xH i H x H'->g x σ H' fun qW H2=>tc qW H2 fun b H3=>
    if b=true then te qW H3 fun y H4=>∃ys,H4 D=some (.lst ys)/\ys.length<sizeLine/\N qW (upd H4 D (.lst (ys++[y])))else N qW H3)
def JD(wi:TI)(ix:List (Option Nat))(g:TG)(tc:TT)(te:TE):TE:=fun σ H Q=>wi σ H fun J H1=>∀D,H1 D=none->Pl J D (dU ix σ) (upd H1 D (.lst [])) g tc te fun H'=>Q (.ref D) H'
section
variable {X:Cx}{scope:Scope}{N':List Str}{ix:List (Option Nat)}{tg iter elt:Expr}{ifs:List Expr}{pos:Pos}{g:TG}{tc:TT}{te:TE}
theorem xR{use:Option (Value->Sem Unit)}{Qf:Value->Shared->Prop}{QD:Addr->Hp->Prop}{pins:List (Addr×Obj)}{s2:Shared}{σ:St}{H2:Hp}{it:Addr}{fp:List Addr}{tn:Nat->Heap->Prop}{J:It}
  (L:fN X N' ix scope) (hc:X.calm=true) (lT:∀s H ex,PG (kE X scope N' s H ex) tg g/\PF (kE X scope N' s H ex) ifs tc/\PE (kE X scope N' s H ex) elt te)
  (I2:Inv X pins σ H2 s2) (T:Turn X.prog X.w X.K tg J fp it tn) (Dz:tn 0 s2.heap) (f2:∀b∈fp,iL X pins H2 b)
  (hw:∀D,H2 D=none->Pl J D (dU ix σ) (upd H2 D (.lst [])) g tc te (QD D))
  (Pm:∀D C H' s' m,Inv X pins σ H' s'->iL X pins H' C->s'.heap.Ns C m->QD D H'->compPost (model X.prog X.w) X.A X.xe use Qf (.ref D) C (.ok .next) s'):
  wpAny (model X.prog X.w) X.A (newList []) (fun acc wo=>wpAny (model X.prog X.w) X.A (newFunctionEnv scope X.env.globals (sR scope X.env) [] X.env.qual none .none (some X.env)) (fun KR DR=>
   codeAny (model X.prog X.w) X.A (.compStart (.ListComp elt [⟨tg,iter,ifs,0⟩] scope pos) 0 (.ref it) acc {KR with scope:=relabel scope X.env}) (compPost (model X.prog X.w) X.A X.xe use Qf acc KR.locals) DR) X.xe wo) X.xe s2:=by
 refine dO (wpAny_newFunctionEnv L.sS (by intro y hy;simp at hy) (fun cO wI wJ=>?_) L.kind);dsimp only at wI wJ⊢;have hD:H2 s2.heap.objs.size=none:=I2.fresh;have I3:Inv X pins σ (upd H2 s2.heap.objs.size (.lst [])) {s2 with heap:=s2.heap.push {cls:=.type "list",data:=.seq ([]:List Value).toArray},toks:=s2.toks}:=I2.GK (aT:=[]) .nil (bx _);generalize S4:({s2 with heap:=s2.heap.push {cls:=.type "list",data:=.seq ([]:List Value).toArray},toks:=s2.toks}:Shared)=s3 at I3;have e3:({s2 with heap:=s2.heap.push {cls:=.type "list",dict:=none,data:=.seq ([]:List Value).toArray}}:Shared)=s3:=S4;have eh:s2.heap.push {cls:=.type "list",dict:=none,data:=.seq ([]:List Value).toArray}=s3.heap:=bH Shared.heap e3;have S5:s3.os=s2.os:=by rw[<-e3]
 have ek:∀b o,s2.heap.get? b=some o->s3.heap.get? b=some o:=fun b o e=>by rw[<-eh];exact ay _ e
 have Hb:s2.heap.objs.size<=s3.heap.objs.size:=by rw[<-eh,eZ];exact fZ _
 rw[eh]at wI wJ⊢;have f3:∀b∈fp,iL X pins (upd H2 s2.heap.objs.size (.lst [])) b:=fun b hb=>by
  obtain⟨o,eo,_⟩:=T.obj _ _ Dz b hb;refine⟨?_,(f2 b hb).2⟩;rw[ah (aP (aA eo))];exact(f2 b hb).1
 have E4:∀b∈fp,b<s3.heap.objs.size:=fun b hb=>by
  obtain⟨o,eo,_⟩:=T.obj _ _ Dz b hb;exact bj (aA eo) Hb
 have k4:∀b o,s3.heap.get? b=some o->cO.get? b=some o:=fun b o e=>wJ.extBut b o (aP (aA e)) (ay _ e);have RC:tn 0 cO:=T.keep _ _ _ Dz fun b _ o e=>k4 b o (ek b o e);obtain⟨W,⟨m0,w0⟩,turn⟩:=hw s2.heap.objs.size hD;have I4:∀tk,Inv (kE X scope N' s3 (upd H2 s2.heap.objs.size (.lst [])) fp) [] (dU ix σ) (upd H2 s2.heap.objs.size (.lst [])) {s3 with heap:=cO,toks:=tk}:=fun tk=>
  wG L I3 wI k4 f3 E4
 obtain⟨hg,hf,he⟩:=lT s3 (upd H2 s2.heap.objs.size (.lst [])) fp;have wy:∀{H':Hp},(∀b∈fp,H' b=none)->∀b∈fp,iL (kE X scope N' s3 (upd H2 s2.heap.objs.size (.lst [])) fp) [] H' b:=fun{H'} hn b hb=>by
  have ok:=(I4 0).ok;obtain⟨x1,x2⟩:=ok.OF b hb;exact⟨hn b hb,x1,ok.AN b hb,.inl hb,x2,fun p hp=>absurd (show p∈([]:List (Addr×Obj))from hp) (by simp)⟩
 have loop:∀tk,codeAny (model X.prog X.w) X.A (.compLoop (.ListComp elt [⟨tg,iter,ifs,0⟩] scope pos) 0 (.ref it) (.ref s2.heap.objs.size) (compEnvC scope (sR scope X.env) s3.heap.objs.size X.env))
   (compPost (model X.prog X.w) X.A X.xe use Qf (.ref s2.heap.objs.size) s3.heap.objs.size) {s3 with heap:=cO,toks:=tk}:=fun tk=>by
  refine DQ (fun n s'=>∃i bA H',Inv (kE X scope N' s3 (upd H2 s2.heap.objs.size (.lst [])) fp) [] bA H' s'/\tn i s'.heap/\(∀b∈fp,H' b=none)/\W i n bA H') ?_ m0
   ⟨0,_,_,I4 tk,RC,fun b hb=>(f3 b hb).1,w0⟩
  rintro n s5 ⟨i,NP,H5,I5,Jv,NH,w5⟩
  rcases turn i n NP H5 w5 with⟨stop,qn⟩|⟨go,N,hN,step⟩
  ·refine dq (T.done (kE X scope N' s3 (upd H2 s2.heap.objs.size (.lst [])) fp) rfl rfl rfl hc i [] s5 NP H5 _ I5 (wy NH) Jv stop) fun r s6 ⟨hr,I6⟩=>?_
   subst hr;have u:Un (lN X.stack) fp H2 H5 s2.heap s6.heap:=(Un.laid (o:=.lst []) ek (ak _) hD).trans I6.base;have J6:Inv X pins σ H5 s6:=I2.Ka (ch:=fp) (I6.os.trans S5) u I6.bC I6.bare fun b hb=>by
    obtain⟨_,x1,_,x3,x4,x5⟩:=f2 b hb;exact⟨x3,x1,x4,x5⟩
   obtain⟨m,hm,_⟩:=I6.loc;exact Pm _ _ H5 s6 m J6 (I2.uD Hb I6.free) hm qn
  ·refine dq (T.item (kE X scope N' s3 (upd H2 s2.heap.objs.size (.lst [])) fp) rfl rfl rfl hc i [] s5 NP H5 _ I5 (wy NH) Jv go) fun r s6 ⟨v,hr,h6⟩=>?_
   subst hr;refine dq h6 fun _ s7 ⟨x,H7,I7,r7,y7,Po,S6⟩=>?_
   have S7:=I7.pinned (wy S6) (T.obj _ _ Po);refine dq (hg _ s7 NP H7 x v _ S7 r7 (step x H7 y7)) fun _ s8 ⟨NQ,H8,I8,q8⟩=>?_
   have again:∀{KU:St} {H9:Hp} {s9:Shared},Inv (kE X scope N' s3 (upd H2 s2.heap.objs.size (.lst [])) fp) ([]++pz fp s7.heap) KU H9 s9->N KU H9->
     ∃m,m<n/\∃i bA H',Inv (kE X scope N' s3 (upd H2 s2.heap.objs.size (.lst [])) fp) [] bA H' s9/\tn i s9.heap/\(∀b∈fp,H' b=none)/\W i m bA H':=fun{KU H9 s9} I9 n9=>by
    obtain⟨m',hm,w9⟩:=hN KU H9 n9;refine⟨m',hm,i+1,KU,H9,I9.lO,T.keep _ _ _ Po fun b hb o e=>(I9.pin (b,o) (eS _ (eS _ (iq hb e)))).1,fun b hb=>?_,w9⟩;obtain⟨o,e,d⟩:=T.obj _ _ Po b hb;exact(I9.pin (b,o) (eS _ (eS _ (iq hb e)))).2.1
   refine dq (hf _ s8 NQ H8 _ I8 q8) fun ok s9 ⟨H9,I9,q9⟩=>?_
   cases ok with
   |false=>exact again I9 q9
   |true=>
    refine dq (he _ s9 NQ H9 _ I9 q9) fun y Pp ⟨v10,S8,S9,S_,ys,hy,hz,Ta⟩=>?_
    refine dq (eM _ Pp NQ S8 (.ref s2.heap.objs.size) [v10] (.ref s2.heap.objs.size) [y] (fun _ H'=>N NQ H') S9 rfl (.cons S_ .nil) ⟨_,ys,v10,rfl,rfl,hy,hz,Ta⟩) fun _ VL ⟨_,VM,Tb,_,Tc⟩=>?_
    exact again Tb Tc
 have es:∀tk,({s2 with heap:=cO,toks:=tk}:Shared)={s3 with heap:=cO,toks:=tk}:=fun tk=>by rw[<-e3]
 have Fl:∀tk,codeAny (model X.prog X.w) X.A (.compLoop (.ListComp elt [⟨tg,iter,ifs,0⟩] scope pos) 0 (.ref it) (.ref s2.heap.objs.size) (compEnvC scope (sR scope X.env) s3.heap.objs.size X.env))
   (compPost (model X.prog X.w) X.A X.xe use Qf (.ref s2.heap.objs.size) s3.heap.objs.size) {s2 with heap:=cO,toks:=tk}:=fun tk=>by
  rw[es tk];exact loop tk
 exact codeAny_compStart_list (Fl _) (T.self _ 0 _ _ _ RC (Fl _))
theorem Br{wi:TI}(L:fN X N' ix scope)(hc:X.calm=true)(hi:PI X tg iter wi)(lT:∀s H ex,PG (kE X scope N' s H ex) tg g/\PF (kE X scope N' s H ex) ifs tc/\PE (kE X scope N' s H ex) elt te)
  (hs:∀x,foldedSetIterable iter X.env x=pure x:=by intro _;rfl):PE X (.ListComp elt [⟨tg,iter,ifs,0⟩] scope pos) (JD wi ix g tc te):=by
 intro pins s σ H Q I h;have jh:∀y∈scope.names,y.2=.free->∃c,X.env.cells.lookup y.1=some c:=fun y hy z=>I.ok.has y.1 (.inl (L.cell y hy z));rw[eval_ListComp];refine wpAny_comprehension_free (use:=none) rfl hs (iw jh) L.kind L.loc (dq (hi pins s σ H _ I h) fun v s1 h1=>dq h1 fun ND s2 h2=>?_);obtain⟨it,fp,tn,J,H2,e,I2,T,Dz,f2,hw⟩:=h2;subst e;refine xR (QD:=fun D H'=>Q (.ref D) H') L hc lT I2 T Dz f2 hw fun D C H' s' m I' fC hm q=>⟨m,hm,fun h' Bp=>?_⟩;obtain⟨x0,x1,x2,x3,x4,x5⟩:=fC;exact⟨.ref D,H',I'.turned (t':=s'.toks) (fun b o hb e=>(Bp.2 b hb).trans e) x0 x1 x3 x4 x5,rfl,q⟩
theorem uR{wi:TI}{i:Nat}{x:Str}{px lU:Pos}(L:fN X N' ix scope)(hc:X.calm=true)(hN:X.N.Nodup)(hi:X.N[i]?=some x)(hx:Loc X.env.scope x)(hit:PI X tg iter wi)
  (lT:∀s H ex,PG (kE X scope N' s H ex) tg g/\PF (kE X scope N' s H ex) ifs tc/\PE (kE X scope N' s H ex) elt te)
  (DT:swapsWith (.ListComp elt [⟨tg,iter,ifs,0⟩] scope pos) (some (.Name x px)) lU.line X.env=pure true:=by rfl)
  (hs:∀x,foldedSetIterable iter X.env x=pure x:=by intro _;rfl) (hf:X.fn x=true\/X.env.scope.names.lookup x=some .local:=by first|exact .inl rfl|exact .inr rfl|assumption):
  PS X (.Assign [.Name x px] (.ListComp elt [⟨tg,iter,ifs,0⟩] scope pos) lU) (fun D σ H=>JD wi ix g tc te σ H fun v H'=>D.nx (σ.set i (some v)) H'):=by
 intro pins s σ H D I h;have jh:∀y∈scope.names,y.2=.free->∃c,X.env.cells.lookup y.1=some c:=fun y hy z=>I.ok.has y.1 (.inl (L.cell y hy z));rw[exec_Assign_Name_used _ _ _ _ DT];refine aa (wpAny_standAt (aa ?_));show wpAny _ X.A (do let _<-comprehension (.ListComp elt [⟨tg,iter,ifs,0⟩] scope pos) scope X.env _ (newList []) false (eval iter X.env) (some (assign (.Name x px) X.env))) _ _ s;refine aa (c0 (wpAny_comprehension_free (use:=some (assign (.Name x px) X.env)) (Q:=fun _ s'=>SP X pins D .next s') rfl hs (iw jh) L.kind L.loc
  (dq (hit pins s σ H _ I h) fun v s1 h1=>dq h1 fun ND s2 h2=>?_)) (fun _ s' hq=>af (af hq)) fun _ _ e=>e)
 obtain⟨it,fp,tn,J,H2,e,I2,T,Dz,f2,hw⟩:=h2;subst e;refine xR (QD:=fun Dd H'=>D.nx (σ.set i (some (.ref Dd))) H') L hc lT I2 T Dz f2 hw fun Dd C H' s' m I' fC hm q=>?_
 obtain⟨x0,x1,x2,x3,x4,x5⟩:=fC;show wpAny _ X.A (assign (.Name x px) X.env (.ref Dd)) _ _ _;refine wpAny_assign_Name (rm I' hN hi hx (v:=.ref Dd) rfl (fun Dl Td rj=>?_) hf);obtain⟨a,Bp,ha⟩:=rj;have Te:C≠a:=by
  rcases ha with ha|ha
  ·rw[ha];exact x1
  ·exact fun z=>x4 _ _ ha z.symm
 refine⟨m,hm.sameBut Bp Te,fun h' Pq=>?_⟩;exact⟨_,H',Td.turned (t':=Dl.toks) (fun b o hb e=>(Pq.2 b hb).trans e) x0 x1 x3 x4 x5,q⟩
end
end L2
namespace L2
open PySem PySem.Spec PyProof.Rows
def NR(z:Str):It:=⟨fun i _=>i<z.cps.size,fun i H x H'=>H'=H/\∃c,z.cps[i]?=some c/\x=.str ⟨#[c]⟩,fun i _=>i=z.cps.size⟩
theorem uS{P:Program}{w:World}{K:PySem.W.Frag}{tg:Expr}{z:Str}{t:Tok}{it:Addr}{n:String}(hn:["enumerate","zip","dict_itemiterator","dict_reverseitemiterator","odict_iterator","itertools.zip_longest","itertools.pairwise"].contains n=false)
  (W:∀A':Around,A'.handled=none->Walks P w A' it [it] [it] z.cps.size (SignAt z) (fun i h=>h.IsStrIter it n z t i))
  (self:∀(A:Around) (i:Nat) (s:Shared) (Q:Value->Shared->Prop) (E:Value->Shared->Prop),s.heap.IsStrIter it n z t i->Q (.ref it) s->wpAny (model P w) A (pyIter (.ref it)) Q E s):
  Turn P w K tg (NR z) [it] it (fun i h=>h.IsStrIter it n z t i) where
 mem:=by simp
 obj:=fun i h st b hb=>by
  have e:b=it:=by simpa using hb
  subst e;obtain⟨o,e,c,d⟩:=st;exact⟨o,e,fun v q=>by rw[d]at q;cases q⟩
 keep:=fun i h h' st k=>by
  obtain⟨o,e,c,d⟩:=st;exact⟨o,k it (by simp) o e,c,d⟩
 item:=by
  intro X hP hw hK hc i pins s σ H E I hf st hg;subst hP hw hK;obtain⟨f0,f1,f2,f3,f4,f5⟩:=hf it (by simp);refine(W X.A (I.ok.hd hc)).item i s _ _ hg st fun v h' tk hv qV kk=>?_
  obtain⟨c,u,Tf,rfl⟩:=hv;have I1:Inv X pins σ H {s with heap:=h',toks:=tk}:=I.turned (fun b o hb e=>kk b o (by simpa using hb) e) f0 f1 f3 f4 f5;obtain⟨o,e,cl,d⟩:=id qV;exact⟨_,rfl,uE (s:={s with heap:=h',toks:=tk}) e cl d hn ⟨.str ⟨#[c]⟩,H,I1,⟨u,rfl⟩,⟨rfl,c,Tf,rfl⟩,qV,fun b hb=>(hf b hb).1⟩⟩
 done:=by
  intro X hP hw hK hc i pins s σ H E I hf st hg;subst hP hw hK;obtain⟨f0,f1,f2,f3,f4,f5⟩:=hf it (by simp);have e:i=z.cps.size:=hg;subst e;exact(W X.A (I.ok.hd hc)).done s _ _ st fun h' tk kk=>⟨rfl,I.turned (fun b o hb e=>kk b o (by simpa using hb) e) f0 f1 f3 f4 f5⟩
 self:=self
theorem g8.upd {K:PySem.W.Frag}{H:Hp}{D a:Addr}{xs:List V}{o:HO}(hD:H D=none)(h:g8 K H a xs):g8 K (upd H D o) a xs:=by
 rcases h with(h|⟨ob,h⟩)|h
 ·exact .inl (.inl (by rw[ah (aJ h hD)];exact h))
 ·exact .inl (.inr ⟨ob,by rw[ah (aJ h hD)];exact h⟩)
 ·exact .inr h
theorem gy.upd {K:PySem.W.Frag}{H:Hp}{D a:Addr}{xs:List V}{o:HO}(hD:H D=none)(h:gy K H a xs):gy K (upd H D o) a xs:=by
 rcases h with(h|⟨ob,h⟩)|h
 ·exact .inl (.inl (by rw[ah (aJ h hD)];exact h))
 ·exact .inl (.inr ⟨ob,by rw[ah (aJ h hD)];exact h⟩)
 ·exact .inr h
section
variable {X:Cx}
theorem Hc:qP X (compareOp .Is) (fun x y H Q=>∃c d,x=.bl c/\y=.bl d/\Q (.bl (c==d)) H):=by
 intro pins s σ H x y v u Q I rx ry h;obtain⟨c,d,rfl,rfl,q⟩:=h;cases rx;cases ry;exact is_bool (wz I q rfl)
theorem DU:qP X (binaryOp .Mult) (fun x y H Q=>∃z n,x=.str z/\y=.int n/\MulOk z n/\Q (.str (Txt.mul z n)) H):=by
 intro pins s σ H x y v u Q I rx ry h;obtain⟨z,n,rfl,rfl,bC,q⟩:=h;obtain⟨t,rfl⟩:=rx;obtain⟨t',rfl⟩:=ry;exact SB.mul bC fun t' k=>⟨.str _,H,I.tok _,⟨_,rfl⟩,q⟩
theorem Bs(hc:X.calm=true):f_ X (.builtin "all") (fun xs H Q=>∃(p:Addr) (bs:List Bool),xs=[.ref p]/\g8 X.K H p (bs.map V.bl)/\Q (.bl (bs.all id)) H):=by
 intro pins s σ H xs us Q I r h;obtain⟨p,bs,rfl,hl,q⟩:=h;obtain⟨u,rfl,ru⟩:=vals1 r;cases(show u=Value.ref p from ru);obtain⟨aT,rv,pl,hz⟩:=I.list hl;have hb:aT=bs.map Value.bool:=by
  clear hz pl hl q I
  induction bs generalizing aT with
  |nil=>cases rv;rfl
  |cons b r ih=>
   cases rv with
   |cons r1 r2=>
    rw[aB,<-ih _ (by exact r2)];cases(show _=Value.bool b from r1)
    rfl
 subst hb;have eB:p<s.heap.objs.size:=by obtain⟨o,n,e,_⟩:=pl;exact aA e
 refine call_all_walk (gS pl.isList ?_);refine⟨s.heap.objs.size,[s.heap.objs.size,p],[s.heap.objs.size],(bs.map Value.bool).toArray.size,_,_,fun i=>(bs[i]?).getD true,rfl,Walks.list (A:=X.A.in1) (I.ok.hd hc) _ p (aP eB) _,
  ⟨⟨_,aQ _ rfl,rfl,rfl⟩,pl.isList.push _⟩,fun i v s' Q' E' hP hQ=>?_,fun h' tk hk=>?_⟩
 ·have KW:(bs.map Value.bool)[i]?=some v:=by simpa using hP
  rw[aS]at KW;cases eb:bs[i]? with
  |none=>rw[eb]at KW;cases KW
  |some b=>
   rw[eb]at KW;cases KW;simp only[eb,Option.getD_some]at hQ;exact iY hQ
 ·have e:((List.range (bs.map Value.bool).toArray.size).all fun i=>(bs[i]?).getD true)=bs.all id:=by
   rw[a6,ai];exact LSm.range_all bs
  rw[e];exact⟨.bl _,H,I.kept (LSm.kept_iter hk),rfl,q⟩
end
end L2
namespace L2
open PySem PySem.Spec PyProof.Rows
theorem au.tup {K:PySem.W.Frag}{H H':Hp}{a:Addr}{xs:List V}(e:au H H')(h:gy K H a xs):gy K H' a xs:=by
 rcases h with(h|⟨o,h⟩)|h
 ·exact .inl (.inl (e _ _ h))
 ·exact .inl (.inr ⟨o,e _ _ h⟩)
 ·exact .inr h
theorem au.upd {H:Hp}{D:Addr}{o:HO}(hD:H D=none):au H (upd H D o):=fun b u e=>by rw[ah (aJ e hD)];exact e
theorem au.Hd {H H':Hp}{D:Addr}{o:HO}(s:au H H')(hD:H D=none):au H (L2.upd H' D o):=fun b u e=>by rw[ah (aJ e hD)];exact s b u e
structure rK(K:PySem.W.Frag)(mg:Str->Option Value)(x:Str)(st:Stmt)(ps:List Str)(f:Addr)(fd:FuncData):Prop where
 fn:q_ K x x st f fd
 bd:Binds K fd ps []
 mg:mg x=some (.ref f)
theorem He{X:Cx}{x:Str}{st:Stmt}{ps:List Str}{f:Addr}{fd:FuncData}{k:Nat}{sp:Sp}{e:Expr}{es:List Expr}{t:TA}{p pos:Pos}(D:rK X.K X.mg x st ps f fd)(G:fg X.prog X.w X.K X.mg X.base kc k f fd ps sp)(hr:cM k X.A)
  (ha:PA X (e::es) t) (hg:Gl X x:=by rfl) (iu:(x==("__debug__":Str))=false:=by decide) (he:starEach (e::es) X.env=(false,eval e X.env)::starEach es X.env:=by rfl)
  (nE:(backTo pos (starEach es X.env)).any (·.1)=false:=by rfl):PE X (.Call (.Name x p) (e::es) [] pos) (E_ sp [] E0 t):=by
 have q:=xJ (p:=p) (pos:=pos) G hr hg D.mg D.fn.kp D.bd .nil KJ ha (iu:=iu) (he:=he) (nE:=nE);exact q
end L2
namespace L2
open PySem PySem.Spec PyProof.Rows
section
variable {X:Cx}
theorem uT:∀{cs:List String} {us:List Value},Vals (cs.map V.ty) us->us=cs.map Value.type
 |[],_,.nil=>rfl
 |c::cs,_,.cons r t=>by
  rw[uT t];cases(show _=Value.type c from r)
  rfl
theorem mK{h:Heap}{p:Addr}{aT:Array Value}(ht:h.IsTuple p aT):∃dd n sl,h.get? p=some ⟨.type "tuple",dd,.seq aT n,sl⟩:=by
 obtain⟨⟨cls,dd,data,sl⟩,h1,h2,n,h3⟩:=ht;dsimp only at h2 h3;subst h2 h3;exact⟨dd,n,sl,h1⟩
theorem zw:f_ X (.builtin "isinstance") (fun xs H Q=>∃(x:V) (p:Addr) (cs:List String) (t:Value) (b:Bool),xs=[x,.ref p]/\Fg x=true/\gy X.K H p (cs.map V.ty)/\lQ X.K H x t/\PySem.W.kitAny X.K t (cs.map Value.type)=some b/\Q (.bl b) H):=by
 intro pins s σ H xs us Q I r h;obtain⟨x,p,cs,t,b,rfl,fx,hp,ty,e,q⟩:=h;obtain⟨u,v,rfl,ru,rv⟩:=vals2 r;cases(show v=Value.ref p from rv);obtain⟨aT,r1,p1,_⟩:=I.tuple hp;obtain⟨dd,n,sl,hg⟩:=mK p1;cases uT r1;have fin:∀tk,EP X pins σ Q (.bool b) {s with toks:=tk}:=fun tk=>⟨.bl b,H,I.tok _,rfl,q⟩;cases ty with
 |bU=>
  cases(show u=Value.none from ru);exact lz PySem.W.kitx_none I.nB .intro hg e (by simp) fin
 |bl y=>
  cases(show u=Value.bool y from ru);exact lz PySem.W.kitx_bool I.nB .intro hg e (by simp) fin
 |int i=>
  obtain⟨t,rfl⟩:=(show∃t,u=Value.int i t from ru);exact lz PySem.W.kitx_int I.nB .intro hg e (by simp) fin
 |str y=>
  obtain⟨t,rfl⟩:=(show∃t,u=Value.str y t from ru);exact lz PySem.W.kitx_str I.nB .intro hg e (by simp) fin
 |_=>exact absurd (show false=true from fx) cj
end
end L2
namespace L2
open PySem PySem.Spec PyProof.Rows
inductive Tr where
 |bU|bl (b:Bool)|int (i:Int)|str (z:Str)|ty (n:String)
 |j1 (ns:List Int)|tup (ts:List Tr)|lst (ts:List Tr)|ji (aC:List (Key×Tr))|at(i:Nat)
 |aX (aC:List (List Key×Tr))|ob (x:Str) (fs:List (Str×Tr))|xT (x:Str)
def hJ:Nat:=1000000
def clsAt(K:PySem.W.Frag)(x:Str):Addr:=match PySem.W.nsIn K mainGlobals x with
 |some (some (.ref C))=>C
 |_=>0
structure Vw where
 H:Hp
 ix:Addr->Option Nat
instance:Coe Vw Hp:=⟨Vw.H⟩
instance:CoeFun Vw (fun _=>Addr->Option HO):=⟨Vw.H⟩
structure b9(W W':Vw):Prop where
 h:au W.H W'.H
 x:∀a i,W.ix a=some i->W'.ix a=some i
theorem b9.refl (W:Vw):b9 W W:=⟨au.refl _,fun _ _ e=>e⟩
theorem b9.trans {W W1 W2:Vw}(a:b9 W W1)(b:b9 W1 W2):b9 W W2:=⟨a.h.trans b.h,fun c i e=>b.x c i (a.x c i e)⟩
mutual
inductive Rep(K:PySem.W.Frag)(H:Vw):V->Tr->Prop where
 |bU:Rep K H .bU .bU
 |bl (b:Bool):Rep K H (.bl b) (.bl b)
 |int (i:Int):Rep K H (.int i) (.int i)
 |str (z:Str) (h:z.length<=hJ):Rep K H (.str z) (.str z)
 |ty (n:String):Rep K H (.ty n) (.ty n)
 |j1 {a:Addr} {ns:List Int} (h:g8 K H.H a (ns.map V.int)):Rep K H (.ref a) (.j1 ns)
 |tup {a:Addr} {vs:List V} {ts:List Tr} (h:H.H a=some (.tup vs)) (r:aI K H vs ts):Rep K H (.ref a) (.tup ts)
 |lst {a:Addr} {vs:List V} {ts:List Tr} (h:H.H a=some (.lst vs)) (r:aI K H vs ts):Rep K H (.ref a) (.lst ts)
 |ji {a:Addr} {ar:List (Key×V)} {aC:List (Key×Tr)} (h:Rd H.H a (.dK ar)) (e:ar.map (·.1)=aC.map (·.1)) (r:aI K H (ar.map (·.2)) (aC.map (·.2))):Rep K H (.ref a) (.ji aC)
 |at{a:Addr} {i:Nat} (h:H.ix a=some i):Rep K H (.ref a) (.at i)
 |aX {a:Addr} {ar:List (List Key×V)} {aC:List (List Key×Tr)} (h:Rd H.H a (.dT ar)) (e:ar.map (·.1)=aC.map (·.1)) (r:aI K H (ar.map (·.2)) (aC.map (·.2))):Rep K H (.ref a) (.aX aC)
 |ob {a dx:Addr} {x:Str} {ui:List (Str×V)} {fs:List (Str×Tr)} (h:H.H a=some (.ins (clsAt K x) dx ui)) (e:ui.map (·.1)=fs.map (·.1)) (r:aI K H (ui.map (·.2)) (fs.map (·.2))):Rep K H (.ref a) (.ob x fs)
 |xT {a:Addr} {oe:Obj} {x:Str} (h:H.H a=some (.ext fun h=>h.get? a=some oe)) (c:oe.cls=.ref (clsAt K x)):Rep K H (.ref a) (.xT x)
inductive aI(K:PySem.W.Frag)(H:Vw):List V->List Tr->Prop where
 |nil:aI K H [] []
 |cons {v:V} {t:Tr} {vs:List V} {ts:List Tr} (h:Rep K H v t) (r:aI K H vs ts):aI K H (v::vs) (t::ts)
end
section
theorem Rd.same {H H':Hp}{a:Addr}{u:HO}(s:au H H')(h:Rd H a u):Rd H' a u:=by
 rcases h with h|⟨o,h⟩
 ·exact .inl (s _ _ h)
 ·exact .inr ⟨o,s _ _ h⟩
variable {K:PySem.W.Frag}{H H':Vw}
theorem Rep.same (s:b9 H H'){v:V}{t:Tr}(h:Rep K H v t):Rep K H' v t:=by
 refine Rep.rec (motive_1:=fun v t _=>Rep K H' v t) (motive_2:=fun vs ts _=>aI K H' vs ts) ?_ ?_ ?_ ?_ ?_ ?_ ?_ ?_ ?_ ?_ ?_ ?_ ?_ ?_ ?_ h
 ·exact .bU
 ·exact fun b=>.bl b
 ·exact fun i=>.int i
 ·exact fun z h=>.str z h
 ·exact fun n=>.ty n
 ·exact fun h=>.j1 (s.h.seq h)
 ·exact fun h _ r=>.tup (s.h _ _ h) r
 ·exact fun h _ r=>.lst (s.h _ _ h) r
 ·exact fun h e _ r=>.ji (Rd.same s.h h) e r
 ·exact fun h=>.at (s.x _ _ h)
 ·exact fun h e _ r=>.aX (Rd.same s.h h) e r
 ·exact fun h e _ r=>.ob (s.h _ _ h) e r
 ·exact fun h c=>.xT (s.h _ _ h) c
 ·exact .nil
 ·exact fun _ _ h r=>.cons h r
theorem aI.same (s:b9 H H'):∀{vs:List V} {ts:List Tr},aI K H vs ts->aI K H' vs ts
 |[],_,h=>by cases h;exact .nil
 |_::_,_,h=>by cases h with|cons h r=>exact .cons (h.same s) (aI.same s r)
theorem aI.length:∀{vs:List V} {ts:List Tr},aI K H vs ts->vs.length=ts.length
 |[],_,h=>by cases h;rfl
 |_::_,_,h=>by cases h with|cons h r=>rw[bb,bb,aI.length r]
theorem aI.get:∀{vs:List V} {ts:List Tr} {i:Nat} {t:Tr},aI K H vs ts->ts[i]?=some t->∃v,vs[i]?=some v/\Rep K H v t
 |[],_,i,t,h,e=>by cases h;simp at e
 |_::_,_,0,t,h,e=>by cases h with|cons h r=>simp at e;subst e;exact⟨_,rfl,h⟩
 |_::_,_,i+1,t,h,e=>by
  cases h with
  |cons h r=>
   obtain⟨v,e1,r1⟩:=aI.get (i:=i) (t:=t) r (by simpa using e);exact⟨v,by simpa using e1,r1⟩
theorem aI.wK:∀{vs:List V} {ts:List Tr} {i:Nat} {v:V},aI K H vs ts->vs[i]?=some v->∃t,ts[i]?=some t/\Rep K H v t
 |[],_,i,t,h,e=>by simp at e
 |_::_,_,0,t,h,e=>by cases h with|cons h r=>simp at e;subst e;exact⟨_,rfl,h⟩
 |_::_,_,i+1,t,h,e=>by
  cases h with
  |cons h r=>
   obtain⟨v,e1,r1⟩:=aI.wK (i:=i) r (by simpa using e);exact⟨v,by simpa using e1,r1⟩
theorem aI.append:∀{vs ws:List V} {ts us:List Tr},aI K H vs ts->aI K H ws us->aI K H (vs++ws) (ts++us)
 |[],_,_,_,h,q=>by cases h;exact q
 |_::_,_,_,_,h,q=>by cases h with|cons h r=>exact .cons h (aI.append r q)
theorem aI.rep {vs:List V}{ts:List Tr}(h:aI K H vs ts):∀n:Nat,aI K H (List.replicate n vs).flatten (List.replicate n ts).flatten
 |0=>.nil
 |n+1=>by
  rw[ij,ij,gK,gK];exact h.append (aI.rep h n)
end
structure bD where
 hd:Addr->Bool
 ix:Addr->Option Nat
instance:CoeFun bD (fun _=>Addr->Bool):=⟨bD.hd⟩
def aN(B:bD)(H:Hp):Vw:=⟨fun b=>if B.hd b=true then none else H b,B.ix⟩
def HB(B:bD)(H:Hp):Prop:=∀b,B.hd b=true->∃o,H b=some o/\∀vs,o≠ .tup vs
section
variable {B B':bD}{H H':Hp}
theorem cq{b:Addr}(h:B.hd b=false):(aN B H).H b=H b:=by show(if B.hd b=true then none else H b)=_;rw[h,ae cj]
theorem aD:au (aN B H).H H:=fun b o (e:(if B.hd b=true then none else H b)=some o)=>by
 split at e
 ·cases e
 ·exact e
theorem aV(s:au H H'):b9 (aN B H) (aN B H'):=⟨fun b o (e:(if B.hd b=true then none else H b)=some o)=>by
 show(if B.hd b=true then none else H' b)=some o;split at e
 ·cases e
 ·rw[ae (by assumption)];exact s b o e,fun _ _ e=>e⟩
def raw(B:bD)(H:Hp):Vw:=⟨H,B.ix⟩
theorem nX:b9 (aN B H) (raw B H):=⟨aD,fun _ _ e=>e⟩
theorem HB.same (h:HB B H)(s:au H H'):HB B H':=fun b e=>by obtain⟨o,q,n⟩:=h b e;exact⟨o,s b o q,n⟩
theorem HB.free {p:Addr}(h:HB B H)(hp:H p=none):B.hd p=false:=by
 cases e:B.hd p with
 |false=>rfl
 |true=>obtain⟨o,q,_⟩:=h p e;rw[hp]at q;cases q
theorem HB.tup {p:Addr}{vs:List V}(h:HB B H)(hp:H p=some (.tup vs)):(aN B H).H p=some (.tup vs):=by
 cases e:B.hd p with
 |false=>rw[cq e];exact hp
 |true=>obtain⟨o,q,n⟩:=h p e;rw[hp]at q;cases q;exact absurd rfl (n _)
theorem HB.new {p:Addr}{o:HO}(h:HB B H)(hp:H p=none):(aN B (upd H p o)).H p=some o:=by rw[cq (h.free hp)];exact aF
structure ni(B B':bD):Prop where
 hd:∀b,B.hd b=true->B'.hd b=true
 ix:∀b i,B'.ix b=some i->B.ix b=some i
theorem pI(h:ni B B'):b9 (aN B' H) (aN B H):=⟨fun b o (e:(if B'.hd b=true then none else H b)=some o)=>by
 show(if B.hd b=true then none else H b)=some o;split at e
 ·cases e
 ·rename_i n;rw[ae fun z=>n (h.hd b z)];exact e,h.ix⟩
end
inductive Rs(α:Type) where
 |bad|ok (a:α)|exc (c:Tr)
def Rs.bind {α β:Type}(r:Rs α)(f:α->Rs β):Rs β:=match r with
 |.ok a=>f a
 |.exc c=>.exc c
 |.bad=>.bad
def XA(X:Cx)(c:Tr)(H:Hp):Prop:=False
def kF(xc:Tr->Prop){α:Type}(r:Rs α)(k:α->Prop):Prop:=match r with
 |.ok a=>k a
 |.exc c=>xc c
 |.bad=>False
def xP(X:Cx)(H:Hp):Tr->Prop:=fun c=>∀H',au H H'->XA X c H'
def Fi(X:Cx)(H:Hp){α:Type}(r:Rs α)(k:α->Prop):Prop:=kF (xP X H) r k
section
variable {X:Cx}{H H':Hp}{α β:Type}{r:Rs α}{k k':α->Prop}{xc KY:Tr->Prop}
theorem kF.mono (h:kF xc r k)(w:∀a,k a->k' a):kF xc r k':=by
 cases r with
 |ok a=>exact w a h
 |_=>exact h
theorem kF.imp (h:kF xc r k)(w:∀c,xc c->KY c):kF KY r k:=by
 cases r with
 |ok a=>exact h
 |exc c=>exact w c h
 |bad=>exact h
theorem kF.bind {f:α->Rs β}{k:β->Prop}(h:kF xc (r.bind f) k):kF xc r fun a=>kF xc (f a) k:=by
 cases r with
 |_=>exact h
theorem Fi.mono (h:Fi X H r k)(w:∀a,k a->k' a):Fi X H r k':=kF.mono h w
theorem Fi.same (h:Fi X H r k)(s:au H H'):Fi X H' r k:=kF.imp h fun _ q H2 s2=>q H2 (s.trans s2)
theorem Fi.bind {f:α->Rs β}{k:β->Prop}(h:Fi X H (r.bind f) k):Fi X H r fun a=>Fi X H (f a) k:=kF.bind h
end
inductive Cell where
 |no|sh (t:Tr)|ow (ts:List Tr)
abbrev ax:=List Cell
structure a7(K:PySem.W.Frag)(B:bD)(H:Hp)(σ:St)(ρ:ax):Prop where
 len:ρ.length=σ.length
 sh:∀(i:Nat) (t:Tr),ρ[i]?=some (.sh t)->∃v,σ[i]?=some (some v)/\Rep K (aN B H) v t
 ow:∀(i:Nat) (ts:List Tr),ρ[i]?=some (.ow ts)->∃D ys,σ[i]?=some (some (.ref D))/\B D=true/\H D=some (.lst ys)/\aI K (aN B H) ys ts
 ap:∀(i j:Nat) (ts us:List Tr) (D:Addr),i≠j->ρ[i]?=some (.ow ts)->ρ[j]?=some (.ow us)->σ[i]?=some (some (.ref D))->σ[j]? ≠some (some (.ref D))
section
variable {K:PySem.W.Frag}{B B':bD}{H H':Hp}{σ:St}{ρ:ax}
theorem a7.same (h:a7 K B H σ ρ)(s:au H H'):a7 K B H' σ ρ:=
 ⟨h.len,fun i t e=>by obtain⟨v,e1,r⟩:=h.sh i t e;exact⟨v,e1,r.same (aV s)⟩,
   fun i ts e=>by obtain⟨D,ys,e1,e2,e3,r⟩:=h.ow i ts e;exact⟨D,ys,e1,e2,s _ _ e3,r.same (aV s)⟩,h.ap⟩
theorem fQ{α:Type}{l:List α}{i j:Nat}{x y:α}(e:(l.set i x)[j]?=some y):(i=j/\i<l.length/\y=x)\/(i≠j/\l[j]?=some y):=by
 rw[gM]at e;by_cases qR:i=j
 ·rw[ab qR]at e;by_cases hl:i<l.length
  ·rw[ab hl]at e;exact .inl ⟨qR,hl,(Option.some.inj e).symm⟩
  ·rw[ae hl]at e;cases e
 ·rw[ae qR]at e;exact .inr ⟨qR,e⟩
theorem a7.set {v:V}{t:Tr}(h:a7 K B H σ ρ)(i:Nat)(r:Rep K (aN B H) v t):a7 K B H (σ.set i (some v)) (ρ.set i (.sh t)):=by
 refine⟨by rw[fS,fS];exact h.len,fun j u e=>?_,fun j us e=>?_,fun j k us ws D Tg e1 e2 e3=>?_⟩
 ·rcases fQ e with⟨rfl,hl,q⟩|⟨qR,q⟩
  ·cases q;exact⟨v,by rw[gM,ab rfl,ab (by rw[<-h.len];exact hl)],r⟩
  ·obtain⟨w,e1,r1⟩:=h.sh j u q;exact⟨w,by rw[gM,ae qR];exact e1,r1⟩
 ·rcases fQ e with⟨rfl,hl,q⟩|⟨qR,q⟩
  ·cases q
  ·obtain⟨D,ys,e1,r1⟩:=h.ow j us q;exact⟨D,ys,by rw[gM,ae qR];exact e1,r1⟩
 ·rcases fQ e1 with⟨rfl,hl,q⟩|⟨qR,q⟩
  ·cases q
  ·rcases fQ e2 with⟨rfl,hl,q2⟩|⟨NS,q2⟩
   ·cases q2
   ·rw[gM,ae qR]at e3;rw[gM,ae NS];exact h.ap j k us ws D Tg q q2 e3
end
def startT(n:Nat)(ts:List Tr):ax:=ts.map Cell.sh++List.replicate (n - ts.length) .no
theorem jR{n i:Nat}{ts:List Tr}{c:Cell}(e:(startT n ts)[i]?=some c):c=.no\/∃t,ts[i]?=some t/\c=.sh t:=by
 unfold startT at e;by_cases hi:i<ts.length
 ·rw[bX (by rw[ai];exact hi),aS]at e;cases q:ts[i]? with
  |none=>rw[q]at e;cases e
  |some u=>rw[q]at e;exact .inr ⟨u,rfl,(Option.some.inj e).symm⟩
 ·rw[dH (by rw[ai];omega),kQ]at e;split at e
  ·exact .inl (Option.some.inj e).symm
  ·cases e
theorem a7.start {K:PySem.W.Frag}{B:bD}{H:Hp}{N:List Str}{vs:List V}{ts:List Tr}(h:aI K (aN B H) vs ts):a7 K B H (start N vs) (startT N.length ts):=by
 have hl:=h.length;refine⟨by unfold L2.start startT;simp only[ba,ai,kY];omega,fun i t e=>?_,fun i us e=>?_,fun i j us ws D _ e _ _=>?_⟩
 ·rcases jR e with q|⟨u,q,q2⟩
  ·cases q
  ·cases q2;obtain⟨v,e1,r⟩:=h.get q;have hi:i<vs.length:=(cJ.mp e1).1;refine⟨v,?_,r⟩;unfold L2.start;rw[bX (by rw[ai];exact hi),aS,e1]
   rfl
 ·rcases jR e with q|⟨u,q,q2⟩
  ·cases q
  ·cases q2
 ·rcases jR e with q|⟨u,q,q2⟩
  ·cases q
  ·cases q2
def isStar:Expr->Bool
 |.Starred .. =>true
 |_=>false
theorem aU{e:Expr}(es:List Expr)(env:Env)(h:isStar e=false):starEach (e::es) env=(false,eval e env)::starEach es env:=by
 cases e<;>first|rfl|cases h
def aY(es:List Expr):Bool:=es.all fun e=>!isStar e
theorem bZ{pos:Pos}{env:Env}:∀{es:List Expr},aY es=true->(backTo pos (starEach es env)).any (·.1)=false
 |[],_=>by rw[starEach];rfl
 |e::es,h=>by
  unfold aY at h;rw[fW,aM]at h;have h1:isStar e=false:=by simpa using h.1
  rw[aU es env h1];exact bZ (es:=es) h.2
theorem pJ{pos:Pos}{env:Env}:∀{es:List Expr},aY es=true->(backTo pos (starEach es env)).all (fun x=>!x.1)=true
 |[],_=>by rw[starEach];rfl
 |e::es,h=>by
  unfold aY at h;rw[fW,aM]at h;have h1:isStar e=false:=by simpa using h.1
  rw[aU es env h1];exact pJ (es:=es) h.2
theorem aG{e:Expr}{es:List Expr}(h:aY (e::es)=true):isStar e=false/\aY es=true:=by
 unfold aY at h;rw[fW,aM]at h;exact⟨by simpa using h.1,h.2⟩
def kh:Expr->Bool
 |.ListComp .. =>true
 |.SetComp .. =>true
 |.DictComp .. =>true
 |_=>false
theorem pK{e:Expr}{t:Option Expr}{n:Nat}{env:Env}(h:kh e=false):swapsWith e t n env=pure false:=by
 cases e<;>first|rfl|cases h
def hU:Expr->Bool
 |.UnaryOp .. =>false
 |.BoolOp .. =>false
 |.IfExp .. =>false
 |.Compare .. =>false
 |_=>true
theorem pL{e:Expr}{env:Env}(h:hU e=true):∀whole,isTrue e env whole=(do let v<-whole;standAt e.pos;holding [v] (truthy v)):=by
 intro whole;cases e<;>first|rfl|cases h
def isSet:Expr->Bool
 |.Set .. =>true
 |_=>false
theorem dA{e:Expr}{env:Env}(h:isSet e=false):∀x,foldedSetIterable e env x=pure x:=by
 intro x;cases e<;>first|rfl|cases h
def isCall:Expr->Bool
 |.Call .. =>true
 |_=>false
theorem xU{o:Expr}{x:Str}{env:Env}{w:Sem Value}(h:isCall o=false):attributeBase o x env w=w:=by
 cases o<;>first|rfl|cases h
inductive tP(X:Cx)(F:ax->Rs Tr)(σ:St)(H:Hp)(Q:VK):Prop
 |mk (B:bD) (ρ:ax):HB B H->a7 X.K B H σ ρ->(Fi X H (F ρ) fun t=>∀v H',au H H'->Rep X.K (aN B H') v t->Q v H')->tP X F σ H Q
inductive tQ(X:Cx)(F:ax->Rs Bool)(σ:St)(H:Hp)(Q:Bool->Hp->Prop):Prop
 |mk (B:bD) (ρ:ax):HB B H->a7 X.K B H σ ρ->(Fi X H (F ρ) fun b=>∀H',au H H'->Q b H')->tQ X F σ H Q
inductive xV(X:Cx)(F:ax->Rs (List Tr))(σ:St)(H:Hp)(Q:List V->Hp->Prop):Prop
 |mk (B:bD) (ρ:ax):HB B H->a7 X.K B H σ ρ->(Fi X H (F ρ) fun ts=>∀vs H',au H H'->aI X.K (aN B H') vs ts->Q vs H')->xV X F σ H Q
inductive Out where
 |nx (ρ:ax)|ret (t:Tr)|bk (ρ:ax)|ct (ρ:ax)
structure cx(C B0:bD)(H0:Hp)(B:bD)(H:Hp):Prop where
 kp:∀b o,C b=true->H0 b=some o->H b=some o
 fy:b9 (aN B0 H0) (aN B H)
 sub:ni C B
 hb:HB B H
section
variable {C B0 B B1 B2:bD}{H0 H H' H1 H2:Hp}
theorem cx.go (h:cx C B0 H0 B H)(s:au H H'):cx C B0 H0 B H':=⟨fun b o c e=>s _ _ (h.kp b o c e),h.fy.trans (aV s),h.sub,h.hb.same s⟩
theorem ni.refl:ni B B:=⟨fun _ e=>e,fun _ _ e=>e⟩
theorem cx.refl (h:HB B H)(c:ni C B):cx C B H B H:=⟨fun _ _ _ e=>e,b9.refl _,c,h⟩
theorem cx.trans (h:cx C B0 H0 B1 H1)(q:cx C B1 H1 B2 H2):cx C B0 H0 B2 H2:=⟨fun b o c e=>q.kp b o c (h.kp b o c e),h.fy.trans q.fy,q.sub,q.hb⟩
theorem cx.same (h:cx C C H0 B H):au H0 H:=fun b o e=>by
 cases q:C b with
 |true=>exact h.kp b o q e
 |false=>exact aD _ _ (h.fy.h b o (by rw[cq q];exact e))
end
def Hf(X:Cx)(D:Ends)(C B0:bD)(H0:Hp):Out->Prop
 |.nx ρ=>∀bA B' H',cx C B0 H0 B' H'->a7 X.K B' H' bA ρ->D.nx bA H'
 |.ret t=>∀v B' H',cx C B0 H0 B' H'->Rep X.K (aN C H') v t->D.rt v H'
 |.bk ρ=>∀bA B' H',cx C B0 H0 B' H'->a7 X.K B' H' bA ρ->D.bk bA H'
 |.ct ρ=>∀bA B' H',cx C B0 H0 B' H'->a7 X.K B' H' bA ρ->D.ct bA H'
def xS(X:Cx)(C B0:bD)(H0:Hp):Tr->Prop:=fun c=>∀B' H',cx C B0 H0 B' H'->XA X c H'
inductive tS(X:Cx)(G:ax->Rs Out)(D:Ends)(σ:St)(H:Hp):Prop
 |mk (C:bD) (B0:bD) (H0:Hp) (B:bD) (ρ:ax):cx C B0 H0 B H->a7 X.K B H σ ρ->kF (xS X C B0 H0) (G ρ) (Hf X D C B0 H0)->tS X G D σ H
theorem PE.weak {X:Cx}{e:Expr}{t t':TE}(h:PE X e t)(w:∀σ H Q,t' σ H Q->t σ H Q):PE X e t':=fun pins s σ H Q I q=>h pins s σ H Q I (w σ H Q q)
theorem PT.weak {X:Cx}{e:Expr}{t t':TT}(h:PT X e t)(w:∀σ H Q,t' σ H Q->t σ H Q):PT X e t':=fun pins s σ H Q I q=>h pins s σ H Q I (w σ H Q q)
theorem PW.weak {X:Cx}{e:Expr}{t t':TT}(h:PW X e t)(w:∀σ H Q,t' σ H Q->t σ H Q):PW X e t':=fun wh pins s σ H Q I q=>h wh pins s σ H Q I (w σ H Q q)
theorem PA.weak {X:Cx}{es:List Expr}{t t':TA}(h:PA X es t)(w:∀σ H Q,t' σ H Q->t σ H Q):PA X es t':=fun pos pins s σ H Q I q=>h pos pins s σ H Q I (w σ H Q q)
theorem PS.weak {X:Cx}{st:Stmt}{t t':TS}(h:PS X st t)(w:∀D σ H,t' D σ H->t D σ H):PS X st t':=fun pins s σ H D I q=>h pins s σ H D I (w D σ H q)
theorem ja.weak {X:Cx}{st:List Stmt}{t t':TS}(h:ja X st t)(w:∀D σ H,t' D σ H->t D σ H):ja X st t':=fun pins s σ H D I q=>h pins s σ H D I (w D σ H q)
def az(ρ:ax)(i:Nat):Rs Tr:=match ρ[i]? with
 |some (.sh t)=>.ok t
 |_=>.bad
theorem uU{X:Cx}{B:bD}{σ:St}{H:Hp}{ρ:ax}{i:Nat}{k:Tr->Prop}(r:a7 X.K B H σ ρ)(h:Fi X H (az ρ i) k):∃v t,σ[i]?=some (some v)/\Rep X.K (aN B H) v t/\k t:=by
 unfold az at h;split at h
 ·rename_i t e;obtain⟨v,e1,r1⟩:=r.sh i t e;exact⟨v,t,e1,r1,h⟩
 ·exact h.elim
section
variable {X:Cx}{a b c:Expr}{pos:Pos}{F G E:ax->Rs Tr}
theorem KZ(i:Nat){x:Str}{pos:Pos}(hN:X.N[i]?=some x:=by rfl) (hv:Gg X.env.scope x:=by first|exact Or.inl rfl|exact Or.inr (Or.inl rfl)|exact Or.inr (Or.inr rfl)) (hd:(x==("__debug__":Str))=false:=by decide)
  (nC:(x==("__classdict__":Str))=false:=by decide):PE X (.Name x pos) (tP X fun ρ=>az ρ i):=
 (AS hN hv hd nC).weak fun σ H Q ⟨B,ρ,hb,r,q⟩=>by
  obtain⟨v,t,e,r1,k⟩:=uU r q;exact⟨v,e,k v H (au.refl H) r1⟩
theorem xW{v:V}{t:Tr}{e:Expr}(h:PE X e (tC v))(r:∀H,Rep X.K H v t):PE X e (tP X fun _=>.ok t):=
 h.weak fun σ H Q ⟨B,ρ,_,_,q⟩=>q v H (au.refl H) (r _)
theorem K2{i:Int}{j pos}:PE X (.Constant (.int i) j pos) (tP X fun _=>.ok (.int i)):=xW Gi fun H=>.int i
theorem Pr{b:Bool}{j pos}:PE X (.Constant (.bool b) j pos) (tP X fun _=>.ok (.bl b)):=xW Kb fun H=>.bl b
theorem K3{j pos}:PE X (.Constant .none j pos) (tP X fun _=>.ok .bU):=xW Gj fun H=>.bU
theorem Pt{x:Str}{n:String}(hm:X.mg x=none)(hv:bootBuiltins x=some (.type n):=by rfl) (hg:Gl X x:=by rfl) (hn:x≠"__name__":=by decide) (hd:(x==("__debug__":Str))=false:=by decide):PE X (.Name x pos) (tP X fun _=>.ok (.ty n)):=
 xW (Dv (v:=.ty n) hg hm hv rfl hn hd) fun H=>.ty n
def cG(h:Tr->Tr->Rs Tr)(a b:Rs Tr):Rs Tr:=a.bind fun x=>b.bind fun y=>h x y
inductive rT(X:Cx)(h:Tr->Tr->Rs Tr)(x:V)(y:V)(H:Hp)(Q:VK):Prop
 |mk (B:bD) (tx:Tr) (ty:Tr):HB B H->Rep X.K (aN B H) x tx->Rep X.K (aN B H) y ty->(Fi X H (h tx ty) fun t=>∀v H',au H H'->Rep X.K (aN B H') v t->Q v H')->rT X h x y H Q
abbrev uV(X:Cx)(f:Value->Value->Sem Value)(h:Tr->Tr->Rs Tr):Prop:=qP X f (rT X h)
theorem jj{h:Tr->Tr->Rs Tr}{σ:St}{H:Hp}{Q:VK}(q:tP X (fun ρ=>cG h (F ρ) (G ρ)) σ H Q):Jw (rT X h) (tP X F) (tP X G) σ H Q:=by
 obtain⟨B,ρ,hb,r,q⟩:=q;refine⟨B,ρ,hb,r,q.bind.mono fun x qx v H1 s1 r1=>⟨B,ρ,hb.same s1,r.same s1,(qx.bind.same s1).mono fun y qy u H2 s2 r2=>⟨B,x,y,(hb.same s1).same s2,r1.same (aV s2),r2,?_⟩⟩⟩;exact(qy.same (s1.trans s2)).mono fun t qt w H3 s3 r3=>qt w H3 ((s1.trans s2).trans s3) r3
theorem K4{op:Operator}{h:Tr->Tr->Rs Tr}(ho:uV X (binaryOp op) h)(ha:PE X a (tP X F))(hb:PE X b (tP X G)):PE X (.BinOp a op b pos) (tP X fun ρ=>cG h (F ρ) (G ρ)):=
 (Kh ho ha hb).weak fun _ _ _ q=>jj q
theorem K5{op:CmpOp}{h:Tr->Tr->Rs Tr}(ho:uV X (compareOp op) h)(ha:PE X a (tP X F))(hb:PE X b (tP X G))(hm:behindInMarks op b=false:=by first|exact mF _|rfl|with_unfolding_all rfl):PE X (.Compare a [op] [b] pos) (tP X fun ρ=>cG h (F ρ) (G ρ)):=
 (xI ho ha hb hm).weak fun _ _ _ q=>jj q
def kG(r:Rs Tr):Rs Bool:=r.bind fun t=>match t with
 |.bl b=>.ok b
 |_=>.bad
theorem Rep.sT {K:PySem.W.Frag}{H:Vw}{v:V}{b:Bool}(h:Rep K H v (.bl b)):v=.bl b:=by cases h;rfl
theorem gb{K:PySem.W.Frag}{W:Vw}{xs:List V}{t:Tr}(r:aI K W xs [t]):∃x,xs=[x]/\Rep K W x t:=by
 cases r with
 |cons a r=>cases r;exact⟨_,rfl,a⟩
theorem pM{K:PySem.W.Frag}{W:Vw}{xs:List V}{t u:Tr}(r:aI K W xs [t,u]):∃x y,xs=[x,y]/\Rep K W x t/\Rep K W y u:=by
 cases r with
 |cons a r=>
  obtain⟨y,rfl,b⟩:=gb r;exact⟨_,_,rfl,a,b⟩
theorem Rep.xX {K:PySem.W.Frag}{H:Vw}{v:V}{ns:List Int}(h:Rep K H v (.j1 ns)):∃a,v=.ref a/\g8 K H.H a (ns.map V.int):=by cases h;exact⟨_,rfl,by assumption⟩
theorem Rep.DV {K:PySem.W.Frag}{H:Vw}{v:V}{aC:List (Key×Tr)}(h:Rep K H v (.ji aC)):∃a ar,v=.ref a/\Rd H.H a (.dK ar)/\ar.map (·.1)=aC.map (·.1)/\aI K H (ar.map (·.2)) (aC.map (·.2)):=by cases h;exact⟨_,_,rfl,by assumption,by assumption,by assumption⟩
theorem Rep.sU {K:PySem.W.Frag}{H:Vw}{v:V}{i:Nat}(h:Rep K H v (.at i)):∃a,v=.ref a/\H.ix a=some i:=by cases h;exact⟨_,rfl,by assumption⟩
theorem Rep.DW {K:PySem.W.Frag}{H:Vw}{v:V}(h:Rep K H v .bU):v=.bU:=by cases h;rfl
theorem Rep.int_inv {K:PySem.W.Frag}{H:Vw}{v:V}{i:Int}(h:Rep K H v (.int i)):v=.int i:=by cases h;rfl
theorem Rep.str_inv {K:PySem.W.Frag}{H:Vw}{v:V}{z:Str}(h:Rep K H v (.str z)):v=.str z/\z.length<=hJ:=by cases h;exact⟨rfl,by assumption⟩
theorem Rep.cL {K:PySem.W.Frag}{H:Vw}{v:V}{ts:List Tr}(h:Rep K H v (.tup ts)):∃a vs,v=.ref a/\gy K H.H a vs/\aI K H vs ts:=by cases h;exact⟨_,_,rfl,.inl (.inl (by assumption)),by assumption⟩
theorem Rep.jk {K:PySem.W.Frag}{H:Vw}{v:V}{ts:List Tr}(h:Rep K H v (.tup ts)):∃a vs,v=.ref a/\H.H a=some (.tup vs)/\aI K H vs ts:=by cases h;exact⟨_,_,rfl,by assumption,by assumption⟩
theorem Pu{K:PySem.W.Frag}{H:Hp}{a:Addr}{vs:List V}(h:H a=some (.tup vs)):gy K H a vs:=.inl (.inl h)
theorem Rep.lst_inv {K:PySem.W.Frag}{H:Vw}{v:V}{ts:List Tr}(h:Rep K H v (.lst ts)):∃a vs,v=.ref a/\H.H a=some (.lst vs)/\aI K H vs ts:=by cases h;exact⟨_,_,rfl,by assumption,by assumption⟩
theorem DX{H:Hp}{r:Rs Tr}{k:Bool->Prop}(h:Fi X H (kG r) k):Fi X H r fun t=>∃b,t=.bl b/\k b:=by
 refine h.bind.mono fun t q=>?_
 cases t with
 |bl b=>exact⟨b,rfl,q⟩
 |_=>exact q.elim
theorem K6{op:CmpOp}{h:Tr->Tr->Rs Tr}(ho:uV X (compareOp op) h)(ha:PE X a (tP X F))(hb:PE X b (tP X G))(hm:behindInMarks op b=false:=by first|exact mF _|rfl|with_unfolding_all rfl):PT X (.Compare a [op] [b] pos) (tQ X fun ρ=>kG (cG h (F ρ) (G ρ))):=
 (DA ho ha hb hm).weak fun σ H Q ⟨B,ρ,hb,r,q⟩=>by
  refine jj (Q:=fun x H'=>∃k,x=.bl k/\Q k H') ⟨B,ρ,hb,r,(DX q).mono fun t qt v H' s' r'=>?_⟩;obtain⟨b,rfl,k⟩:=qt;exact⟨b,r'.sT,k H' s'⟩
def mL:Tr->Rs Bool
 |.bU=>.ok false
 |.bl b=>.ok b
 |.int i=>.ok (i !=0)
 |.str z=>.ok ((z.length:Int) !=0)
 |.tup ts=>.ok (!ts.isEmpty)
 |.lst ts=>.ok (!ts.isEmpty)
 |.ji aC=>.ok (!aC.isEmpty)
 |_=>.bad
theorem aI.isEmpty {K:PySem.W.Frag}{H:Vw}{vs:List V}{ts:List Tr}(h:aI K H vs ts):vs.isEmpty=ts.isEmpty:=by cases h<;>rfl
theorem nY:hJ<=sizeLine:=by rw[bG];decide
theorem DY{K:PySem.W.Frag}{H:Vw}{v:V}{t:Tr}{b:Bool}(r:Rep K H v t)(e:mL t=.ok b):DB K v H b:=by
 cases r with
 |bU=>cases e;rfl
 |bl c=>cases e;rfl
 |int i=>cases e;rfl
 |str z h=>cases e;exact⟨bo h nY,rfl⟩
 |ty n=>cases e
 |tup h r=>cases e;exact .inr (.inl ⟨_,.inl (.inl h),by rw[r.isEmpty]⟩)
 |lst h r=>cases e;exact .inl ⟨_,.of h,by rw[r.isEmpty]⟩
 |j1 h=>cases e
 |«at» h=>cases e
 |aX h e1 rr=>cases e
 |ob h e1 rr=>cases e
 |xT h c=>cases e
 |ji h e1 r=>
  cases e;refine .inr (.inr ⟨_,h,?_⟩);rename_i ar aC;cases ar<;>cases aC<;>first|rfl|cases e1
theorem pN{H:Vw}{v:V}{t:Tr}{k:Bool->Prop}(r:Rep X.K H v t)(h:Fi X H (mL t) k):∃b,DB X.K v H b/\k b:=by
 cases e:mL t with
 |ok b=>rw[e]at h;exact⟨b,DY r e,h⟩
 |exc c=>cases t<;>cases e
 |bad=>rw[e]at h;exact h.elim
theorem K7(ha:PE X a (tP X F))(he:hU a=true:=by rfl):PT X a (tQ X fun ρ=>(F ρ).bind mL):=
 (uF ha (pL he)).weak fun σ H Q ⟨B,ρ,hb,r,q⟩=>⟨B,ρ,hb,r,q.bind.mono fun t qt v H' s' r'=>by
  obtain⟨b,h1,h2⟩:=pN (r'.same nX) (qt.same s');exact⟨b,h1,h2 H' s'⟩⟩
def Bt(r:Rs Bool):Rs Bool:=r.bind fun b=>.ok (!b)
variable {A B:ax->Rs Bool}{rest:List Expr}
theorem K8(ha:PT X a (tQ X A)):PT X (.UnaryOp .Not a pos) (tQ X fun ρ=>Bt (A ρ)):=
 (AU ha).weak fun σ H Q ⟨B,ρ,hb,r,q⟩=>⟨B,ρ,hb,r,q.bind⟩
def NT(a b:Rs Bool):Rs Bool:=a.bind fun c=>if c then .ok true else b
theorem K9(ha:PT X a (tQ X A)):PW X (.BoolOp .Or [a] pos) (tQ X A):=pw_or1 ha
theorem w_or(ha:PT X a (tQ X A))(hb:PW X (.BoolOp .Or (b::rest) pos) (tQ X B)):PW X (.BoolOp .Or (a::b::rest) pos) (tQ X fun ρ=>NT (A ρ) (B ρ)):=
 (pw_or ha hb).weak fun σ H Q ⟨Bb,ρ,hb,r,q⟩=>⟨Bb,ρ,hb,r,q.bind.mono fun c qc H1 s1=>by
  cases c with
  |false=>exact⟨Bb,ρ,hb.same s1,r.same s1,(Fi.same qc s1).mono fun b qb H2 s2=>qb H2 (s1.trans s2)⟩
  |true=>exact qc H1 s1⟩
theorem Hg{op}{es:List Expr}(h:PW X (.BoolOp op es pos) (tQ X A)):PT X (.BoolOp op es pos) (tQ X A):=h.pt
def Hh(a b:Rs Tr):Rs Tr:=a.bind fun t=>(mL t).bind fun c=>if c then b else .ok t
theorem K_(ha:PE X a (tP X F))(hb:PE X (.BoolOp .And (b::rest) pos) (tP X G)):PE X (.BoolOp .And (a::b::rest) pos) (tP X fun ρ=>Hh (F ρ) (G ρ)):=by
 intro pins s σ H Q I ⟨B,ρ,hB,r,q⟩;refine BoolOp_and (dq (ha pins s σ H _ I ⟨B,ρ,hB,r,q.bind.mono fun t qt v H1 s1 r1=>(show∃t,Rep X.K (aN B H1) v t/\au H H1/\Fi X H ((mL t).bind fun c=>if c then G ρ else .ok t) (fun t=>∀v H',au H H'->Rep X.K (aN B H') v t->Q v H')from⟨t,r1,s1,qt⟩)⟩) fun v s1 ⟨x,H1,I1,r1,t,rt,sm,qt⟩=>?_);obtain⟨c,h1,h2⟩:=pN (rt.same nX) (qt.bind.same sm);refine dq (A9 pins s1 σ H1 x v (fun k H'=>k=c/\H'=H1) I1 r1 ⟨c,h1,rfl,rfl⟩) fun k s2 ⟨H2,I2,e1,e2⟩=>?_
 subst e1 e2;cases k with
 |true=>exact hb pins s2 σ _ Q I2 ⟨B,ρ,hB.same sm,r.same sm,(Fi.same h2 sm).mono fun t q v H' s' r'=>q v H' (sm.trans s') r'⟩
 |false=>exact⟨x,_,I2,r1,h2 x _ sm rt⟩
theorem K'{op}(h:PE X a (tP X F)):PE X (.BoolOp op [a] pos) (tP X F):=Gk h
variable {es:List Expr}{L:ax->Rs (List Tr)}
def ag(a:Rs Tr)(l:Rs (List Tr)):Rs (List Tr):=a.bind fun x=>l.bind fun xs=>.ok (x::xs)
theorem La:PA X [] (xV X fun _=>.ok []):=kb.weak fun σ H Q ⟨B,ρ,hb,r,q⟩=>q [] H (au.refl H) .nil
theorem Hi(ha:PE X a (tP X F))(hr:PA X es (xV X L))(hs:isStar a=false:=by rfl):PA X (a::es) (xV X fun ρ=>ag (F ρ) (L ρ)):=
 (ir ha hr (aU _ _ hs)).weak fun σ H Q ⟨B,ρ,hb,r,q⟩=>⟨B,ρ,hb,r,q.bind.mono fun x qx v H1 s1 r1=>⟨B,ρ,hb.same s1,r.same s1,(qx.bind.same s1).mono fun xs qs vs H2 s2 r2=>qs _ H2 (s1.trans s2) (.cons (r1.same (aV s2)) r2)⟩⟩
def iE:Nat:=16777216
theorem gE:iE=sizeLine:=bG.symm
def gc(l:Rs (List Tr)):Rs Tr:=l.bind fun ts=>if ts.length<=iE then .ok (.tup ts)else .bad
def wL(l:Rs (List Tr)):Rs Tr:=l.bind fun ts=>if ts.length<=iE then .ok (.lst ts)else .bad
theorem Lb{x1}(h:PA X es (xV X L)):PE X (.Tuple es x1 pos) (tP X fun ρ=>gc (L ρ)):=
 (A_ h).weak fun σ H Q ⟨B,ρ,hb,r,q⟩=>⟨B,ρ,hb,r,q.bind.mono fun ts qt vs H1 s1 r1=>by
  by_cases hz:ts.length<=iE
  ·rw[ab hz]at qt;refine⟨by rw[r1.length,<-gE];exact hz,fun p hp=>qt (.ref p) _ (s1.Hd (s1.free hp)) (.tup ((hb.same s1).new hp) (r1.same (aV (au.upd hp))))⟩
  ·rw[ae hz]at qt;exact qt.elim⟩
def aL(h:List Tr->Rs Tr)(l:Rs (List Tr)):Rs Tr:=l.bind h
inductive rC(X:Cx)(h:List Tr->Rs Tr)(xs:List V)(H:Hp)(Q:VK):Prop
 |mk (B:bD) (ts:List Tr):HB B H->aI X.K (aN B H) xs ts->(Fi X H (h ts) fun t=>∀v H',au H H'->Rep X.K (aN B H') v t->Q v H')->rC X h xs H Q
abbrev hW(X:Cx)(f:Value)(h:List Tr->Rs Tr):Prop:=f_ X f (rC X h)
theorem rM{h:List Tr->Rs Tr}{σ:St}{H:Hp}{Q:VK}(q:tP X (fun ρ=>aL h (L ρ)) σ H Q):NI (rC X h) (xV X L) σ H Q:=by
 obtain⟨B,ρ,hb,r,q⟩:=q;exact⟨B,ρ,hb,r,q.bind.mono fun ts qt vs H1 s1 r1=>⟨B,ts,hb.same s1,r1,(qt.same s1).mono fun t qt v H2 s2 r2=>qt v H2 (s1.trans s2) r2⟩⟩
theorem DZ{id:String}{x:Str}{p:Pos}{e:Expr}{h:List Tr->Rs Tr}(hc:hW X (.builtin id) h)(hm:X.mg x=none)(ha:PA X (e::es) (xV X L))(hv:bootBuiltins x=some (.builtin id):=by rfl) (hg:Gl X x:=by rfl) (hn:x≠"__name__":=by decide) (iu:(x==("__debug__":Str))=false:=by decide)
  (cS:aY (e::es)=true:=by rfl):PE X (.Call (.Name x p) (e::es) [] pos) (tP X fun ρ=>aL h (L ρ)):=
 (uI hc hg hm hv ha hn iu (aU _ _ (aG cS).1) (bZ (aG cS).2)).weak fun _ _ _ q=>rM q
theorem Bu{T:String}{x:Str}{p:Pos}{e:Expr}{h:List Tr->Rs Tr}(hc:hW X (.type T) h)(hm:X.mg x=none)(ha:PA X (e::es) (xV X L))(hv:bootBuiltins x=some (.type T):=by rfl) (hg:Gl X x:=by rfl) (hn:x≠"__name__":=by decide) (iu:(x==("__debug__":Str))=false:=by decide)
  (cS:aY (e::es)=true:=by rfl):PE X (.Call (.Name x p) (e::es) [] pos) (tP X fun ρ=>aL h (L ρ)):=
 (g_ hc hg hm hv ha hn iu (aU _ _ (aG cS).1) (bZ (aG cS).2)).weak fun _ _ _ q=>rM q
inductive spT(K:PySem.W.Frag)(f:List Tr->Rs Tr)(vs:List V)(H:Hp)(Q:VK)(_w3:XK):Prop
 |mk (B:bD) (ts:List Tr):HB B H->aI K (aN B H) vs ts->(∃t,f ts=.ok t/\∀v H',au H H'->Rep K (aN B H') v t->Q v H')->spT K f vs H Q _w3
theorem Lc{x:Str}{st:Stmt}{ps:List Str}{f:Addr}{fd:FuncData}{k:Nat}{h:List Tr->Rs Tr}{e:Expr}{p:Pos}(D:rK X.K X.mg x st ps f fd)(G:fg X.prog X.w X.K X.mg X.base kc k f fd ps (spT X.K h))(hr:cM k X.A)
  (ha:PA X (e::es) (xV X L)) (hg:Gl X x:=by rfl) (iu:(x==("__debug__":Str))=false:=by decide) (cS:aY (e::es)=true:=by rfl):PE X (.Call (.Name x p) (e::es) [] pos) (tP X fun ρ=>aL h (L ρ)):=
 (He D G hr ha hg iu (aU _ _ (aG cS).1) (bZ (aG cS).2)).weak fun σ H Q ⟨B,ρ,hb,r,q⟩=>⟨B,ρ,hb,r,q.bind.mono fun ts qt vs H1 s1 r1=>by
  cases e:h ts with
  |ok t=>rw[e]at qt;exact⟨B,ts,hb.same s1,by rw[dr];exact r1,t,e,fun v H2 s2 r2=>qt v H2 (s1.trans s2) r2⟩
  |exc c=>rw[e]at qt;exact(qt _ (au.refl _)).elim
  |bad=>rw[e]at qt;exact qt.elim⟩
end
end L2
namespace L2
open PySem PySem.Spec PyProof.Rows
section
variable {X:Cx}{a b c e:Expr}{pos:Pos}{F:ax->Rs Tr}{G G':ax->Rs Out}{A:ax->Rs Bool}{st:Stmt}{rest Ld:List Stmt}
def sV(r:Rs Out)(G:ax->Rs Out):Rs Out:=r.bind fun o=>match o with
 |.nx ρ=>G ρ
 |.ret t=>.ok (.ret t)
 |.bk ρ=>.ok (.bk ρ)
 |.ct ρ=>.ok (.ct ρ)
theorem Le:ja X [] (tS X fun ρ=>.ok (.nx ρ)):=xF.weak fun D σ H ⟨C,B0,H0,B,ρ,si,r,q⟩=>q σ B H si r
theorem Hj(h1:PS X st (tS X G))(h2:ja X rest (tS X G')):ja X (st::rest) (tS X fun ρ=>sV (G ρ) G'):=
 (uC h1 h2).weak fun D σ H ⟨C,B0,H0,B,ρ,si,r,q⟩=>⟨C,B0,H0,B,ρ,si,r,q.bind.mono fun o qo=>by
  cases o with
  |nx eG=>exact fun bA B' H' Th r'=>⟨C,B0,H0,B',eG,Th,r',qo⟩
  |ret t=>exact qo
  |bk eG=>exact qo
  |ct eG=>exact qo⟩
theorem Lf(h1:PS X st (tS X G)):ja X [st] (tS X G):=xG h1
def D0(i:Nat)(r:Rs Tr)(ρ:ax):Rs Out:=r.bind fun t=>.ok (.nx (ρ.set i (.sh t)))
theorem kF.here {α:Type}{C B0 B:bD}{H0 H:Hp}{r:Rs α}{k:α->Prop}(h:kF (xS X C B0 H0) r k)(si:cx C B0 H0 B H):Fi X H r k:=h.imp fun _ q H' s'=>q B H' (si.go s')
theorem Fm{C B0 B:bD}{H0 H:Hp}{σ:St}{ρ:ax}{k:Tr->Prop}(si:cx C B0 H0 B H)(r:a7 X.K B H σ ρ)(q:kF (xS X C B0 H0) (F ρ) k){Q:VK}(hq:∀t v H',k t->au H H'->cx C B0 H0 B H'->a7 X.K B H' σ ρ->Rep X.K (aN B H') v t->Q v H'):tP X F σ H Q:=
 ⟨B,ρ,si.hb,r,(q.here si).mono fun t qt v H' s' r'=>hq t v H' qt s' (si.go s') (r.same s') r'⟩
theorem Lg{C B0 B:bD}{H0 H:Hp}{σ:St}{ρ:ax}{k:Bool->Prop}(si:cx C B0 H0 B H)(r:a7 X.K B H σ ρ)(q:kF (xS X C B0 H0) (A ρ) k){Q:Bool->Hp->Prop}(hq:∀b H',k b->au H H'->cx C B0 H0 B H'->a7 X.K B H' σ ρ->Q b H'):tQ X A σ H Q:=
 ⟨B,ρ,si.hb,r,(q.here si).mono fun b qb H' s'=>hq b H' qb s' (si.go s') (r.same s')⟩
theorem Rep.out {K:PySem.W.Frag}{C B0 B:bD}{H0 H:Hp}{v:V}{t:Tr}(r:Rep K (aN B H) v t)(si:cx C B0 H0 B H):Rep K (aN C H) v t:=r.same (pI si.sub)
theorem Lh{i:Nat}{x:Str}{pos':Pos}(he:PE X e (tP X F))(hN:X.N.Nodup:=by assumption) (hi:X.N[i]?=some x:=by rfl) (hx:Loc X.env.scope x:=by first|exact Or.inl rfl|exact Or.inr rfl) (hs:kh e=false:=by rfl) (hf:X.fn x=true\/X.env.scope.names.lookup x=some .local:=by first|exact .inl rfl|exact .inr rfl|assumption):
  PS X (.Assign [.Name x pos'] e pos) (tS X fun ρ=>D0 i (F ρ) ρ):=
 (AZ hN hi hx he (pK hs) hf).weak fun D σ H ⟨C,B0,H0,B,ρ,si,r,q⟩=>Fm si r q.bind fun t v H1 qt s1 Hk r1 rv=>qt _ B H1 Hk (r1.set i rv)
def jl(r:Rs Tr):Rs Out:=r.bind fun t=>.ok (.ret t)
theorem Li(he:PE X e (tP X F)):PS X (.Return (some e) pos) (tS X fun ρ=>jl (F ρ)):=
 (AW he).weak fun D σ H ⟨C,B0,H0,B,ρ,si,r,q⟩=>Fm si r q.bind fun t v H1 qt s1 Hk r1 rv=>qt v B H1 Hk (rv.out Hk)
def Lj(c:Rs Bool)(a b:Rs Out):Rs Out:=c.bind fun k=>if k then a else b
theorem Pw{ys ns:List Stmt}(hc:PT X c (tQ X A))(ha:ja X ys (tS X G))(hb:ja X ns (tS X G')):PS X (.If c ys ns pos) (tS X fun ρ=>Lj (A ρ) (G ρ) (G' ρ)):=
 (E8 hc ha hb).weak fun D σ H ⟨C,B0,H0,B,ρ,si,r,q⟩=>Lg si r q.bind fun k H1 qk s1 Hk r1=>by
  cases k with
  |true=>exact G1 ⟨C,B0,H0,B,ρ,Hk,r1,qk⟩
  |false=>exact G0 ⟨C,B0,H0,B,ρ,Hk,r1,qk⟩
abbrev kn:=Tr->ax->Rs ax
inductive tG(X:Cx)(T:kn)(v:V)(σ:St)(H:Hp)(Q:St->Hp->Prop):Prop
 |mk (B:bD) (ρ:ax) (t:Tr):HB B H->a7 X.K B H σ ρ->Rep X.K (aN B H) v t->(Fi X H (T t ρ) fun eG=>∀bA H',au H H'->a7 X.K B H' bA eG->Q bA H')->tG X T v σ H Q
def gN(i:Nat):kn:=fun t ρ=>.ok (ρ.set i (.sh t))
theorem Hl(i:Nat){x:Str}(hN:X.N.Nodup:=by assumption) (hi:X.N[i]?=some x:=by rfl) (hx:Loc X.env.scope x:=by first|exact Or.inl rfl|exact Or.inr rfl) (hf:X.fn x=true\/X.env.scope.names.lookup x=some .local:=by first|exact .inl rfl|exact .inr rfl|assumption):PG X (.Name x pos) (tG X (gN i)):=by
 intro pins s σ H v u Q I r ⟨B,ρ,t,hb,rs,rt,q⟩;exact sM hN hi hx hf pins s σ H v u Q I r (q _ H (au.refl H) (rs.set i rt))
def wM:List Nat->List Tr->ax->Rs ax
 |[],[],ρ=>.ok ρ
 |i::is,t::ts,ρ=>wM is ts (ρ.set i (.sh t))
 |_,_,_=>.bad
inductive JE(X:Cx)(T:List Tr->ax->Rs ax)(vs:List V)(σ:St)(H:Hp)(Q:St->Hp->Prop):Prop
 |mk (B:bD) (ρ:ax) (ts:List Tr):HB B H->a7 X.K B H σ ρ->aI X.K (aN B H) vs ts->(Fi X H (T ts ρ) fun eG=>∀bA H',au H H'->a7 X.K B H' bA eG->Q bA H')->JE X T vs σ H Q
theorem Ll:Dx X [] (JE X (wM [])):=by
 intro pins s σ H vs us Q I r ⟨B,ρ,ts,hb,rs,rt,q⟩
 match ts,rt,q with
 |[],.nil,q=>exact Dy pins s σ H [] us Q I r ⟨rfl,q σ H (au.refl H) rs⟩
 |_::_,_,q=>exact q.elim
theorem Hm{es:List Expr}{i:Nat}{is:List Nat}{x:Str}(h2:Dx X es (JE X (wM is)))(hN:X.N.Nodup:=by assumption) (hi:X.N[i]?=some x:=by rfl) (hx:Loc X.env.scope x:=by first|exact Or.inl rfl|exact Or.inr rfl) (hf:X.fn x=true\/X.env.scope.names.lookup x=some .local:=by first|exact .inl rfl|exact .inr rfl|assumption)
  (hs:(assignEach (.Name x pos::es) X.env).map (·.2)=assign (.Name x pos) X.env::(assignEach es X.env).map (·.2):=by rfl):Dx X (.Name x pos::es) (JE X (wM (i::is))):=by
 intro pins s σ H vs us Q I r ⟨B,ρ,ts,hb,rs,rt,q⟩
 match ts,rt,q with
 |[],_,q=>exact q.elim
 |t::ts,.cons r1 r2,q=>
  exact AY (sM hN hi hx hf) h2 hs pins s σ H _ us Q I r ⟨_,_,rfl,⟨B,_,ts,hb,rs.set i r1,r2,q⟩⟩
def gT(is:List Nat):kn:=fun t ρ=>match t with
 |.tup ts=>wM is ts ρ
 |_=>.bad
theorem xY:∀{is:List Nat} {ts:List Tr} {ρ eG:ax},wM is ts ρ=.ok eG->ts.length=is.length
 |[],[],_,_,_=>rfl
 |[],_::_,_,_,h=>by cases h
 |_::_,[],_,_,h=>by cases h
 |_::is,_::ts,_,_,h=>by rw[bb,bb,xY (is:=is) (ts:=ts) h]
theorem rN:∀{is:List Nat} {ts:List Tr} {ρ:ax} {c:Tr},wM is ts ρ≠ .exc c
 |[],[],_,_=>fun h=>by cases h
 |[],_::_,_,_=>fun h=>by cases h
 |_::_,[],_,_=>fun h=>by cases h
 |_::is,_::ts,_,_=>rN (is:=is) (ts:=ts)
theorem Lm{es:List Expr}{k:Nat}{is:List Nat}(h:Dx X es (JE X (wM is)))(hc:X.calm=true:=by rfl) (hn:(assignEach es X.env).length=is.length:=by rfl) (cS:(assignEach es X.env).findIdx? (·.1)=none:=by rfl):PG X (.Tuple es k pos) (tG X (gT is)):=by
 intro pins s σ H v u Q I r ⟨B,ρ,t,hb,rs,rt,q⟩;cases rt with
 |tup hq rv=>
  have hq:=Pu (K:=X.K) hq;refine Gn hc h hn cS pins s σ H _ u Q I r ⟨_,_,rfl,(au.tup aD hq),?_,B,ρ,_,hb,rs,rv,q⟩;have q':Fi X H (wM is _ ρ) _:=q;cases e:wM is _ ρ with
  |ok eG=>rw[rv.length];exact xY e
  |exc c=>exact(rN e).elim
  |bad=>rw[e]at q';exact q'.elim
 |_=>exact q.elim
structure jm(K:PySem.W.Frag)(B:bD)(J:It)(H:Hp)(ts:List Tr):Prop where
 go:∀i B' H',i<ts.length->b9 (aN B H) (aN B' H')->HB B' H'->J.go i H'
 xH:∀i B' H' x D1,i<ts.length->b9 (aN B H) (aN B' H')->HB B' H'->J.xH i H' x D1->au H' D1/\∃t,ts[i]?=some t/\Rep K (aN B' D1) x t
 stop:∀B' H',b9 (aN B H) (aN B' H')->J.stop ts.length H'
inductive tI(X:Cx)(W:ax->Rs (List Tr))(σ:St)(H:Hp)(R:It->Hp->Prop):Prop
 |mk (B:bD) (ρ:ax):HB B H->a7 X.K B H σ ρ->(Fi X H (W ρ) fun ts=>∀J H',au H H'->jm X.K B J H' ts->R J H')->tI X W σ H R
def zx(z:Str):List Tr:=z.cps.toList.map fun c=>Tr.str ⟨#[c]⟩
def jn(r:Rs Tr):Rs (List Tr):=r.bind fun t=>match t with
 |.tup ts=>.ok ts
 |.lst ts=>.ok ts
 |.str z=>.ok (zx z)
 |_=>.bad
theorem wN{K:PySem.W.Frag}{B:bD}{H:Hp}{a:Addr}{vs:List V}{ts:List Tr}(h:aN B H a=some (.lst vs))(r:aI K (aN B H) vs ts):jm K B (NF K a) H ts where
 go:=fun i B' H' hi s hb=>by
  have hv:i<vs.length:=by rw[r.length];exact hi
  exact⟨vs,vs[i],g8.of (aD _ _ (s.h _ _ h)),by simp[hv]⟩
 xH:=fun i B' H' x D1 hi s hb ⟨e,y⟩=>by
  subst e;have q:=y vs (g8.of (aD _ _ (s.h _ _ h)));obtain⟨t,e1,r1⟩:=r.wK q;exact⟨au.refl _,t,e1,r1.same s⟩
 stop:=fun B' H' s=>⟨vs,g8.of (aD _ _ (s.h _ _ h)),by rw[r.length];exact ak _⟩
theorem zy{K:PySem.W.Frag}{B:bD}{H:Hp}{a:Addr}{vs:List V}{ts:List Tr}(h:gy K (aN B H) a vs)(r:aI K (aN B H) vs ts):jm K B (Rq K a) H ts where
 go:=fun i B' H' hi s hb=>by
  have hv:i<vs.length:=by rw[r.length];exact hi
  exact⟨vs,vs[i],au.tup aD (s.h.tup h),by simp[hv]⟩
 xH:=fun i B' H' x D1 hi s hb ⟨e,y⟩=>by
  subst e;have q:=y vs (au.tup aD (s.h.tup h));obtain⟨t,e1,r1⟩:=r.wK q;exact⟨au.refl _,t,e1,r1.same s⟩
 stop:=fun B' H' s=>⟨vs,au.tup aD (s.h.tup h),by rw[r.length];exact ak _⟩
theorem zz{K:PySem.W.Frag}{B:bD}{H:Hp}(z:Str):jm K B (NR z) H (zx z) where
 go:=fun i B' H' hi _ _=>by
  have h:i<z.cps.size:=by simpa[zx]using hi
  exact h
 xH:=fun i B' H' x D1 hi s hb ⟨e,c,hc,hx⟩=>by
  subst e;subst hx;refine⟨au.refl _,.str ⟨#[c]⟩,?_,.str _ (by show 1<=hJ;decide)⟩;unfold zx;rw[aS,cy,hc]
  rfl
 stop:=fun B' H' s=>by simp[zx,NR]
theorem D2{pins:List (Addr×Obj)}{σ:St}{H1:Hp}{s1:Shared}{R:It->Hp->Prop}{tg:Expr}{z:Str}{t:Tok}(I1:Inv X pins σ H1 s1)(q:R (NR z) H1):wpAny (model X.prog X.w) X.A (pyIter (.str z t)) (NC X pins σ tg R) X.xe s1:=by
 have fin:∀b∈[s1.heap.objs.size],iL X pins H1 b:=fun b hb=>by
  have e:b=s1.heap.objs.size:=by simpa using hb
  rw[e];exact I1.uD (ak _) (I1.bC.fresh (ak _))
 cases ha:z.cps.all (· <128)
 ·exact wpAny_pyIter_wide ha ⟨s1.heap.objs.size,[s1.heap.objs.size],_,_,H1,rfl,I1.kept (t':=s1.toks) fun b o e=>ay _ e,
   uS (n:="str_iterator") (t:=t) (by decide) (fun A' hA=>Walks.strWide hA _ z t) fun _ _ _ _ _ st hq=>wpAny_pyIter_striter_wide st hq,⟨_,aQ _ rfl,rfl,rfl⟩,fin,q⟩
 ·exact wpAny_pyIter_ascii ha ⟨s1.heap.objs.size,[s1.heap.objs.size],_,_,H1,rfl,I1.kept (t':=s1.toks) fun b o e=>ay _ e,
   uS (n:="str_ascii_iterator") (t:=t) (by decide) (fun A' hA=>Walks.strAscii hA _ z t) fun _ _ _ _ _ st hq=>wpAny_pyIter_striter_ascii st hq,⟨_,aQ _ rfl,rfl,rfl⟩,fin,q⟩
theorem Ln{tg l:Expr}(hl:PE X l (tP X F)):PI X tg l (tI X fun ρ=>jn (F ρ)):=by
 intro pins s σ H R I ⟨B,ρ,hb,r,q⟩;refine dq (hl pins s σ H (fun x H1=>∃t,au H H1/\Rep X.K (aN B H1) x t/\Fi X H (jn (.ok t)) fun ts=>∀J H',au H H'->jm X.K B J H' ts->R J H') I ⟨B,ρ,hb,r,q.bind.mono fun t qt v H1 s1 r1=>⟨t,s1,r1,qt⟩⟩) fun v s1 ⟨x,H1,I1,r1,t,sm,rt,k⟩=>?_
 have k:Fi X H (match t with
  |.tup ts=>.ok ts
  |.lst ts=>.ok ts
  |.str z=>.ok (zx z)
  |_=>.bad) _:=k
 have fin:∀b∈[s1.heap.objs.size],iL X pins H1 b:=fun b hb=>by
  rw[cz.mp hb];exact I1.uD (ak _) (I1.bC.fresh (ak _))
 split at k
 ·obtain⟨a,vs,rfl,h,rr⟩:=rt.cL;cases r1;obtain⟨aT,rv,p,hz⟩:=I1.tuple (au.tup aD h);exact lp (show s1.heap.IsTuple a aT.toArray from p) ⟨s1.heap.objs.size,[s1.heap.objs.size],_,_,H1,rfl,I1.kept (t':=s1.toks) fun b o e=>ay _ e,wt a _,⟨_,aQ _ rfl,rfl,rfl⟩,fin,k _ H1 sm (zy h rr)⟩
 ·obtain⟨a,vs,rfl,h,rr⟩:=rt.lst_inv;cases r1;obtain⟨aT,rv,p,hz⟩:=I1.list (g8.of (aD _ _ h));exact gS p.isList ⟨s1.heap.objs.size,[s1.heap.objs.size],_,_,H1,rfl,I1.kept (t':=s1.toks) fun b o e=>ay _ e,rn a _,⟨_,aQ _ rfl,rfl,rfl⟩,fin,k _ H1 sm (wN h rr)⟩
 ·obtain⟨rfl,_⟩:=rt.str_inv;obtain⟨t,rfl⟩:=(show∃t,v=Value.str _ t from r1);exact D2 I1 (k _ H1 sm (zz _))
 ·exact k.elim
def uW(lo:Int)(n:Nat):List Tr:=(List.range n).map fun k=>Tr.int (lo+(k:Nat))
theorem jo(lo:Int)(n:Nat):(uW lo n).length=n:=by simp[uW]
theorem uX{K:PySem.W.Frag}{B:bD}{H:Hp}(lo:Int)(n:Nat):jm K B (NG lo n) H (uW lo n) where
 go:=fun i B' H' hi _ _=>by rw[jo]at hi;exact hi
 xH:=fun i B' H' x D1 hi s hb ⟨e,y⟩=>by
  subst e;subst y;rw[jo]at hi;refine⟨au.refl _,.int (lo+i),?_,.int _⟩;unfold uW;rw[aS,List.getElem?_range hi]
  rfl
 stop:=fun B' H' s=>by rw[jo];exact ak _
def pO(l:Rs (List Tr)):Rs (List Tr):=l.bind fun ts=>match ts with
 |[.int j]=>if-4611686018427387904<=j/\j<4611686018427387904 then .ok (uW 0 j.toNat)else .bad
 |_=>.bad
theorem PI.weak {tg iter:Expr}{t t':TI}(h:PI X tg iter t)(w:∀σ H R,t' σ H R->t σ H R):PI X tg iter t':=fun pins s σ H R I q=>h pins s σ H R I (w σ H R q)
variable {L:ax->Rs (List Tr)}{tg:Expr}{p:Pos}
theorem Bv(hm:X.mg "range"=none)(ha:PA X [a] (xV X L))(hg:Gl X "range":=by rfl) (hs:aY [a]=true:=by rfl):PI X tg (.Call (.Name "range" p) [a] [] pos) (tI X fun ρ=>pO (L ρ)):=
 (zl hg hm ha (by rw[aU _ _ (aG hs).1];rfl)).weak fun σ H R ⟨B,ρ,hb,r,q⟩=>⟨B,ρ,hb,r,q.bind.mono fun ts qt vs H1 s1 r1=>by
  split at qt
  ·rename_i j;cases r1 with
   |cons h1 r1=>
    cases h1;cases r1;split at qt
    ·rename_i hj;exact⟨j,rfl,by omega,by omega,qt _ H1 s1 (uX 0 _)⟩
    ·exact qt.elim
  ·exact qt.elim⟩
def D3{α:Type}(r:Rs α):Rs α:=match r with
 |.ok a=>.ok a
 |_=>.bad
def lV(ix:List (Option Nat))(ρ:ax):ax:=ix.map fun o=>match o with
 |none=>.no
 |some j=>match ρ[j]? with
  |some (.sh t)=>.sh t
  |_=>.no
theorem a7.comp {K:PySem.W.Frag}{B B':bD}{H H':Hp}{σ:St}{ρ:ax}(ix:List (Option Nat))(h:a7 K B H σ ρ)(s:b9 (aN B H) (aN B' H')):a7 K B' H' (dU ix σ) (lV ix ρ):=by
 have no:∀(i:Nat) (c:Cell),(lV ix ρ)[i]?=some c->c=.no\/∃j t,ix[i]?=some (some j)/\ρ[j]?=some (.sh t)/\c=.sh t:=fun i c e=>by
  unfold lV at e;rw[aS]at e;cases q:ix[i]? with
  |none=>rw[q]at e;cases e
  |some o=>
   rw[q]at e;cases o with
   |none=>exact .inl (Option.some.inj e).symm
   |some j=>
    have e':(match ρ[j]? with|some (Cell.sh t)=>Cell.sh t|_=>Cell.no)=c:=Option.some.inj e;split at e'
    ·rename_i t q2;exact .inr ⟨j,t,rfl,q2,e'.symm⟩
    ·exact .inl e'.symm
 refine⟨by unfold lV dU;rw[ai,ai],fun i t e=>?_,fun i ts e=>?_,fun i j ts us D _ e=>?_⟩
 ·rcases no i _ e with q|⟨j,u,q1,q2,q3⟩
  ·cases q
  ·cases q3;obtain⟨v,e1,r1⟩:=h.sh j t q2;refine⟨v,?_,r1.same s⟩;unfold dU;rw[aS,q1];show some ((σ[j]?).join)=_;rw[e1]
   rfl
 ·rcases no i _ e with q|⟨j,u,q1,q2,q3⟩
  ·cases q
  ·cases q3
 ·rcases no i _ e with q|⟨j,u,q1,q2,q3⟩
  ·cases q
  ·cases q3
def mC(T:kn)(A:ax->Rs Bool)(F:ax->Rs Tr):List Tr->ax->Rs (List Tr)
 |[],_=>.ok []
 |t::ts,ρ=>(D3 (T t ρ)).bind fun ρ1=>(D3 (A ρ1)).bind fun k=>if k then(D3 (F ρ1)).bind fun y=>(mC T A F ts ρ1).bind fun ys=>.ok (y::ys)else mC T A F ts ρ1
def iF(ix:List (Option Nat))(T:kn)(A:ax->Rs Bool)(F:ax->Rs Tr)(l:Rs (List Tr))(ρ:ax):Rs Tr:=l.bind fun ts=>if ts.length<=iE then(mC T A F ts (lV ix ρ)).bind fun ys=>.ok (.lst ys)else .bad
def dW(B:bD)(D:Addr):bD:=⟨fun b=>B.hd b||b==D,B.ix⟩
theorem hX{B:bD}{D:Addr}{H:Hp}{o:HO}(hD:H D=none):b9 (aN B H) (aN (dW B D) (upd H D o)):=⟨fun b u e=>by
 have e1:=aD b u e;have eC:b≠D:=aJ e1 hD;have hB:B.hd b=false:=by
  cases q:B.hd b with
  |false=>rfl
  |true=>
   have e2:(if B.hd b=true then none else H b)=some u:=e;rw[q,ab rfl]at e2;cases e2
 rw[cq (show(B.hd b||b==D)=false by rw[hB,du eC];rfl),ah eC];exact e1,fun _ _ e=>e⟩
theorem xZ{B:bD}{D:Addr}{H:Hp}{o:HO}(h:HB B H)(hD:H D=none)(ho:∀vs,o≠ .tup vs:=by exact fun _ z=>by cases z):HB (dW B D) (upd H D o):=fun b e=>by
 by_cases q:b=D
 ·subst q;exact⟨o,aF,ho⟩
 ·have e':(B.hd b||b==D)=true:=e;rw[du q,lE]at e';rw[ah q];exact h b e'
theorem rO{B:bD}{D:Addr}:(dW B D).hd D=true:=by show(B.hd D||D==D)=true;rw[br,Bool.or_true]
theorem hZ{B:bD}{D:Addr}{H:Hp}{o:HO}:aN (dW B D) (upd H D o)=aN (dW B D) H:=by
 unfold aN;congr 1;funext b;by_cases q:b=D
 ·subst q;rw[ab rO,ab rO]
 ·rw[ah q]
theorem D4{B:bD}{D:Addr}:ni B (dW B D):=⟨fun b e=>by show(B.hd b||b==D)=true;rw[e,lI],fun _ _ e=>e⟩
theorem Bw{B:bD}{D:Addr}{H:Hp}:b9 (aN (dW B D) H) (aN B H):=pI D4
def de(ρ:ax):Prop:=∀(i:Nat) (ts:List Tr),ρ[i]? ≠some (.ow ts)
def h8(T:kn):Prop:=∀t ρ eG,de ρ->T t ρ=.ok eG->de eG
theorem de.set {ρ:ax}(h:de ρ)(i:Nat)(t:Tr):de (ρ.set i (.sh t)):=fun j ts e=>by
 rcases fQ e with⟨_,_,q⟩|⟨_,q⟩
 ·cases q
 ·exact h j ts q
theorem fz(i:Nat):h8 (gN i):=fun t ρ eG h e=>by cases e;exact h.set i t
theorem x6:∀{is:List Nat} {ts:List Tr} {ρ eG:ax},de ρ->wM is ts ρ=.ok eG->de eG
 |[],[],_,_,h,e=>by cases e;exact h
 |[],_::_,_,_,_,e=>by cases e
 |_::_,[],_,_,_,e=>by cases e
 |i::is,t::ts,_,_,h,e=>x6 (is:=is) (ts:=ts) (h.set i t) e
theorem wO(is:List Nat):h8 (gT is):=fun t ρ eG h e=>by
 cases t with
 |tup ts=>exact x6 h e
 |_=>cases e
theorem nZ(ix:List (Option Nat))(ρ:ax):de (lV ix ρ):=fun i ts e=>by
 unfold lV at e;rw[aS]at e;cases q:ix[i]? with
 |none=>rw[q]at e;cases e
 |some o=>
  rw[q]at e;cases o with
  |none=>cases e
  |some j=>
   have e':(match ρ[j]? with|some (Cell.sh t)=>Cell.sh t|_=>Cell.no)=.ow ts:=Option.some.inj e;split at e'<;>cases e'
theorem kF.eq {α:Type}{xc:Tr->Prop}{r:Rs α}{k:α->Prop}(h:kF xc r k):kF xc r fun a=>r=.ok a/\k a:=by
 cases r with
 |ok a=>exact⟨rfl,h⟩
 |_=>exact h
theorem wQ{α:Type}{xc:Tr->Prop}{r:Rs α}{k:α->Prop}(h:kF xc (D3 r) k):∃a,r=.ok a/\k a:=by
 cases r with
 |ok a=>exact⟨a,rfl,h⟩
 |_=>exact h.elim
inductive Fo(K:PySem.W.Frag)(F:ax->Rs Tr)(σ:St)(H:Hp)(Q:VK):Prop
 |mk (B:bD) (ρ:ax):HB B H->a7 K B H σ ρ->(∃t,F ρ=.ok t/\∀v H',au H H'->Rep K (aN B H') v t->Q v H')->Fo K F σ H Q
inductive Fp(K:PySem.W.Frag)(F:ax->Rs Bool)(σ:St)(H:Hp)(Q:Bool->Hp->Prop):Prop
 |mk (B:bD) (ρ:ax):HB B H->a7 K B H σ ρ->(∃b,F ρ=.ok b/\∀H',au H H'->Q b H')->Fp K F σ H Q
inductive Fq(K:PySem.W.Frag)(T:kn)(v:V)(σ:St)(H:Hp)(Q:St->Hp->Prop):Prop
 |mk (B:bD) (ρ:ax) (t:Tr):HB B H->a7 K B H σ ρ->Rep K (aN B H) v t->(∃eG,T t ρ=.ok eG/\∀bA H',au H H'->a7 K B H' bA eG->Q bA H')->Fq K T v σ H Q
theorem Hn{X:Cx}{F:ax->Rs Tr}{σ:St}{H:Hp}{Q:VK}:Fo X.K F σ H Q->tP X F σ H Q:=fun⟨B,ρ,hb,r,t,e,q⟩=>⟨B,ρ,hb,r,by rw[e];exact q⟩
theorem Ho{X:Cx}{F:ax->Rs Bool}{σ:St}{H:Hp}{Q:Bool->Hp->Prop}:Fp X.K F σ H Q->tQ X F σ H Q:=fun⟨B,ρ,hb,r,t,e,q⟩=>⟨B,ρ,hb,r,by rw[e];exact q⟩
theorem Hq{X:Cx}{T:kn}{v:V}{σ:St}{H:Hp}{Q:St->Hp->Prop}:Fq X.K T v σ H Q->tG X T v σ H Q:=fun⟨B,ρ,t,hb,r,rt,eG,e,q⟩=>⟨B,ρ,t,hb,r,rt,by rw[e];exact q⟩
theorem n5{K:PySem.W.Frag}{J:It}{D:Addr}{B:bD}{H:Hp}{NO:St}{NU:ax}{ts:List Tr}{T:kn}{A:ax->Rs Bool}{F:ax->Rs Tr}{Q:Hp->Prop}(hT:h8 T)(h0:de NU)(hb:HB B H)(gt:jm K B J H ts)(hz:ts.length<=iE)(r:a7 K (dW B D) (upd H D (.lst [])) NO NU)(hD:H D=none)
  {xc:Tr->Prop} {k:List Tr->Prop} (q:kF xc (mC T A F ts NU) k) (hQ:∀ys H',k ys->au H H'->Rep K (aN B H') (.ref D) (.lst ys)->Q H'):Pl J D NO (upd H D (.lst [])) (Fq K T) (Fp K A) (Fo K F) Q:=by
 refine⟨fun i m σ H'=>m=ts.length - i/\i<=ts.length/\au H H'/\HB (dW B D) H'/\b9 (aN B H) (aN (dW B D) H')/\∃ρ vs us,de ρ/\a7 K (dW B D) H' σ ρ/\H' D=some (.lst vs)/\vs.length<=i/\aI K (aN (dW B D) H') vs us/\kF xc (mC T A F (ts.drop i) ρ) (fun ys=>k (us++ys)),
  ⟨_,rfl,bx _,au.upd hD,xZ hb hD,hX hD,NU,[],[],h0,r,aF,ak _,.nil,q⟩,?_⟩
 rintro i m σ H' ⟨rfl,hi,sm,jQ,fy,ρ,vs,us,no,rs,hd,hl,rv,q'⟩
 by_cases eB:i<ts.length
 ·rw[kJ eB]at q';refine .inr ⟨gt.go i _ H' eB fy jQ,fun qW H2=>au H H2/\HB (dW B D) H2/\b9 (aN B H) (aN (dW B D) H2)/\∃ρ vs us,de ρ/\a7 K (dW B D) H2 qW ρ/\H2 D=some (.lst vs)/\vs.length<=i+1/\aI K (aN (dW B D) H2) vs us/\kF xc (mC T A F (ts.drop (i+1)) ρ) (fun ys=>k (us++ys)),
   fun qW H2 h=>⟨ts.length - (i+1),by omega,rfl,eB,h⟩,fun x H2 hx=>?_⟩
  obtain⟨s2,t,et,rt⟩:=gt.xH i _ H' x H2 eB fy jQ hx;have Lo:ts[i]=t:=by rw[aH eB]at et;exact Option.some.inj et
  rw[Lo]at q';obtain⟨ρ1,eT,q1⟩:=wQ (kF.bind q');have Px:=hT t ρ ρ1 no eT;refine⟨_,ρ,t,jQ.same s2,rs.same s2,rt,ρ1,eT,fun wq H3 s3 r3=>?_⟩;have RD:=s2.trans s3;obtain⟨c,eA,qc⟩:=wQ (kF.bind q1);refine⟨_,ρ1,jQ.same RD,r3,c,eA,fun H4 s4=>?_⟩;have Hr:=RD.trans s4;have g4:au H H4:=sm.trans Hr;cases c with
  |false=>
   exact G0 ⟨g4,jQ.same Hr,fy.trans (aV Hr),ρ1,vs,us,Px,r3.same s4,Hr _ _ hd,by omega,rv.same (aV Hr),qc⟩
  |true=>
   obtain⟨y,eF,qy⟩:=wQ (kF.bind qc);refine G1 ⟨_,ρ1,jQ.same Hr,r3.same s4,y,eF,fun v H5 s5 r5=>?_⟩;have Lp:=Hr.trans s5;refine⟨vs,Lp _ _ hd,by rw[<-gE];omega,(sm.trans Lp).Hd hD,?_,?_,ρ1,vs++[v],us++[y],Px,?_,aF,by rw[ba];exact Nat.add_le_add_right hl 1,?_,?_⟩
   ·intro b e;by_cases q:b=D
    ·subst q;exact⟨_,aF,fun _ z=>by cases z⟩
    ·rw[ah q];exact(jQ.same Lp) b e
   ·rw[hZ];exact fy.trans (aV Lp)
   ·have Py:=(r3.same s4).same s5;refine⟨Py.len,fun i t e=>?_,fun i ts e=>(Px i ts e).elim,Py.ap⟩;rw[hZ];exact Py.sh i t e
   ·rw[hZ];exact(rv.same (aV Lp)).append (.cons r5 .nil)
   ·exact(kF.bind qy).mono fun ys q=>by rw[gw];exact q
 ·have e:i=ts.length:=by omega
  subst e;rw[iW]at q';refine .inl ⟨gt.stop _ H' fy,hQ us H' (by have:=(show k (us++[])from q');rw[dr]at this;exact this) sm (.lst ?_ (rv.same Bw))⟩;rw[cq (hb.free hD)];exact hd
variable {scope:Scope}{N':List Str}{ix:List (Option Nat)}{elt iter:Expr}{ifs:List Expr}{T:kn}{W:ax->Rs (List Tr)}
theorem Lq{X:Cx}:PF X [] (tQ X fun _=>.ok true):=fun pins s σ H Q I ⟨B,ρ,hb,r,q⟩=>Bq pins s σ H Q I (q H (au.refl H))
theorem Lr{X:Cx}{c:Expr}{A:ax->Rs Bool}(h:PT X c (tQ X A)):PF X [c] (tQ X A):=Ha h
theorem Bx{σ:St}{H:Hp}{Q:VK}(hT:h8 T)(q:tP X (fun ρ=>iF ix T A F (W ρ) ρ) σ H Q):JD (tI X W) ix (Fq X.K T) (Fp X.K A) (Fo X.K F) σ H Q:=by
 obtain⟨B,ρ,hb,r,q⟩:=q;refine⟨B,ρ,hb,r,q.bind.mono fun ts qt J H1 s1 gt D hD=>?_⟩;by_cases hz:ts.length<=iE
 ·rw[ab hz]at qt;exact n5 hT (nZ ix ρ) (hb.same s1) gt hz ((r.same s1).comp ix (hX hD)) hD (Fi.bind qt) fun ys H' k s' rp=>k _ H' (s1.trans s') rp
 ·rw[ae hz]at qt;exact qt.elim
structure Hs(X:Cx)(scope:Scope)(N':List Str)(tg elt:Expr)(ifs:List Expr)(T:kn)(A:ax->Rs Bool)(F:ax->Rs Tr):Prop where
 all:∀s H ex,PG (kE X scope N' s H ex) tg (tG (kE X scope N' s H ex) T)/\PF (kE X scope N' s H ex) ifs (tQ (kE X scope N' s H ex) A)/\PE (kE X scope N' s H ex) elt (tP (kE X scope N' s H ex) F)
theorem Hs.NV {X:Cx}{scope:Scope}{N':List Str}{tg elt:Expr}{ifs:List Expr}{T:kn}{A:ax->Rs Bool}{F:ax->Rs Tr}(h:Hs X scope N' tg elt ifs T A F):∀s H ex,PG (kE X scope N' s H ex) tg (Fq X.K T)/\PF (kE X scope N' s H ex) ifs (Fp X.K A)/\PE (kE X scope N' s H ex) elt (Fo X.K F):=fun s H ex=>by
 obtain⟨h1,h2,h3⟩:=h.all s H ex;exact⟨fun pins s σ H v u Q I r q=>h1 pins s σ H v u Q I r (Hq q),fun pins s σ H Q I q=>h2 pins s σ H Q I (Ho q),fun pins s σ H Q I q=>h3 pins s σ H Q I (Hn q)⟩
theorem Pz(Lk:fN X N' ix scope)(hi:PI X tg iter (tI X W))(lT:Hs X scope N' tg elt ifs T A F)(hT:h8 T)(hc:X.calm=true:=by rfl) (hs:isSet iter=false:=by rfl):
  PE X (.ListComp elt [⟨tg,iter,ifs,0⟩] scope pos) (tP X fun ρ=>iF ix T A F (W ρ) ρ):=
 (Br Lk hc hi lT.NV (dA hs)).weak fun σ H Q q=>Bx hT q
def fh(r:Rs Out):Rs Tr:=r.bind fun o=>match o with
 |.nx _=>.ok .bU
 |.ret t=>.ok t
 |_=>.bad
theorem q_.Ti {P:Program}{w:World}{K:PySem.W.Frag}{mg:Str->Option Value}{base:Heap}{x qual:Str}{st:Stmt}{f:Addr}{fd:FuncData}{N ps:List Str}{k:Nat}{h:List Tr->Rs Tr}(Fn:q_ K x qual st f fd)(S:c_ N ps (aE st))(len:∀ts t,h ts=.ok t->ts.length=ps.length)
  (f':∀(cE:Value) (A:Around) (outer:List Env) (s:Shared) (H:Hp) (E:XK),cM k (A.deeper (envOfC qual (aE st) s.heap.objs.size f cE))->
   ∃G,ja (iM kc P w K mg base N qual (aE st) f cE A outer s H E).AE (cF st) (tS (iM kc P w K mg base N qual (aE st) f cE A outer s H E).AE G)/\∀ts t,h ts=.ok t->fh (G (startT N.length ts))=.ok t):fg P w K mg base kc (k+1) f fd ps (spT K h):=by
 refine Fn.ok S (fun vs H Q E q=>?_) (fun cE A outer s H vs Q E hr q=>?_)
 ·obtain⟨B,ts,hb,r,t,e,_⟩:=q;rw[r.length];exact len ts t e
 ·obtain⟨B,ts,hb,r,t,e,q⟩:=q;obtain⟨G,hG,hE⟩:=f' cE A outer s H E hr;refine⟨_,hG,B,B,H,B,startT N.length ts,cx.refl hb ni.refl,a7.start r,?_⟩;have e1:=hE ts t e;cases eo:G (startT N.length ts)with
  |ok o=>
   rw[eo]at e1;cases o with
   |nx ρ=>cases e1;exact fun bA B' H' si r'=>q .bU H' si.same .bU
   |ret u=>cases e1;exact fun v B' H' si r'=>q v H' si.same r'
   |_=>cases e1
  |_=>rw[eo]at e1;cases e1
end
end L2
namespace L2
open PySem PySem.Spec PyProof.Rows
section
variable {X:Cx}
theorem D5:qP X (binaryOp .Add) (fun x y H Q=>∃(a b:Addr) (xs ys:List V),x=.ref a/\y=.ref b/\gy X.K H a xs/\gy X.K H b ys/\xs.length+ys.length<=sizeLine/\(xs=[]->Q (.ref b) H)/\(ys=[]->Q (.ref a) H)/\∀p,H p=none->Q (.ref p) (upd H p (.tup (xs++ys)))):=by
 intro pins s σ H x y v u Q I rx ry h;obtain⟨a,b,xs,ys,rfl,rfl,ha,hb,hz,q1,q2,q3⟩:=h;by_cases hx:xs=[]
 ·subst hx;cases(show v=Value.ref a from rx);cases(show u=Value.ref b from ry);obtain⟨i1,r1,p1,_⟩:=I.tuple ha;obtain⟨i2,r2,p2,_⟩:=I.tuple hb;cases r1;obtain⟨dd,n,sl,h1⟩:=mK p1;obtain⟨Dm,n2,Fd,h2⟩:=mK p2;exact concat_meets ⟨_,h1,rfl⟩ ⟨_,h2,rfl⟩ noFill_tuple_add seq_tuple_add oB oA (oz _ _) (tuple_addW0 a b _ _ n n2 dd Dm sl Fd rfl) ⟨h1,h2,⟨.ref b,H,I,rfl,q1 rfl⟩⟩
 ·exact DG pins s σ H _ _ v u Q I rx ry ⟨a,b,xs,ys,rfl,rfl,ha,hb,hx,hz,q2,fun _ p hp=>q3 p hp⟩
theorem Rep.up {K:PySem.W.Frag}{B:bD}{H:Hp}{v:V}{t:Tr}(r:Rep K (aN B H) v t):Rep K (raw B H) v t:=r.same nX
theorem gy.up {K:PySem.W.Frag}{B:bD}{H:Hp}{a:Addr}{xs:List V}(h:gy K (aN B H) a xs):gy K H a xs:=au.tup aD h
theorem eO{B:bD}{H:Hp}{a:Addr}{o:HO}(h:aN B H a=some o):H a=some o:=aD _ _ h
theorem Rep.Ls {K:PySem.W.Frag}{B:bD}{H:Hp}{p:Addr}{vs:List V}{ts:List Tr}(hb:HB B H)(hp:H p=none)(r:aI K (aN B H) vs ts):Rep K (aN B (upd H p (.tup vs))) (.ref p) (.tup ts):=.tup (hb.new hp) (r.same (aV (au.upd hp)))
theorem Rep.wR {K:PySem.W.Frag}{B:bD}{H:Hp}{p:Addr}{vs:List V}{ts:List Tr}(hb:HB B H)(hp:H p=none)(r:aI K (aN B H) vs ts):Rep K (aN B (upd H p (.lst vs))) (.ref p) (.lst ts):=.lst (hb.new hp) (r.same (aV (au.upd hp)))
theorem uY{K:PySem.W.Frag}{H:Vw}{ts:List Tr}(h:aI K H [] ts):ts=[]:=by cases h;rfl
theorem Ht{a b:Str}(h:a.length+b.length<=hJ):(a++b).length<=hJ:=by rw[PySem.Str.length_append];exact h
def fi:Tr->Tr->Rs Tr
 |.int i,.int j=>.ok (.int (i+j))
 |.str a,.str b=>if a.length+b.length<=hJ then .ok (.str (a++b))else .bad
 |.tup a,.tup b=>if a.length+b.length<=iE then .ok (.tup (a++b))else .bad
 |.lst a,.lst b=>if a.length+b.length<=iE then .ok (.lst (a++b))else .bad
 |_,_=>.bad
theorem fj{α:Type}{H:Hp}{c:Prop}[Decidable c]{t:α}{k:α->Prop}(h:Fi X H (if c then Rs.ok t else .bad) k):c/\k t:=by
 by_cases hc:c
 ·rw[ab hc]at h;exact⟨hc,h⟩
 ·rw[ae hc]at h;exact h.elim
theorem lW:uV X (binaryOp .Add) fi:=by
 intro pins s σ H x y v u Q I rx ry ⟨B,tx,ty,hb,r1,r2,q⟩;unfold fi at q;split at q
 ·exact Gs pins s σ H _ _ v u Q I rx ry ⟨_,_,r1.int_inv,r2.int_inv,q _ H (au.refl H) (.int _)⟩
 ·have f:=fj q;exact wB pins s σ H _ _ v u Q I rx ry ⟨_,_,r1.str_inv.1,r2.str_inv.1,bo f.1 nY,f.2 _ H (au.refl H) (.str _ (Ht f.1))⟩
 ·have f:=fj q;obtain⟨a,as,e1,h1,By⟩:=r1.cL;obtain⟨b,bs,e2,h2,JF⟩:=r2.cL;exact D5 pins s σ H _ _ v u Q I rx ry ⟨_,_,_,_,e1,e2,h1.up,h2.up,by rw[By.length,JF.length,<-gE];exact f.1,fun e=>f.2 _ H (au.refl H) (by subst e;rw[uY By,<-e2];exact r2),fun e=>f.2 _ H (au.refl H) (by subst e;rw[uY JF,dr,<-e1];exact r1),fun p hp=>f.2 _ _ (au.upd hp) (.Ls hb hp (By.append JF))⟩
 ·have f:=fj q;obtain⟨a,as,e1,h1,By⟩:=r1.lst_inv;obtain⟨b,bs,e2,h2,JF⟩:=r2.lst_inv;exact GL pins s σ H _ _ v u Q I rx ry ⟨_,_,_,_,e1,e2,eO h1,eO h2,by rw[By.length,JF.length,<-gE];exact f.1,fun p hp=>f.2 _ _ (au.upd hp) (.wR hb hp (By.append JF))⟩
 ·exact(show False from q).elim
def ra:Tr->Tr->Rs Tr
 |.int i,.int j=>if 0<j then .ok (.int (i % j))else .bad
 |_,_=>.bad
theorem Bz:uV X (binaryOp .Mod) ra:=by
 intro pins s σ H x y v u Q I rx ry ⟨B,tx,ty,hb,r1,r2,q⟩;unfold ra at q;split at q
 ·have f:=fj q;exact Gv pins s σ H _ _ v u Q I rx ry ⟨_,_,r1.int_inv,r2.int_inv,f.1,f.2 _ H (au.refl H) (.int _)⟩
 ·exact(show False from q).elim
def pP(i j:Int):Prop:=(-18446744073709551616<i/\i<18446744073709551616)\/(-18446744073709551616<j/\j<18446744073709551616)
theorem pP.cm {i j:Int}(h:pP i j):A8 i j:=by
 unfold pP at h;unfold A8;omega
instance (i j:Int):Decidable (pP i j):=by unfold pP;infer_instance
def jq:Tr->Tr->Rs Tr
 |.int i,.int j=>if pP i j then .ok (.int (i*j))else .bad
 |.str z,.int n=>if 0<=n/\n<=1000/\z.length<=1000 then .ok (.str (Txt.mul z n))else .bad
 |.lst ts,.int n=>if 0<=n/\n<=1000/\ts.length*n.toNat<=iE then .ok (.lst (List.replicate n.toNat ts).flatten)else .bad
 |_,_=>.bad
theorem D6:qP X (binaryOp .Mult) (fun x y H Q=>∃(l:Addr) (k:Int) (xs:List V),x=.ref l/\y=.int k/\H l=some (.lst xs)/\-(2 ^63)<=k/\k<2 ^63/\xs.length*k.toNat<=sizeLine/\∀p,H p=none->Q (.ref p) (upd H p (.lst (List.replicate k.toNat xs).flatten))):=GN
theorem D7{z:Str}{n:Int}(h0:0<=n)(h1:n<=1000)(hz:z.length<=1000):(Txt.mul z n).length<=hJ:=by
 have e:=PyProof.Rows.len_mul z n;split at e
 ·have:((Txt.mul z n).length:Int)=0:=e;unfold hJ;omega
 ·have h2:(z.length:Int)*n<=1000*1000:=Int.mul_le_mul (by omega) h1 h0 (by decide);have e':((Txt.mul z n).length:Int)=(z.length:Int)*n:=e;unfold hJ;omega
theorem uZ:uV X (binaryOp .Mult) jq:=by
 intro pins s σ H x y v u Q I rx ry ⟨B,tx,ty,hb,r1,r2,q⟩;unfold jq at q;split at q
 ·have f:=fj q;exact Gu pins s σ H _ _ v u Q I rx ry ⟨_,_,r1.int_inv,r2.int_inv,f.1.cm,f.2 _ H (au.refl H) (.int _)⟩
 ·have f:=fj q;exact DU pins s σ H _ _ v u Q I rx ry ⟨_,_,r1.str_inv.1,r2.int_inv,PyProof.Rows.mulOk_of 1000 1000 f.1.2.2 f.1.2.1 (Int.le_trans (by decide) f.1.1) (by decide) (by decide),f.2 _ H (au.refl H) (.str _ (D7 f.1.1 f.1.2.1 f.1.2.2))⟩
 ·have f:=fj q;obtain⟨a,as,e1,h1,By⟩:=r1.lst_inv;exact D6 pins s σ H _ _ v u Q I rx ry ⟨_,_,_,e1,r2.int_inv,eO h1,Int.le_trans (by decide) f.1.1,Int.lt_of_le_of_lt f.1.2.1 (by decide),by rw[By.length,<-gE];exact f.1.2.2,fun p hp=>f.2 _ _ (au.upd hp) (.wR hb hp (By.rep _))⟩
 ·exact(show False from q).elim
end
end L2
namespace L2
open PySem PySem.Spec PyProof.Rows
mutual
def eqT:Tr->Tr->Bool
 |.bU,.bU=>true
 |.bl a,.bl b=>a==b
 |.bl a,.int b=>(if a then 1 else 0)==b
 |.int a,.bl b=>a==(if b then 1 else 0)
 |.int a,.int b=>a==b
 |.str a,.str b=>a==b
 |.tup a,.tup b=>wU a b
 |.lst a,.lst b=>wU a b
 |_,_=>false
def wU:List Tr->List Tr->Bool
 |[],[]=>true
 |x::xs,y::ys=>eqT x y&&wU xs ys
 |_,_=>false
end
mutual
def sW:Tr->Bool
 |.bU=>true
 |.bl _=>true
 |.int _=>true
 |.str _=>true
 |.tup ts=>pQ ts
 |.lst ts=>pQ ts
 |_=>false
def pQ:List Tr->Bool
 |[]=>true
 |t::ts=>sW t&&pQ ts
end
mutual
def dT:Tr->Nat
 |.tup ts=>Hv ts+1
 |.lst ts=>Hv ts+1
 |_=>0
def Hv:List Tr->Nat
 |[]=>0
 |t::ts=>max (dT t) (Hv ts)
end
theorem jr:∀{ts:List Tr},pQ ts=true->∀t∈ts,sW t=true
 |[],_,t,h=>nomatch h
 |u::us,h,t,m=>by
  rw[pQ,aM]at h;rcases aO.mp m with rfl|m
  ·exact h.1
  ·exact jr h.2 t m
theorem sX:∀{ts:List Tr},∀t∈ts,dT t<=Hv ts
 |[],t,h=>nomatch h
 |u::us,t,m=>by
  rw[Hv];rcases aO.mp m with rfl|m
  ·exact Nat.le_max_left _ _
  ·exact bo (sX t m) (Nat.le_max_right _ _)
theorem u4:∀(xs ys:List Tr),((List.range (min xs.length ys.length)).all (fun j=>eqT (xs.getD j .bU) (ys.getD j .bU))&&xs.length==ys.length)=wU xs ys
 |[],[]=>rfl
 |[],y::ys=>rfl
 |x::xs,[]=>rfl
 |x::xs,y::ys=>by
  have ih:=u4 xs ys;rw[wU,<-ih,bb,bb,Nat.succ_min_succ,List.range_succ_eq_map,fW,List.all_map,Bool.and_assoc];congr 1;have e1:(xs.length+1==ys.length+1)=(xs.length==ys.length):=by rw[Bool.eq_iff_iff,g6,g6];omega
  rw[e1]
  rfl
section
variable {A:Around}{s:Shared}
theorem D8{v u:Value}{k:Bool}(hv:∀b t,v≠Value.float b t)(hs:v=u->k=true)(h:SeqAt.RcAt A s v u k):SeqAt.EqAt A s v u k:=fun prog w E Q hq=>by
 unfold eqBool;refine cn ?_
 refine gx (fun rb=>?_) (fun _=>?_)
 ·rw[hs (eq_of_beq rb)]at hq;exact aa (dR (af hq))
 ·cases v with
  |float b t=>exact absurd rfl (hv b t)
  |_=>exact aa (h prog w E _ (iY hq))
end
section
variable {X:Cx}{pins:List (Addr×Obj)}{σ:St}{H:Hp}{x8:Addr->Option Nat}{s:Shared}
theorem nk(I:Inv X pins σ H s){a:Addr}{vs ws:List V}(h1:gy X.K H a vs)(h2:H a=some (.lst ws)):False:=by
 obtain⟨_,_,⟨o,e,c,_⟩,_⟩:=I.tuple h1;obtain⟨_,aT,n,_,e2⟩:=I.bC a _ h2;rw[e]at e2;cases e2;exact absurd c (by show¬(Value.type "list"=.type "tuple");decide+kernel)
def vT:V->Tr
 |.bU=>.bU
 |.bl b=>.bl b
 |.int i=>.int i
 |.str z=>.str z
 |_=>.at 0
theorem js{K:PySem.W.Frag}{W:Vw}{x:V}{t:Tr}(r:Rep K W x t)(p:sW t=true):(∃ts,t=.tup ts)\/(∃ts,t=.lst ts)\/t=vT x:=by
 cases r<;>first|(cases p;done)|exact .inr (.inr rfl)|exact .inl ⟨_,rfl⟩|exact .inr (.inl ⟨_,rfl⟩)
theorem lX{K:PySem.W.Frag}{W:Vw}{x:V}{t t':Tr}(e:t=vT x)(p:sW t=true)(p':sW t'=true)(r':Rep K W x t'):t=t':=by
 rcases js r' p' with⟨ts,rfl⟩|⟨ts,rfl⟩|e'
 ·obtain⟨a,_,rfl,_⟩:=r'.cL;rw[e]at p;cases p
 ·obtain⟨a,_,rfl,_⟩:=r'.lst_inv;rw[e]at p;cases p
 ·rw[e,e']
theorem D9(I:Inv X pins σ H s):∀(n:Nat) {x:V} {t t':Tr},dT t<=n->sW t=true->sW t'=true->Rep X.K (⟨H,x8⟩:Vw) x t->Rep X.K (⟨H,x8⟩:Vw) x t'->t=t':=by
 intro n
 induction n with
 |zero=>
  intro x t t' hd p p' r r';rcases js r p with⟨ts,rfl⟩|⟨ts,rfl⟩|e
  ·exact absurd hd (Nat.not_succ_le_zero _)
  ·exact absurd hd (Nat.not_succ_le_zero _)
  ·exact lX e p p' r'
 |succ n ih=>
  intro x t t' hd p p' r r';have go:∀{vs:List V} {ts pR:List Tr},Hv ts<=n->pQ ts=true->pQ pR=true->aI X.K (⟨H,x8⟩:Vw) vs ts->aI X.K (⟨H,x8⟩:Vw) vs pR->ts=pR:=by
   intro vs ts pR k1 k2 k3;have h1:=fun t m=>bo (sX (ts:=ts) t m) k1;have h2:=jr k2;have h3:=jr k3
   clear hd p p' r r' k1 k2 k3
   induction vs generalizing ts pR with
   |nil=>intro q q';cases q;cases q';rfl
   |cons v vs Tj=>
    intro(.cons qh qr) (.cons Tn To);rw[List.forall_mem_cons]at h1 h2 h3;rw[ih h1.1 h2.1 h3.1 qh Tn,Tj h1.2 h2.2 h3.2 qr To]
  rcases js r p with⟨ts,rfl⟩|⟨ts,rfl⟩|e
  ·rcases js r' p' with⟨pR,rfl⟩|⟨pR,rfl⟩|e
   ·obtain⟨a,vs,rfl,h,rr⟩:=r.cL;obtain⟨_,D_,e,h',u5⟩:=r'.cL;cases e;cases I.jP h h';rw[go (Nat.le_of_succ_le_succ hd) p p' rr u5]
   ·obtain⟨a,vs,rfl,h,rr⟩:=r.cL;obtain⟨_,D_,e,h',u5⟩:=r'.lst_inv;cases e;exact(nk I h h').elim
   ·exact(lX e p' p r).symm
  ·rcases js r' p' with⟨pR,rfl⟩|⟨pR,rfl⟩|e
   ·obtain⟨a,vs,rfl,h,rr⟩:=r.lst_inv;obtain⟨_,D_,e,h',u5⟩:=r'.cL;cases e;exact(nk I h' h).elim
   ·obtain⟨a,vs,rfl,h,rr⟩:=r.lst_inv;obtain⟨_,D_,e,h',u5⟩:=r'.lst_inv;cases e;cases h.symm.trans h';rw[go (Nat.le_of_succ_le_succ hd) p p' rr u5]
   ·exact(lX e p' p r).symm
  ·exact lX e p p' r'
mutual
theorem u6:∀{t:Tr},sW t=true->eqT t t=true
 |.bU,_=>rfl
 |.bl b,_=>by rw[eqT];exact br b
 |.int i,_=>by rw[eqT];exact br i
 |.str z,_=>by rw[eqT];exact br z
 |.tup ts,h=>by rw[eqT];rw[sW]at h;exact mM h
 |.lst ts,h=>by rw[eqT];rw[sW]at h;exact mM h
 |.ty _,h=>by cases h
 |.j1 _,h=>by cases h
 |.ji _,h=>by cases h
 |.at _,h=>by cases h
 |.aX _,h=>by cases h
 |.ob _ _,h=>by cases h
 |.xT _,h=>by cases h
theorem mM:∀{ts:List Tr},pQ ts=true->wU ts ts=true
 |[],_=>rfl
 |t::ts,h=>by
  rw[pQ,aM]at h;rw[wU,u6 h.1,mM h.2]
  rfl
end
theorem x9{α:Type}{l:List α}{j:Nat}{x d:α}(h:l[j]?=some x):l.getD j d=x:=by rw[bt,h];rfl
inductive Sh(K:PySem.W.Frag)(G:Vw)(h:Heap):Tr->Value->Prop
 |bU:Sh K G h .bU .none
 |bl (b:Bool):Sh K G h (.bl b) (.bool b)
 |int (b:Int) (w:Tok):Sh K G h (.int b) (.int b w)
 |str (b:Str) (w:Tok):Sh K G h (.str b) (.str b w)
 |tup {a:Addr} {vs:List V} {ts:List Tr} {us:List Value} (q:h.IsTuple a us.toArray) (rr:aI K G vs ts) (rv:Vals vs us):Sh K G h (.tup ts) (.ref a)
 |lst {a:Addr} {vs:List V} {ts:List Tr} {us:List Value} (q:h.IsList a us.toArray) (rr:aI K G vs ts) (rv:Vals vs us):Sh K G h (.lst ts) (.ref a)
theorem sY(I:Inv X pins σ H s){x:V}{v:Value}{t:Tr}(p:sW t=true)(r:Rep X.K (⟨H,x8⟩:Vw) x t)(rx:RelV x v):Sh X.K ⟨H,x8⟩ s.heap t v:=by
 cases r with
 |bU=>cases(show v=Value.none from rx);exact .bU
 |bl b=>cases(show v=Value.bool b from rx);exact .bl b
 |int b=>obtain⟨w,rfl⟩:=(show∃t,v=Value.int b t from rx);exact .int b w
 |str b _=>obtain⟨w,rfl⟩:=(show∃t,v=Value.str b t from rx);exact .str b w
 |@tup a _ _ h rr=>cases(show v=Value.ref a from rx);obtain⟨_,rv,q,_⟩:=I.tuple (Pu h);exact .tup q rr rv
 |@lst a _ _ h rr=>cases(show v=Value.ref a from rx);obtain⟨_,rv,q,_⟩:=I.list (.of h);exact .lst q.isList rr rv
 |_=>cases p
theorem D'(I:Inv X pins σ H s)(n:Nat){A:Around}{x y:V}{v u:Value}{t t':Tr}(hd:dT t<=n)(p:sW t=true)(p':sW t'=true)(r:Rep X.K (⟨H,x8⟩:Vw) x t)(r':Rep X.K (⟨H,x8⟩:Vw) y t')(rx:RelV x v)(ry:RelV y u)(q:SeqAt.RcAt A s v u (eqT t t')):SeqAt.EqAt A s v u (eqT t t'):=by
 refine D8 (fun b t e=>?_) (fun e=>?_) q
 ·subst e;cases r<;>first|(obtain⟨_,z⟩:=rx;cases z;done)|(cases rx;done)
 subst e;rw[rx.inj ry]at r;rw[<-D9 I n hd p p' r r'];exact u6 p
theorem x_{K:PySem.W.Frag}{G:Vw}{A:Around}{v u:Value}{t t':Tr}(S:Sh K G s.heap t v)(S':Sh K G s.heap t' u)(hu:A.units<cLine):(SeqAt.RcAt A s v u (eqT t t')/\SeqAt.RcNeAt A s v u (!eqT t t'))\/∃ts pR,(t=.tup ts/\t'=.tup pR)\/(t=.lst ts/\t'=.lst pR):=by
 cases S<;>cases S'<;>first|exact .inr ⟨_,_,.inl ⟨rfl,rfl⟩⟩|exact .inr ⟨_,_,.inr ⟨rfl,rfl⟩⟩|(refine .inl ⟨?_,?_⟩<;>simp only[eqT,pf,gW]<;>with_reducible first|exact .none_none|exact .none_bool _|exact .none_int _ _|exact .none_str _ _|exact .none_tuple ‹_› hu|exact .none_list ‹_› hu|exact .bool_none _|exact .bool_bool _ _|exact .bool_int _ _ _|exact .bool_str _ _ _|exact .bool_tuple _ ‹_› hu|exact .bool_list _ ‹_› hu|exact .int_none _ _|exact .int_bool _ _ _|exact .int_int _ _ _ _|exact .int_str _ _ _ _|exact .int_tuple _ _ ‹_› hu|exact .int_list _ _ ‹_› hu|exact .str_none _ _|exact .str_bool _ _ _|exact .str_int _ _ _ _|exact .str_str _ _ _ _|exact .str_tuple _ _ ‹_› hu|exact .str_list _ _ ‹_› hu|exact .tuple_none ‹_› hu|exact .tuple_bool _ ‹_› hu|exact .tuple_int _ _ ‹_› hu|exact .tuple_str _ _ ‹_› hu|exact .tuple_list ‹_› ‹_› hu|exact .list_none ‹_› hu|exact .list_bool _ ‹_› hu|exact .list_int _ _ ‹_› hu|exact .list_str _ _ ‹_› hu|exact .list_tuple ‹_› ‹_› hu)
theorem Lu(I:Inv X pins σ H s):∀(n:Nat) {A:Around} {x y:V} {v u:Value} {t t':Tr},dT t<=n->sW t=true->sW t'=true->Rep X.K (⟨H,x8⟩:Vw) x t->Rep X.K (⟨H,x8⟩:Vw) y t'->RelV x v->RelV y u->A.units+n<cLine->SeqAt.RcAt A s v u (eqT t t')/\SeqAt.RcNeAt A s v u (!eqT t t'):=by
 intro n
 induction n with
 |zero=>
  intro A x y v u t t' hd p p' r r' rx ry hu;rcases x_ (sY I p r rx) (sY I p' r' ry) (A:=A) (by omega)with h|⟨_,_,⟨rfl,_⟩|⟨rfl,_⟩⟩
  ·exact h
  all_goals exact absurd hd (by rw[dT];omega)
 |succ n ih=>
  intro A x y v u t t' hd p p' r r' rx ry hu;have hv:A.units<cLine:=by omega
  have items:∀{vs D_:List V} {us mN:List Value} {ts pR:List Tr},Hv ts<=n->pQ ts=true->pQ pR=true->aI X.K (⟨H,x8⟩:Vw) vs ts->aI X.K (⟨H,x8⟩:Vw) D_ pR->Vals vs us->Vals D_ mN->∀(j:Nat) (h1:j<us.toArray.size) (h2:j<mN.toArray.size),
    SeqAt.EqAt A.in1 s us.toArray[j] mN.toArray[j] (eqT (ts.getD j .bU) (pR.getD j .bU)):=by
   intro vs D_ us mN ts pR d1 q1 q2 rr u5 rv Dn j h1 h2;replace h1:j<us.length:=h1;replace h2:j<mN.length:=h2;have k1:=aH (Nat.lt_of_lt_of_eq h1 rv.length.symm);have k2:=aH (Nat.lt_of_lt_of_eq h2 Dn.length.symm);obtain⟨t1,e1,p1⟩:=rr.wK k1;obtain⟨t2,e2,p2⟩:=u5.wK k2;obtain⟨w1,f1,g1⟩:=rv.get k1;obtain⟨w2,f2,g2⟩:=Dn.get k2;rw[aH h1]at f1;rw[aH h2]at f2;rw[List.getElem_toArray,List.getElem_toArray,Option.some.inj f1,Option.some.inj f2,x9 e1,x9 e2];have m1:=bu e1;have q2:=jr q2 _ (bu e2);have q1:=jr q1 _ m1;have d:=bo (sX _ m1) d1;exact D' I n d q1 q2 p1 p2 g1 g2 (ih d q1 q2 p1 p2 g1 g2 (by show A.units+1+n<cLine;omega)).1
  have S:=sY I p r rx;have S':=sY I p' r' ry;rcases x_ S S' hv with h|⟨ts,pR,⟨rfl,rfl⟩|⟨rfl,rfl⟩⟩
  ·exact h
  all_goals
   rw[dT]at hd;have it:=fun{vs D_ us mN}=>@items vs D_ us mN _ _ (Nat.le_of_add_le_add_right hd) p p';have e:=u4 ts pR;rw[eqT]
  ·cases S with|tup q rr rv=>
   cases S' with|tup q' u5 Dn=>
   rw[<-e,<-rr.length,<-u5.length,rv.length,Dn.length];exact⟨.tuples q q' hv (it rr u5 rv Dn),.tuples q q' hv (it rr u5 rv Dn)⟩
  cases S with|lst q rr rv=>
  cases S' with|lst q' u5 Dn=>
  have l:=rr.length;have l':=u5.length;rw[rv.length]at l;rw[Dn.length]at l';by_cases hz:ts.length=pR.length
  ·rw[hz,Nat.min_self,br,Bool.and_true,<-hz,<-l]at e;rw[<-e];exact⟨.lists q q' (by simp;omega) hv (it rr u5 rv Dn),.lists q q' (by simp;omega) hv (it rr u5 rv Dn)⟩
  ·rw[du hz,lB]at e;rw[<-e];exact⟨.lists_lengths q q' (by simp;omega) hv,.lists_lengths q q' (by simp;omega) hv⟩
end
section
variable {X:Cx}
def rP(a b:Tr):Rs Tr:=if sW a=true/\sW b=true/\dT a<=40 then .ok (.bl (eqT a b))else .bad
theorem wV(hu:X.A.units+40<cLine):uV X (compareOp .Eq) rP:=by
 intro pins s σ H x y v u Q I rx ry ⟨B,tx,ty,hb,r1,r2,q⟩;obtain⟨⟨p1,p2,hd⟩,k⟩:=fj q;exact(Lu I 40 hd p1 p2 r1.up r2.up rx ry hu).1 _ _ _ _ ⟨.bl _,H,I,rfl,k _ H (au.refl H) (.bl _)⟩
end
end L2
namespace L2
open PySem PySem.Spec PyProof.Rows
section
variable {X:Cx}
def E6(a b:Tr):Rs Tr:=if sW a=true/\sW b=true/\dT a<=40 then .ok (.bl (!eqT a b))else .bad
theorem PC(hu:X.A.units+40<cLine):uV X (compareOp .NotEq) E6:=by
 intro pins s σ H x y v u Q I rx ry ⟨B,tx,ty,hb,r1,r2,q⟩;obtain⟨⟨p1,p2,hd⟩,k⟩:=fj q;exact(Lu I 40 hd p1 p2 r1.up r2.up rx ry hu).2 _ _ _ _ ⟨.bl _,H,I,rfl,k _ H (au.refl H) (.bl _)⟩
def RE:Tr->Tr->Rs Tr
 |.int i,.int j=>.ok (.bl (decide (i<j)))
 |.str a,.str b=>.ok (.bl (decide (a.cps.toList<b.cps.toList)))
 |_,_=>.bad
def NW:Tr->Tr->Rs Tr
 |.int i,.int j=>.ok (.bl (decide (j<i)))
 |_,_=>.bad
theorem PD:uV X (compareOp .Lt) RE:=by
 intro pins s σ H x y v u Q I rx ry ⟨B,tx,ty,hb,r1,r2,q⟩;unfold RE at q;split at q
 ·exact Kj pins s σ H _ _ v u Q I rx ry ⟨_,_,r1.int_inv,r2.int_inv,q _ H (au.refl H) (.bl _)⟩
 ·exact zo pins s σ H _ _ v u Q I rx ry ⟨_,_,r1.str_inv.1,r2.str_inv.1,q _ H (au.refl H) (.bl _)⟩
 ·exact(show False from q).elim
theorem PH:uV X (compareOp .Gt) NW:=by
 intro pins s σ H x y v u Q I rx ry ⟨B,tx,ty,hb,r1,r2,q⟩;unfold NW at q;split at q
 ·exact Kk pins s σ H _ _ v u Q I rx ry ⟨_,_,r1.int_inv,r2.int_inv,q _ H (au.refl H) (.bl _)⟩
 ·exact(show False from q).elim
def RF:Tr->Bool
 |.bU=>true
 |_=>false
theorem Ea{K:PySem.W.Frag}{H:Vw}{x:V}{t:Tr}(r:Rep K H x t):decide (x=.bU)=RF t:=by
 cases r<;>rfl
def RG:Tr->Tr->Rs Tr
 |a,.bU=>.ok (.bl (RF a))
 |.bl a,.bl b=>.ok (.bl (a==b))
 |_,_=>.bad
theorem Lw:uV X (compareOp .Is) RG:=by
 intro pins s σ H x y v u Q I rx ry ⟨B,tx,ty,hb,r1,r2,q⟩;unfold RG at q;split at q
 ·exact Gw pins s σ H _ _ v u Q I rx ry ⟨r2.DW,by rw[Ea r1];exact q _ H (au.refl H) (.bl _)⟩
 ·exact Hc pins s σ H _ _ v u Q I rx ry ⟨_,_,r1.sT,r2.sT,q _ H (au.refl H) (.bl _)⟩
 ·exact(show False from q).elim
def u7(aC:List (Key×Tr))(k:Key):Option Tr:=(aC.find? fun kv=>decide (kv.1=k)).map (·.2)
def Eb:Tr->Option Key
 |.int i=>some (.inl i)
 |.str z=>some (.inr z)
 |_=>none
theorem ya{K:PySem.W.Frag}{H:Vw}{x:V}{t:Tr}{k:Key}(r:Rep K H x t)(e:Eb t=some k):x=kV k:=by
 cases r with
 |int i=>cases e;rfl
 |str z h=>cases e;rfl
 |_=>cases e
theorem yb{K:PySem.W.Frag}{H:Vw}(k:Key):∀{ar:List (Key×V)} {aC:List (Key×Tr)},ar.map (·.1)=aC.map (·.1)->aI K H (ar.map (·.2)) (aC.map (·.2))->(u7 aC k=none/\jY ar k=none)\/∃t v,u7 aC k=some t/\jY ar k=some v/\Rep K H v t
 |[],[],_,_=>.inl ⟨rfl,rfl⟩
 |[],_::_,e,_=>by cases e
 |_::_,[],e,_=>by cases e
 |(k1,v1)::ar,(k2,t2)::aC,e,r=>by
  rw[aB,aB]at e;injection e with e1 e2
  have Dp:k1=k2:=e1;subst Dp;cases r with
  |cons h r=>
   by_cases q:k1=k
   ·refine .inr ⟨t2,v1,?_,jd q,h⟩;unfold u7;rw[cV,bF (show(k1,t2).1=k from q)]
    rfl
   ·rw[je q];have e3:u7 ((k1,t2)::aC) k=u7 aC k:=by
     unfold u7;rw[cV,a_ (show¬(k1,t2).1=k from q)]
    rw[e3];exact yb k e2 r
def RH:Tr->Bool
 |.bU=>true
 |.bl _=>true
 |.int _=>true
 |.str _=>true
 |_=>false
end
end L2
namespace L2
open PySem PySem.Spec PyProof.Rows
def zA{α:Type}:Option α->Rs α
 |some a=>.ok a
 |none=>.bad
def Hw:Tr->Tr->Rs Tr
 |.tup ts,.int i=>zA (qQ ts i)
 |.lst ts,.int i=>zA (qQ ts i)
 |.str z,.int i=>(zA (qQ z.cps.toList i)).bind fun c=>.ok (.str ⟨#[c]⟩)
 |.j1 ns,.int i=>(zA (qQ ns i)).bind fun n=>.ok (.int n)
 |.ji aC,t=>(zA (Eb t)).bind fun k=>zA (u7 aC k)
 |_,_=>.bad
theorem aI.qQ {K:PySem.W.Frag}{H:Vw}{vs:List V}{ts:List Tr}{i:Int}{t:Tr}(r:aI K H vs ts)(e:L2.qQ ts i=some t):∃v,L2.qQ vs i=some v/\Rep K H v t:=by
 unfold L2.qQ at e⊢;rw[r.length];cases q:Fe ts.length i with
 |none=>rw[q]at e;cases e
 |some j=>
  rw[q]at e;obtain⟨v,e1,r1⟩:=r.get (show ts[j]?=some t from e);exact⟨v,e1,r1⟩
theorem eX{X:Cx}{H:Hp}{α:Type}{o:Option α}{k:α->Prop}(h:Fi X H (zA o) k):∃a,o=some a/\k a:=by
 cases o with
 |none=>exact h.elim
 |some a=>exact⟨a,rfl,h⟩
section
variable {X:Cx}{a b e:Expr}{pos:Pos}{F G:ax->Rs Tr}
theorem Ec{α β:Type}(f:α->β)(xs:List α)(i:Int):L2.qQ (xs.map f) i=(L2.qQ xs i).map f:=by
 unfold L2.qQ;rw[ai];cases Fe xs.length i with
 |none=>rfl
 |some j=>show(xs.map f)[j]?=_;rw[aS];rfl
theorem Ed(c:Nat):(⟨#[c]⟩:Str).length<=hJ:=by show 1<=hJ;decide
theorem Ee{K:PySem.W.Frag}{B:bD}{H:Hp}{x y:V}{ty t:Tr}{aC:List (Key×Tr)}{k:Key}(r:Rep K (aN B H) x (.ji aC))(r2:Rep K (aN B H) y ty)(ek:Eb ty=some k)(et:u7 aC k=some t):∃a w,x=.ref a/\mH H a y (some w)/\Rep K (aN B H) w t:=by
 obtain⟨a,ar,e0,h,e,rr⟩:=r.DV;refine⟨a,?_⟩;rcases yb k e rr with⟨h1,_⟩|⟨t',w,h1,h2,h3⟩
 ·cases et.symm.trans h1
 ·cases et.symm.trans h1;exact⟨w,e0,.inl ⟨ar,k,h.same aD,ya r2 ek,h2.symm⟩,h3⟩
theorem PJ(hu:X.A.units+1<cLine):JB X (rT X Hw):=by
 intro value slice pins s σ H x y v u Q I rx ry ⟨B,tx,ty,hb,r1,r2,q⟩ hs;unfold Hw at q;split at q
 ·obtain⟨a,vs,e,h,rr⟩:=r1.cL;obtain⟨t,et,k⟩:=eX q;obtain⟨w,ew,jc⟩:=rr.qQ et;exact GG value slice pins s σ H _ _ v u Q I rx ry ⟨_,_,_,w,e,r2.int_inv,h.up,ew,k w H (au.refl H) jc⟩ hs
 ·obtain⟨a,vs,e,h,rr⟩:=r1.lst_inv;obtain⟨t,et,k⟩:=eX q;obtain⟨w,ew,jc⟩:=rr.qQ et;exact xM value slice pins s σ H _ _ v u Q I rx ry ⟨_,_,_,w,e,r2.int_inv,.of (eO h),ew,k w H (au.refl H) jc⟩ hs
 ·obtain⟨c,et,k⟩:=eX (Fi.bind q);exact GH value slice pins s σ H _ _ v u Q I rx ry ⟨_,_,c,r1.str_inv.1,r2.int_inv,bo r1.str_inv.2 nY,et,k _ H (au.refl H) (.str _ (Ed c))⟩ hs
 ·obtain⟨n,et,k⟩:=eX (Fi.bind q);obtain⟨a,e,h⟩:=r1.xX;exact xM value slice pins s σ H _ _ v u Q I rx ry ⟨_,_,_,.int n,e,r2.int_inv,au.seq aD h,by rw[Ec,et];rfl,k _ H (au.refl H) (.int n)⟩ hs
 ·obtain⟨k,ek,qk⟩:=eX (Fi.bind q);obtain⟨t,et,qt⟩:=eX qk;obtain⟨a,w,rfl,g,jc⟩:=Ee r1 r2 ek et;cases(show v=Value.ref a from rx);exact tail_any (nh I g) ox.lookup (mI hu I g ry fun w' s' I' rv=>⟨w,H,I',rv,qt w H (au.refl H) jc⟩) hs
 ·exact(show False from q).elim
theorem PK(hu:X.A.units+1<cLine)(ha:PE X a (tP X F))(hb:PE X b (tP X G))(hs:nV b:=by exact fun _ _=>rfl):PE X (.Subscript a b pos) (tP X fun ρ=>cG Hw (F ρ) (G ρ)):=
 (Ff (PJ hu) ha hb hs).weak fun _ _ _ q=>jj q
variable {P1 P2:ax->Rs (Option Int)}{lo hi:Option Expr}{p2:Pos}
variable {es:List Expr}{L:ax->Rs (List Tr)}
def Ef:List Tr->Rs Tr
 |[.str z]=>.ok (.int (z.length:Int))
 |[.tup ts]=>.ok (.int (ts.length:Int))
 |[.lst ts]=>.ok (.int (ts.length:Int))
 |[.j1 ns]=>.ok (.int (ns.length:Int))
 |_=>.bad
theorem Lx:hW X (.builtin "len") Ef:=by
 intro pins s σ H xs us Q I rv ⟨B,ts,hb,r,q⟩;unfold Ef at q;split at q
 ·obtain⟨x,e,r⟩:=gb r;exact lP pins s σ H _ us Q I rv ⟨_,_,e,by rw[r.str_inv.1];exact⟨bo r.str_inv.2 nY,rfl⟩,q _ H (au.refl H) (.int _)⟩
 ·obtain⟨x,e,r⟩:=gb r;obtain⟨a,vs,rfl,h,rr⟩:=r.cL;exact lP pins s σ H _ us Q I rv ⟨_,_,e,.inr ⟨_,h.up,rfl⟩,q _ H (au.refl H) (by rw[rr.length];exact .int _)⟩
 ·obtain⟨x,e,r⟩:=gb r;obtain⟨a,vs,rfl,h,rr⟩:=r.lst_inv;exact lP pins s σ H _ us Q I rv ⟨_,_,e,.inl ⟨_,.of (eO h),rfl⟩,q _ H (au.refl H) (by rw[rr.length];exact .int _)⟩
 ·obtain⟨x,e,r⟩:=gb r;obtain⟨a,rfl,h⟩:=r.xX;exact lP pins s σ H _ us Q I rv ⟨_,_,e,.inl ⟨_,au.seq aD h,rfl⟩,q _ H (au.refl H) (by rw[ai];exact .int _)⟩
 ·exact(show False from q).elim
def yc:List Tr->Rs Tr
 |[.tup ts]=>.ok (.lst ts)
 |[.lst ts]=>.ok (.lst ts)
 |_=>.bad
def fA:List Tr->Rs Tr
 |[.tup ts]=>.ok (.tup ts)
 |[.lst ts]=>.ok (.tup ts)
 |_=>.bad
theorem n6:hW X (.type "tuple") fA:=by
 intro pins s σ H xs us Q I rv ⟨B,ts,hb,r,q⟩;unfold fA at q;split at q
 ·obtain⟨x,e,r⟩:=gb r;obtain⟨a,vs,rfl,h,rr⟩:=r.jk;exact j3 pins s σ H _ us Q I rv ⟨_,_,e,.inr ⟨.inl (.inl (eO h)),q _ H (au.refl H) (.tup h rr)⟩⟩
 ·obtain⟨x,e,r⟩:=gb r;obtain⟨a,vs,rfl,h,rr⟩:=r.lst_inv;exact j3 pins s σ H _ us Q I rv ⟨_,_,e,.inl ⟨.of (eO h),fun p hp=>q _ _ (au.upd hp) (.Ls hb hp rr)⟩⟩
 ·exact q.elim
def pS:Tr->String
 |.bU=>"NoneType"
 |.bl _=>"bool"
 |.int _=>"int"
 |.str _=>"str"
 |.ty _=>"type"
 |.tup _=>"tuple"
 |.lst _=>"list"
 |.j1 _=>"list"
 |.ji _=>"dict"
 |.at _=>"object"
 |.aX _=>"dict"
 |.ob _ _=>"object"
 |.xT _=>"object"
def NX(t:Tr)(c:String):Bool:=pS t==c||(pS t=="bool"&&c=="int")
def kinds:List String:=["int","str","bool","tuple","list","dict"]
theorem yd(K:PySem.W.Frag):∀a∈["NoneType","bool","int","str","tuple","list","dict"],∀c∈kinds,PySem.W.kitOne K (.type a) (.type c)=some (a==c||(a=="bool"&&c=="int")):=by
 intro a ha c hc;simp only[kinds,aO,dQ,cN]at ha hc;rcases ha with rfl|rfl|rfl|rfl|rfl|rfl|rfl<;>rcases hc with rfl|rfl|rfl|rfl|rfl|rfl<;>first|rfl|(unfold PySem.W.kitOne;exact ab (by decide))
def Ly:Tr->Bool
 |.ty _|.at _|.ob _ _|.xT _=>true
 |_=>false
def Lz:List Tr->Rs Tr
 |[t,.ty c]=>if Ly t=false/\kinds.contains c=true then .ok (.bl (NX t c))else .bad
 |_=>.bad
theorem Eg{pins:List (Addr×Obj)}{σ:St}{H:Hp}{x8:Addr->Option Nat}{s:Shared}{A:Around}{Q:Value->Shared->Prop}{E:Value->Shared->Prop}{x:V}{t:Tr}{u:Value}{c:String}(I:Inv X pins σ H s)(r:Rep X.K (⟨H,x8⟩:Vw) x t)(h0:Ly t=false)(rx:RelV x u)(hc:c∈kinds)(h:∀tk,Q (.bool (NX t c)) {s with toks:=tk}):
  wpAny (model X.prog X.w) A (call (.builtin "isinstance") [u,.type c]) Q E s:=by
 have Eh:=fun a ha=>yd X.K a ha c hc;cases r with
 |bU=>exact g9 I rx .bU (Eh _ (by decide)) h
 |bl b=>exact g9 I rx (.bl b) (Eh _ (by decide)) h
 |int i=>exact g9 I rx (.int i) (Eh _ (by decide)) h
 |str z hz=>exact g9 I rx (.str z) (Eh _ (by decide)) h
 |ty n=>cases h0
 |«at» h=>cases h0
 |ob h e rr=>cases h0
 |xT h c=>cases h0
 |@aX a ar aC hq e rr=>
  cases(show u=Value.ref a from rx);obtain⟨_,_,xs,_,o,es,ep,h1,h2,_⟩:=(show bg X.prog X.w H s.heap a (.dT ar)from Bj I.bC hq);exact cC lj I.nB ⟨o,h1,h2.1⟩ (Eh "dict" (by decide)) (fun z=>nomatch z) h
 |@tup a vs ts hq rr=>
  cases(show u=Value.ref a from rx);obtain⟨aT,rv,⟨o,h1,h2,_⟩,_⟩:=I.tuple (Pu hq);exact cC PySem.W.kitx_tuple I.nB ⟨o,h1,h2⟩ (Eh "tuple" (by decide)) (fun z=>nomatch z) h
 |lst hq rr=>exact g9 I rx (.lst hq) (Eh _ (by decide)) h
 |@j1 a ns hq=>
  cases(show u=Value.ref a from rx);obtain⟨aT,rv,⟨o,n,h1,h2,_⟩,_⟩:=I.list hq;exact cC oQ I.nB ⟨o,h1,h2⟩ (Eh "list" (by decide)) (fun z=>nomatch z) h
 |@ji a ar aC hq e rr=>
  cases(show u=Value.ref a from rx);obtain⟨_,_,vs,_,p⟩:=(show bg X.prog X.w H s.heap a (.dK ar)from hq.ok I.bC);obtain⟨o,es,ep,h1,h2,_⟩:=p;exact cC lj I.nB ⟨o,h1,h2.1⟩ (Eh "dict" (by decide)) (fun z=>nomatch z) h
theorem rQ:hW X (.builtin "isinstance") Lz:=by
 intro pins s σ H xs us Q I rv ⟨B,ts,hb,r,q⟩;unfold Lz at q;split at q
 ·obtain⟨⟨h0,h1⟩,k⟩:=fj q;obtain⟨x,y,rfl,r1,r2⟩:=pM r;obtain⟨v,u,rfl,v1,v2⟩:=vals2 rv;cases r2;cases v2;exact Eg I r1.up h0 v1 (by simpa using h1) fun tk=>⟨.bl _,H,I.tok _,rfl,k _ H (au.refl H) (.bl _)⟩
 ·exact q.elim
variable {o:Expr}{name:Str}{apos dE:Pos}{id:String}{h:Str->List Tr->Rs Tr}
end
end L2
namespace L2
open PySem PySem.Spec PyProof.Rows
section
variable {X:Cx}{a e:Expr}{pos:Pos}{F:ax->Rs Tr}
end
theorem sZ{k:Nat}{A:Around}(hr:cM k A):A.units+40<cLine:=by have:=hr.units;omega
def AG(n m:Nat)(G:ax->Rs Out)(ts:List Tr):Rs Tr:=if ts.length=n then fh (G (startT m ts))else .bad
theorem Ei{n m:Nat}{G:ax->Rs Out}{ts:List Tr}{t:Tr}(h:AG n m G ts=.ok t):ts.length=n:=by
 unfold AG at h;split at h
 ·assumption
 ·cases h
theorem Hx{n m:Nat}{G:ax->Rs Out}{ts:List Tr}{t:Tr}(h:AG n m G ts=.ok t):fh (G (startT m ts))=.ok t:=by
 unfold AG at h;split at h
 ·exact h
 ·cases h
end L2
namespace L2
open PySem PySem.Spec PyProof.Rows
structure zB(K:PySem.W.Frag)(H:Vw)(ar:List (Key×V))(aC:List (Key×Tr)):Prop where
 keys:ar.map (·.1)=aC.map (·.1)
 vals:aI K H (ar.map (·.2)) (aC.map (·.2))
section
variable {K:PySem.W.Frag}{H H':Vw}
theorem zB.same {ar:List (Key×V)}{aC:List (Key×Tr)}(s:b9 H H')(h:zB K H ar aC):zB K H' ar aC:=⟨h.keys,h.vals.same s⟩
end
section
variable {X:Cx}{a e o f:Expr}{pos apos dE:Pos}{F G E:ax->Rs Tr}{keys:List (Option Expr)}{vals:List Expr}{P:ax->Rs (List (Tr×Tr))}
variable {x:Str}{aC:List (Str×Tr)}{p:Pos}
def zC:List Tr->Rs (List Bool)
 |[]=>.ok []
 |.bl b::ts=>(zC ts).bind fun zs=>.ok (b::zs)
 |_=>.bad
theorem ye{K:PySem.W.Frag}{H:Vw}{H0:Hp}{k:List Bool->Prop}:∀{ts:List Tr} {vs:List V},aI K H vs ts->Fi X H0 (zC ts) k->∃bs,k bs/\vs=bs.map V.bl
 |[],_,r,q=>by cases r;exact⟨[],q,rfl⟩
 |t::ts,_,r,q=>by
  cases r with
  |cons h r=>
   cases h with
   |bl b=>
    obtain⟨bs,k1,e⟩:=ye (k:=fun zs=>k (b::zs)) r (Fi.bind q);exact⟨b::bs,k1,by rw[e];rfl⟩
   |_=>exact(show False from q).elim
def zD:List Tr->Rs Tr
 |[.lst ts]=>(zC ts).bind fun bs=>.ok (.bl (bs.all id))
 |_=>.bad
theorem LA(hc:X.calm=true):hW X (.builtin "all") zD:=by
 intro pins s σ H xs us Q I rv ⟨B,ts,hb,r,q⟩;unfold zD at q;split at q
 ·obtain⟨x,rfl,h⟩:=gb r;obtain⟨a,vs,rfl,hl,rr⟩:=h.lst_inv;obtain⟨bs,k,rfl⟩:=ye rr (Fi.bind q);exact Bs hc pins s σ H _ us Q I rv ⟨_,bs,rfl,.of (eO hl),k _ H (au.refl H) (.bl _)⟩
 ·exact(show False from q).elim
end
end L2
namespace L2
open PySem
variable {K:PySem.W.Frag}{w:World}{es:List DictEntry}{ar:List (Str×Value)}{aC:List (Str×Tr)}
end L2
namespace L2
open PySem PySem.Spec PyProof.Rows
inductive Dk:HO->Prop
 |k (ar:List (Key×V)):Dk (.dK ar)
 |t (ar:List (List Key×V)):Dk (.dT ar)
section
variable {X:Cx}{pins:List (Addr×Obj)}{σ:St}{H H1 H':Hp}{s:Shared}{a:Addr}{o:Obj}{u0:HO}{B:bD}
theorem Inv.frozen (I:Inv X pins σ H s)(ha:H a=some u0)(hk:Dk u0)(ho:s.heap.get? a=some o):Inv X pins σ (upd H a (.ff o u0)) s:=by
 have ne:∀{b:Addr} {u:HO},H b=some u->u≠u0->b≠a:=fun{b u} e d z=>by subst z;rw[ha]at e;cases e;exact d rfl
 have nn:∀{b:Addr},H b=none->b≠a:=fun{b} e z=>by subst z;rw[ha]at e;cases e
 refine⟨I.ok,I.os,I.bare,⟨I.base.keep,I.base.slot,fun b ob e n hx=>?_,I.base.there,fun b xs e=>?_,fun b ob u e=>?_,fun b ps e=>?_⟩,I.loc,I.cell,?_,fun x c e=>?_,fun p hp=>?_,fun b u e=>?_,I.len⟩
 ·have q:=I.base.free b ob e n hx;rw[ah (nn q)];exact q
 ·have q:=I.base.jX b xs e;rw[ah (ne q (fun z=>by subst z;cases hk))];exact q
 ·have q:=I.base.iK b ob u e;rw[ah (ne q (fun z=>by subst z;cases hk))];exact q
 ·obtain⟨m,q⟩:=I.base.i_ b ps e;exact⟨m,by rw[ah (ne q (fun z=>by subst z;cases hk))];exact q⟩
 ·rw[ah (nn I.free)];exact I.free
 ·rw[ah (nn (I.fH x c e))];exact I.fH x c e
 ·obtain⟨p1,p2,p3⟩:=I.pin p hp;exact⟨p1,by rw[ah (nn p2)];exact p2,p3⟩
 ·have ow:∀c d,H c=some (.own d)->upd H a (.ff o u0) c=some (.own d):=fun c d q=>by rw[ah (ne q (fun z=>by subst z;cases hk))];exact q
  have tu:∀c xs,H c=some (.tup xs)->upd H a (.ff o u0) c=some (.tup xs):=fun c d q=>by rw[ah (ne q (fun z=>by subst z;cases hk))];exact q
  by_cases z:b=a
  ·subst z;rw[aF]at e;cases e;exact⟨ho,(I.bC b _ ha).j_ (fun _ _ _ q=>q) (fun c q=>ow c b q) tu⟩
  ·rw[ah z]at e;exact(I.bC b u e).j_ (fun _ _ _ q=>q) (fun c q=>ow c b q) tu
theorem Inv.Hy (I:Inv X pins σ H s)(ha:H a=some (.ff o u0))(hk:Dk u0)(h0:∀o' u,X.uA a≠some (.ff o' u)):Inv X pins σ (upd H a u0) s:=by
 have ne:∀{b:Addr} {u:HO},H b=some u->u≠ .ff o u0->b≠a:=fun{b u} e d z=>by subst z;rw[ha]at e;cases e;exact d rfl
 have nn:∀{b:Addr},H b=none->b≠a:=fun{b} e z=>by subst z;rw[ha]at e;cases e
 refine⟨I.ok,I.os,I.bare,⟨I.base.keep,I.base.slot,fun b ob e n hx=>?_,I.base.there,fun b xs e=>?_,fun b ob u e=>?_,fun b ps e=>?_⟩,I.loc,I.cell,?_,fun x c e=>?_,fun p hp=>?_,fun b u e=>?_,I.len⟩
 ·have q:=I.base.free b ob e n hx;rw[ah (nn q)];exact q
 ·have q:=I.base.jX b xs e;rw[ah (ne q (fun z=>by cases z))];exact q
 ·have q:=I.base.iK b ob u e;rw[ah (fun z=>by subst z;exact h0 _ _ e)];exact q
 ·obtain⟨m,q⟩:=I.base.i_ b ps e;exact⟨m,by rw[ah (ne q (fun z=>by cases z))];exact q⟩
 ·rw[ah (nn I.free)];exact I.free
 ·rw[ah (nn (I.fH x c e))];exact I.fH x c e
 ·obtain⟨p1,p2,p3⟩:=I.pin p hp;exact⟨p1,by rw[ah (nn p2)];exact p2,p3⟩
 ·have ow:∀c d,H c=some (.own d)->upd H a u0 c=some (.own d):=fun c d q=>by rw[ah (ne q (fun z=>by cases z))];exact q
  have tu:∀c xs,H c=some (.tup xs)->upd H a u0 c=some (.tup xs):=fun c d q=>by rw[ah (ne q (fun z=>by cases z))];exact q
  by_cases z:b=a
  ·subst z;rw[aF]at e;cases e;exact(I.bC b _ ha).2.j_ (fun _ _ _ q=>q) (fun c q=>ow c b q) tu
  ·rw[ah z]at e;exact(I.bC b u e).j_ (fun _ _ _ q=>q) (fun c q=>ow c b q) tu
structure nG(H H':Hp)(a:Addr)(u u':HO)(u0:HO):Prop where
 fr:H a=some u
 to:H'=upd H a u'
 ok:(u=u0/\∃o,u'=.ff o u0)\/(u'=u0/\∃o,u=.ff o u0)
 dk:Dk u0
variable {u u':HO}
theorem nG.j4 (w:nG H H' a u u' u0){b:Addr}{x:HO}(e:H b=some x)(h1:¬Dk x)(h2:∀o u,Dk u->x≠ .ff o u):H' b=some x:=by
 rw[w.to,ah ?_]
 ·exact e
 ·intro z;subst z;rw[w.fr]at e;cases e;rcases w.ok with⟨e1,_⟩|⟨_,o,e1⟩
  ·exact h1 (by rw[e1];exact w.dk)
  ·exact h2 _ _ w.dk e1
theorem fB{B:bD}{H H':Hp}{b:Addr}{x:HO}(e:(aN B H).H b=some x)(h:H b=some x->H' b=some x):(aN B H').H b=some x:=by
 have e':(if B.hd b=true then none else H b)=some x:=e;show(if B.hd b=true then none else H' b)=some x;split at e'
 ·cases e'
 ·rename_i n;rw[ae n];exact h e'
theorem nG.seq {K:PySem.W.Frag}(w:nG H H' a u u' u0){b:Addr}{xs:List V}(h:g8 K (aN B H).H b xs):g8 K (aN B H').H b xs:=by
 rcases h with(h|⟨o,h⟩)|h
 ·exact .inl (.inl (fB h fun e=>w.j4 e (fun z=>by cases z) fun _ _ d z=>by cases z<;>cases d))
 ·exact .inl (.inr ⟨o,fB h fun e=>w.j4 e (fun z=>by cases z) fun _ _ d z=>by cases z<;>cases d⟩)
 ·exact .inr h
theorem nG.tup {K:PySem.W.Frag}(w:nG H H' a u u' u0){b:Addr}{xs:List V}(h:gy K (aN B H).H b xs):gy K (aN B H').H b xs:=by
 rcases h with(h|⟨o,h⟩)|h
 ·exact .inl (.inl (fB h fun e=>w.j4 e (fun z=>by cases z) fun _ _ d z=>by cases z<;>cases d))
 ·exact .inl (.inr ⟨o,fB h fun e=>w.j4 e (fun z=>by cases z) fun _ _ d z=>by cases z<;>cases d⟩)
 ·exact .inr h
theorem nG.rd (w:nG H H' a u u' u0){b:Addr}{x:HO}(hx:Dk x)(h:Rd (aN B H).H b x):Rd (aN B H').H b x:=by
 by_cases z:b=a
 ·subst z;have hb:B.hd b=false:=by
   cases q:B.hd b with
   |false=>rfl
   |true=>
    have n:(aN B H).H b=none:=by show(if B.hd b=true then none else H b)=none;rw[ab q]
    rcases h with h|⟨o,h⟩<;>(rw[n]at h;cases h)
  have h':Rd H b x:=by unfold Rd at h⊢;rw[cq hb]at h;exact h
  have dk:=w.dk;have ek:x=u0:=by
   rcases h' with h|⟨o,h⟩<;>rw[w.fr]at h<;>rcases w.ok with⟨e1,_⟩|⟨_,o',e1⟩<;>rw[e1]at h<;>cases h
   ·rfl
   ·cases hx
   ·cases dk
   ·rfl
  subst ek;unfold Rd;rw[cq hb,w.to,aF];rcases w.ok with⟨_,o',e1⟩|⟨e1,_⟩
  ·rw[e1];exact .inr ⟨o',rfl⟩
  ·rw[e1];exact .inl rfl
 ·have hn:(aN B H').H b=(aN B H).H b:=by
   show(if B.hd b=true then none else H' b)=(if B.hd b=true then none else H b);rw[w.to,ah z]
  unfold Rd;rw[hn];exact h
theorem nG.rep {K:PySem.W.Frag}(w:nG H H' a u u' u0){v:V}{t:Tr}(h:Rep K (aN B H) v t):Rep K (aN B H') v t:=by
 refine Rep.rec (motive_1:=fun v t _=>Rep K (aN B H') v t) (motive_2:=fun vs ts _=>aI K (aN B H') vs ts) ?_ ?_ ?_ ?_ ?_ ?_ ?_ ?_ ?_ ?_ ?_ ?_ ?_ ?_ ?_ h
 ·exact .bU
 ·exact fun b=>.bl b
 ·exact fun i=>.int i
 ·exact fun z h=>.str z h
 ·exact fun n=>.ty n
 ·exact fun h=>.j1 (w.seq h)
 ·exact fun h _ r=>.tup (fB h fun e=>w.j4 e (fun z=>by cases z) fun _ _ d z=>by cases z<;>cases d) r
 ·exact fun h _ r=>.lst (fB h fun e=>w.j4 e (fun z=>by cases z) fun _ _ d z=>by cases z<;>cases d) r
 ·exact fun h e _ r=>.ji (w.rd (.k _) h) e r
 ·exact fun h=>.at h
 ·exact fun h e _ r=>.aX (w.rd (.t _) h) e r
 ·exact fun h e _ r=>.ob (fB h fun e=>w.j4 e (fun z=>by cases z) fun _ _ d z=>by cases z<;>cases d) e r
 ·exact fun h c=>.xT (fB h fun e=>w.j4 e (fun z=>by cases z) fun _ _ d z=>by cases z<;>cases d) c
 ·exact .nil
 ·exact fun _ _ h r=>.cons h r
theorem nG.zE {K:PySem.W.Frag}(w:nG H H' a u u' u0):∀{vs:List V} {ts:List Tr},aI K (aN B H) vs ts->aI K (aN B H') vs ts
 |[],_,h=>by cases h;exact .nil
 |_::_,_,h=>by cases h with|cons h r=>exact .cons (w.rep h) (nG.zE w r)
theorem nG.wW {K:PySem.W.Frag}{ρ:ax}(w:nG H H' a u u' u0)(h:a7 K B H σ ρ):a7 K B H' σ ρ:=
 ⟨h.len,fun i t e=>by obtain⟨v,e1,r⟩:=h.sh i t e;exact⟨v,e1,w.rep r⟩,
   fun i ts e=>by obtain⟨D,ys,e1,e2,e3,r⟩:=h.ow i ts e;exact⟨D,ys,e1,e2,w.j4 e3 (fun z=>by cases z) (fun _ _ d z=>by cases z<;>cases d),w.zE r⟩,h.ap⟩
theorem nG.hb (w:nG H H' a u u' u0)(h:HB B H):HB B H':=fun b e=>by
 obtain⟨o,q,n⟩:=h b e;by_cases z:b=a
 ·subst z;rw[w.to];refine⟨_,aF,fun vs z=>?_⟩;rcases w.ok with⟨_,o',e1⟩|⟨e1,_⟩
  ·rw[e1]at z;cases z
  ·rw[e1]at z;have d:=w.dk;rw[z]at d;cases d
 ·exact⟨o,by rw[w.to,ah z];exact q,n⟩
def s_(X:Cx)(B:bD)(H H':Hp):Prop:=au H H'\/∃H1 a o u0,Dk u0/\au H H1/\B.hd a=false/\H1 a=some u0/\H'=upd H1 a (.ff o u0)/\∀o u,X.uA a≠some (.ff o u)
def fk(X:Cx)(H:Hp)(k:Hp->Prop):Prop:=k H\/∃a o u0,Dk u0/\H a=some (.ff o u0)/\(∀o u,X.uA a≠some (.ff o u))/\k (upd H a u0)
theorem fk.inv {k:Hp->Prop}(q:fk X H k)(I:Inv X pins σ H s):∃H',Inv X pins σ H' s/\k H':=by
 rcases q with q|⟨a,o,u0,hk,e,h0,q⟩
 ·exact⟨H,I,q⟩
 ·exact⟨_,I.Hy e hk h0,q⟩
theorem PE.Hz {e:Expr}{t:TE}(h:PE X e t):PE X e (fun σ H Q=>t σ H fun v H'=>fk X H' (Q v)):=fun pins s σ H Q I q=>
 dq (h pins s σ H _ I q) fun u s' ⟨v,H',I',r,z⟩=>by
  obtain⟨H2,I2,q2⟩:=z.inv I';exact⟨v,H2,I2,r,q2⟩
def Ends.Hz (X:Cx)(D:Ends):Ends:=⟨fun σ H=>fk X H (D.nx σ),fun v H=>fk X H (D.rt v),fun σ H=>fk X H (D.bk σ),fun σ H=>fk X H (D.ct σ)⟩
theorem PS.Hz {st:Stmt}{t:TS}(h:PS X st t):PS X st (fun D σ H=>t (D.Hz X) σ H):=fun pins s σ H D I q=>
 dq (h pins s σ H _ I q) fun f s' z=>by
  cases f with
  |next=>obtain⟨bA,H',I',z⟩:=z;obtain⟨H2,I2,q2⟩:=fk.inv z I';exact⟨bA,H2,I2,q2⟩
  |brk=>obtain⟨bA,H',I',z⟩:=z;obtain⟨H2,I2,q2⟩:=fk.inv z I';exact⟨bA,H2,I2,q2⟩
  |cont=>obtain⟨bA,H',I',z⟩:=z;obtain⟨H2,I2,q2⟩:=fk.inv z I';exact⟨bA,H2,I2,q2⟩
  |ret u=>obtain⟨v,bA,H',I',r,z⟩:=z;obtain⟨H2,I2,q2⟩:=fk.inv z I';exact⟨v,bA,H2,I2,r,q2⟩
theorem s_.wW {K:PySem.W.Frag}{ρ:ax}(h:s_ X B H H')(r:a7 K B H σ ρ):a7 K B H' σ ρ:=by
 rcases h with s|⟨H1,a,o,u0,hk,s,hv,ha,rfl,h0⟩
 ·exact r.same s
 ·exact nG.wW (u:=u0) ⟨ha,rfl,.inl ⟨rfl,o,rfl⟩,hk⟩ (r.same s)
theorem s_.hb (h:s_ X B H H')(r:HB B H):HB B H':=by
 rcases h with s|⟨H1,a,o,u0,hk,s,hv,ha,rfl,h0⟩
 ·exact r.same s
 ·exact nG.hb (u:=u0) ⟨ha,rfl,.inl ⟨rfl,o,rfl⟩,hk⟩ (r.same s)
theorem s_.free {p:Addr}(h:s_ X B H H')(e:H' p=none):H p=none:=by
 rcases h with s|⟨H1,a,o,u0,hk,s,hv,ha,rfl,h0⟩
 ·exact s.free e
 ·refine s.free ?_
  by_cases z:p=a
  ·subst z;rw[aF]at e;cases e
  ·rw[ah z]at e;exact e
theorem s_.back {H2:Hp}{B2:bD}{C:bD}(h:s_ X B H H')(si:cx C B H' B2 H2):∃Hu,cx C B H B2 Hu/\(∀{K:PySem.W.Frag} {B3:bD} {v:V} {t:Tr},Rep K (aN B3 H2) v t->Rep K (aN B3 Hu) v t)/\(∀{K:PySem.W.Frag} {σ:St} {ρ:ax},a7 K B2 H2 σ ρ->a7 K B2 Hu σ ρ)/\∀k:Hp->Prop,k Hu->fk X H2 k:=by
 rcases h with s|⟨H1,a,o,u0,hk,s,hv,ha,rfl,h0⟩
 ·exact⟨H2,⟨fun b o c e=>si.kp b o c (s _ _ e),(aV s).trans si.fy,si.sub,si.hb⟩,fun r=>r,fun r=>r,fun k q=>.inl q⟩
 ·have e1:(aN B (upd H1 a (.ff o u0))).H a=some (.ff o u0):=by rw[cq hv];exact aF
  have e2:=si.fy.h _ _ e1;have e3:H2 a=some (.ff o u0):=aD _ _ e2;have w:nG H2 (upd H2 a u0) a (.ff o u0) u0 u0:=⟨e3,rfl,.inr ⟨rfl,o,rfl⟩,hk⟩;have NY:B2.hd a=false:=by
   cases q:B2.hd a with
   |false=>rfl
   |true=>
    have n:(aN B2 H2).H a=none:=by show(if B2.hd a=true then none else H2 a)=none;rw[ab q]
    rw[n]at e2;cases e2
  refine⟨upd H2 a u0,⟨fun b ob c e=>?_,⟨fun b ob e=>?_,fun b i e=>?_⟩,si.sub,w.hb si.hb⟩,fun r=>w.rep r,fun r=>w.wW r,fun k q=>.inr ⟨a,o,u0,hk,e3,h0,q⟩⟩
  ·have q:=s _ _ e;by_cases z:b=a
   ·subst z;rw[ha]at q;cases q;exact aF
   ·rw[ah z];exact si.kp b ob c (by rw[ah z];exact q)
  ·by_cases z:b=a
   ·subst z;have q:=s _ _ (aD _ _ e);rw[ha]at q;cases q;rw[cq NY];exact aF
   ·have q:(aN B (upd H1 a (.ff o u0))).H b=some ob:=fB e fun e=>by rw[ah z];exact s _ _ e
    exact fB (si.fy.h _ _ q) fun e=>by rw[ah z];exact e
  ·exact si.fy.x b i e
theorem s_.Fs {H2:Hp}(h:s_ X B H H')(hb:HB B H)(s2:au H' H2):∃Hu,au H Hu/\(∀{K:PySem.W.Frag} {B3:bD} {v:V} {t:Tr},Rep K (aN B3 H2) v t->Rep K (aN B3 Hu) v t)/\∀k:Hp->Prop,k Hu->fk X H2 k:=by
 obtain⟨Hu,si,r,_,k⟩:=h.back (C:=B) (B2:=B) (H2:=H2) ⟨fun b o _ e=>s2 _ _ e,aV s2,.refl,(h.hb hb).same s2⟩;exact⟨Hu,si.same,r,k⟩
end
def lY:Key->Tr
 |.inl i=>.int i
 |.inr z=>.str z
def keyOk:Key->Bool
 |.inl _=>true
 |.inr z=>decide (z.length<=hJ)
theorem zF{K:PySem.W.Frag}{W:Vw}{k:Key}(h:keyOk k=true):Rep K W (kV k) (lY k):=by
 cases k with
 |inl i=>exact .int i
 |inr z=>exact .str z (bc h)
inductive tJ(X:Cx)(W:ax->Rs (List Tr))(σ:St)(H:Hp)(R:It->Hp->Prop):Prop
 |mk (B:bD) (ρ:ax):HB B H->a7 X.K B H σ ρ->(Fi X H (W ρ) fun ts=>∀J H',s_ X B H H'->jm X.K B J H' ts->R J H')->tJ X W σ H R
section
variable {X:Cx}{pins:List (Addr×Obj)}{σ:St}
variable {a b e:Expr}{es:List Expr}{pos:Pos}{F G:ax->Rs Tr}{A:ax->Rs Bool}{scope:Scope}{N':List Str}{ix:List (Option Nat)}{elt iter tg:Expr}{ifs:List Expr}{T:kn}{W:ax->Rs (List Tr)}
theorem zG{σ:St}{H:Hp}{Q:VK}(hT:h8 T)(q:tP X (fun ρ=>iF ix T A F (W ρ) ρ) σ H Q):JD (tJ X W) ix (Fq X.K T) (Fp X.K A) (Fo X.K F) σ H (fun v H'=>fk X H' (Q v)):=by
 obtain⟨B,ρ,hb,r,q⟩:=q;refine⟨B,ρ,hb,r,q.bind.mono fun ts qt J H1 tf gt D hD=>?_⟩;by_cases hz:ts.length<=iE
 ·rw[ab hz]at qt;exact n5 hT (nZ ix ρ) (tf.hb hb) gt hz ((tf.wW r).comp ix (hX hD)) hD (Fi.bind qt) fun ys H' k s' rp=>by
   obtain⟨Hu,su,ru,ku⟩:=tf.Fs hb s';exact ku _ (k _ Hu su (ru rp))
 ·rw[ae hz]at qt;exact qt.elim
theorem LB(Lk:fN X N' ix scope)(hi:PI X tg iter (tJ X W))(lT:Hs X scope N' tg elt ifs T A F)(hT:h8 T)(hc:X.calm=true:=by rfl) (hs:isSet iter=false:=by rfl):
  PE X (.ListComp elt [⟨tg,iter,ifs,0⟩] scope pos) (tP X fun ρ=>iF ix T A F (W ρ) ρ):=
 (Br Lk hc hi lT.NV (dA hs)).Hz.weak fun σ H Q q=>zG hT q
end
end L2
namespace L2
open PySem PySem.Spec PyProof.Rows
def ko(xs:Array Nat):Prop:=xs.toList.Pairwise (· <·)
theorem ko.lt {xs:Array Nat}(h:ko xs){i j:Nat}(qR:i<j)(hj:j<xs.size):xs.getD i 0<xs.getD j 0:=by
 have q:=List.pairwise_iff_getElem.mp h i j (by rw[bw];omega) (by rw[bw];exact hj) qR;rw[bV,bV,cK (by omega),cK hj];simpa using q
theorem pT{xs:Array Nat}{j:Nat}(h:ko xs):∀(f lo hi:Nat),lo<=hi->hi<=xs.size->hi - lo<=f->(∀k,k<lo->xs.getD k 0<j)->(∀k,hi<=k->k<xs.size->j<=xs.getD k 0)->
  ∀p,SetTable.below.go xs j f lo hi=p->p<=xs.size/\(∀k,k<p->xs.getD k 0<j)/\∀k,p<=k->k<xs.size->j<=xs.getD k 0
 |0,lo,hi,h1,h2,h3,h4,h5,p,e=>by
  have:lo=hi:=by omega
  subst this;subst e;exact⟨h2,h4,h5⟩
 |f+1,lo,hi,h1,h2,h3,h4,h5,p,e=>by
  unfold SetTable.below.go at e;by_cases hl:lo<hi
  ·rw[ab hl]at e;dsimp only at e;have hm:(lo+hi)/2<xs.size:=by omega
   have hg:xs.getD ((lo+hi)/2) j=xs.getD ((lo+hi)/2) 0:=by
    rw[bV,bV,cK hm];rfl
   rw[hg]at e;by_cases hv:xs.getD ((lo+hi)/2) 0<j
   ·rw[ab hv]at e;refine pT h f _ hi (by omega) h2 (by omega) (fun k hk=>?_) h5 p e;by_cases Ej:k=(lo+hi)/2
    ·rw[Ej];exact hv
    ·exact Nat.lt_trans (h.lt (show k<(lo+hi)/2 by omega) hm) hv
   ·rw[ae hv]at e;refine pT h f lo _ (by omega) (by omega) (by omega) h4 (fun k hk Tp=>?_) p e;by_cases Ej:k=(lo+hi)/2
    ·rw[Ej];omega
    ·have:=h.lt (show(lo+hi)/2<k by omega) Tp;omega
  ·rw[ae hl]at e;have:lo=hi:=by omega
   subst this;subst e;exact⟨h2,h4,h5⟩
theorem below_at{xs:Array Nat}(h:ko xs)(j:Nat):SetTable.below xs j<=xs.size/\(∀k,k<SetTable.below xs j->xs.getD k 0<j)/\∀k,SetTable.below xs j<=k->k<xs.size->j<=xs.getD k 0:=
 pT h xs.size 0 xs.size (bx _) (ak _) (ak _) (fun k hk=>absurd hk (o7 _)) (fun k h1 h2=>absurd h2 (by omega)) _ rfl
theorem wX{xs:Array Nat}(h:ko xs):SetTable.below xs 0=0:=by
 have q:=(below_at h 0).2.1;cases e:SetTable.below xs 0 with
 |zero=>rfl
 |succ n=>exact absurd (q 0 (by omega)) (by omega)
theorem wY{xs:Array Nat}(h:ko xs){i:Nat}(hi:i<xs.size):SetTable.below xs (xs.getD i 0+1)=i+1:=by
 have⟨q0,q1,q2⟩:=below_at h (xs.getD i 0+1);by_cases h1:SetTable.below xs (xs.getD i 0+1)<=i
 ·have:=q2 i h1 hi;omega
 ·by_cases h2:i+1<SetTable.below xs (xs.getD i 0+1)
  ·have:=q1 (i+1) h2;have:=h.lt (show i<i+1 by omega) (by omega);omega
  ·omega
theorem BA{xs:Array Nat}(h:ko xs){j:Nat}(hj:¬xs[SetTable.below xs j]?=some j):ko (SetTable.insertAt xs (SetTable.below xs j) j):=by
 have⟨q0,q1,q2⟩:=below_at h j;generalize SetTable.below xs j=p at*;have e:(SetTable.insertAt xs p j).toList=xs.toList.take p++j::xs.toList.drop p:=by
  unfold SetTable.insertAt;simp;exact List.take_of_length_le (by simp)
 unfold ko;rw[e,List.pairwise_append];have gl:∀{k:Nat} (hk:k<xs.toList.length),xs.toList[k]=xs.getD k 0:=fun{k} hk=>by
  rw[bV,cK (by rw[<-bw];exact hk)];simp
 have LD:∀a∈xs.toList.take p,a<j:=fun a ha=>by
  obtain⟨k,hk,e⟩:=List.mem_iff_getElem.mp ha;rw[oX,bw]at hk;rw[List.getElem_take,gl (by rw[bw];omega)]at e;rw[<-e];exact q1 k (by omega)
 have Ft:∀b∈xs.toList.drop p,j<b:=fun b hb=>by
  obtain⟨k,hk,e⟩:=List.mem_iff_getElem.mp hb;rw[List.length_drop,bw]at hk;rw[List.getElem_drop,gl (by rw[bw];omega)]at e;have h1:=q2 (p+k) (by omega) (by omega);rw[e]at h1;rcases Nat.lt_or_ge j b with h2|h2
  ·exact h2
  ·have h3:b=j:=Nat.le_antisymm h2 h1;subst h3;exfalso;by_cases Ek:k=0
   ·subst Ek;refine hj ?_
    rw[cK (by omega)];rw[bV,cK (by omega)]at e;simpa using e
   ·have h4:=h.lt (show p<p+k by omega) (by omega);have h5:=q2 p (ak _) (by omega);omega
 refine⟨h.sublist (List.take_sublist _ _),List.pairwise_cons.mpr ⟨Ft,h.sublist (List.drop_sublist _ _)⟩,fun a ha b hb=>?_⟩;rcases aO.mp hb with rfl|hb
 ·exact LD a ha
 ·exact Nat.lt_trans (LD a ha) (Ft b hb)
end L2
namespace L2
open PySem PySem.Spec PyProof.Rows
theorem iy{α:Type}:∀(l:List α) (i:Nat) (hi:i<l.length),(l[i]::l.eraseIdx i).Perm l
 |x::r,0,_=>List.Perm.refl _
 |x::r,i+1,hi=>by
  have ih:=iy r i (by simpa using hi);have tj:i<r.length:=by simpa using hi
  show(r[i]::x::r.eraseIdx i).Perm (x::r);exact(List.Perm.swap _ _ _).trans (ih.cons x)
theorem perm_back{α β:Type}{f:α->β}(g:β->α)(fe:∀p,g (f p)=p){l:List α}{es:List β}(hp:es.Perm (l.map f)):∃l':List α,es=l'.map f/\l'.Perm l:=by
 have h1:∀e∈es,f (g e)=e:=fun e he=>by
  obtain⟨p,_,rfl⟩:=a9.mp (hp.mem_iff.mp he);rw[fe]
 refine⟨es.map g,?_,?_⟩
 ·rw[bf]
  conv=>lhs;rw[<-List.map_id es]
  exact eU fun e he=>(h1 e he).symm
 ·have h2:=hp.map g;rw[bf,show List.map (g∘f) l=l by
   conv=>rhs;rw[<-List.map_id l]
   exact eU fun p _=>fe p]at h2
  exact h2
section
variable {prog:Program}{w:World}{A:Around}{E:Value->Shared->Prop}{s:Shared}
theorem wZ{M:Model}{src:Source}{n:Nat}{Q:Nat->Shared->Prop}(hn:n≠0)(h:∀i,i<n->∀d,Q i {s with drawn:=d}):wpAny M A (choose src n) Q E s:=fun Γ p _=>by
 unfold choose;rw[Sem.wp];refine⟨hn,?_⟩;rw[Sem.wp];exact h _ (f6 _ (Nat.pos_of_ne_zero hn)) _
theorem j5{M:Model}{α:Type}:∀(n:Nat) (xs:List α) (s:Shared) (Q:List α->Shared->Prop),xs.length=n->(∀ys d,ys.Perm xs->Q ys {s with drawn:=d})->wpAny M A (drawOrder n xs) Q E s
 |0,xs,s,Q,hl,h=>by
  cases xs with
  |nil=>exact af (h [] s.drawn (List.Perm.refl _))
  |cons _ _=>cases hl
 |n+1,[],s,Q,hl,h=>by cases hl
 |n+1,x::r,s,Q,hl,h=>by
  unfold drawOrder;refine aa (wZ (by simp) fun i hi d=>?_);have hx:(x::r)[i]?=some (x::r)[i]:=aH hi
  rw[hx];dsimp only;refine aa (j5 n _ _ _ (by rw[oq hi];simpa using hl) fun ys d' hp=>?_);refine af (h _ d' ?_);exact(hp.cons _).trans (iy _ i hi)
end
abbrev uj(w:World):Bool:=w.params.followText "set-order"
def kW:Key->Tok->Value
 |.inl i,t=>.int i t
 |.inr x,t=>.str x t
theorem Fu{k:Key}{t:Tok}:lM k (kW k t)=true:=by cases k<;>simp[lM,kW,Value.isInt,Value.isStrOf]
end L2
namespace L2
open PySem PySem.Spec PyProof.Rows
theorem bT:Slot "set_iterator" "__next__" "set_iterator.__next__":=.of (owner:="set_iterator") (n:="__next__")
 (by rw[lG,lb];kernel_rfl) (by decide+kernel) (by decide+kernel) (by decide+kernel) (by first|exact .inl (by decide+kernel)|exact .inr (by decide+kernel))
 (by rw[isSubtype_type];kernel_rfl)
theorem h9:entryFor table "set_iterator.__next__"=some Builtin.«set_iterator.__next__»:=entryFor_of_tree (by kernel_rfl)
theorem nq:Manifest.owners.lookup (String.ofList ['r', 'o', 't', 'a', 'r', 'e', 't', 'i', '_', 't', 'e', 's'].reverse)=some Manifest.sig_set_iterator:=by kernel_rfl
theorem iG(a:Value):argsOk "set_iterator.__next__" ⟨[a],[]⟩:=by
 unfold argsOk;rw[signature?_of (id:="set_iterator.__next__") (n:=['_', '_', 't', 'x', 'e', 'n', '_', '_']) (o:=['r', 'o', 't', 'a', 'r', 'e', 't', 'i', '_', 't', 'e', 's']) (by kernel_rfl) nq];kernel_rfl
theorem iH:Slot "set_iterator" "__iter__" "set_iterator.__iter__":=.of (owner:="set_iterator") (n:="__iter__")
 (by rw[lG,lb];kernel_rfl) (by decide+kernel) (by decide+kernel) (by decide+kernel) (by first|exact .inl (by decide+kernel)|exact .inr (by decide+kernel))
 (by rw[isSubtype_type];kernel_rfl)
theorem nH:entryFor table "set.__iter__"=some Builtin.«frozenset.__iter__»:=entryFor_alias (id':="frozenset.__iter__") (by kernel_rfl) rfl (by decide+kernel) (by kernel_rfl)
def nr(F:Value)(i:Nat)(a:Addr)(n ep:Nat):Obj:={cls:=.type "set_iterator",dict:=none,data:=.fields #[F,rawInt i,.ref a,rawInt n,rawInt ep],slots:=#[]}
section
variable {prog:Program}{w:World}{A:Around}{E:Value->Shared->Prop}{s:Shared}{I a:Addr}{o:Obj}{es:Array (Int×Value)}{ep:Nat}{t:SetTable}
theorem gG{Q:Array (Int×Value)->Shared->Prop}(ho:s.heap.get? a=some o)(hd:o.data=.set es ep t)(hf:t.fits es.size=true)(h:Q es s):wpAny (model prog w) A (setEntries a) Q E s:=by
 unfold setEntries;exact aa (dP ho hd hf (af h))
theorem pU{α:Type}{R:α->Shared->Prop}(hh:A.handled=none)
  (h:∀h' (x:Addr),Shared.TypeIs {s with heap:=h'} (.ref x) "StopIteration"->(∀b o,s.heap.get? b=some o->h'.get? b=some o)->E (.ref x) {s with heap:=h'}):
  wpAny (model prog w) A.in1 (newExc (.type "StopIteration") []) (fun x s'=>wpAny (model prog w) A.in1 (raiseNew x:Sem α) R E s') E s:=by
 simp only[newExc,newTuple];refine aa (dO ?_ (by size_fits));refine aa (m:=firstArgMember _ _) (wpAny_of_eq (a:=Value.none) (by first|rfl|(simp only[firstArgMember];rfl)) ?_);refine dO ?_ (by size_fits)
 simp only[raiseNew];refine aa (wpAny_handled ?_)
 first|rw[show A.in1.handled=none from hh]|rw[hh]
 refine aa (af (wpAny_throw ?_));exact h _ _ ⟨_,aQ _ rfl,rfl⟩ fun b o e=>ay _ (ay _ e)
theorem tm{slot i:Nat}{r:Option (Value×Nat)}{Q:Option Value->Shared->Prop}(hh:A.handled=none)(hit:s.heap.get? I=some (nr (rawInt slot) i a es.size ep))(ho:s.heap.get? a=some o)(hd:o.data=.set es ep t)(hf:t.fits es.size=true)
  (hn:∀(B:Around) (E':Value->Shared->Prop) (Q':Option (Value×Nat)->Shared->Prop),Q' r s->wpAny (model prog w) B (setNext a slot i ep) Q' E' s)
  (h1:∀x nx,r=some (x,nx)->∀h',h'.get? I=some (nr (rawInt nx) (i+1) a es.size ep)->Heap.SameBut I s.heap h'->Q (some x) {s with heap:=h'})
  (h2:r=none->∀h',Heap.ExtBut I s.heap h'->Q none {s with heap:=h'}):wpAny (model prog w) A (pyNext (.ref I)) Q E s:=by
 have hT:s.TypeIs (.ref I) "set_iterator":=⟨_,hit,rfl⟩;unfold pyNext;refine aa (fX (gs (name:=Str.ofString "__next__") hT bT (cT bT hT h9 ?_ (iG _))));unfold Builtin.«set_iterator.__next__»;refine aa (m:=slotArgs "__next__" 0 _) (af ?_);refine aa (gX hit rfl ?_);dsimp only;refine aa (gG ho hd hf ?_);rw[ae (by simp)];show wpAny _ _ (setNext a (slot:Int).toNat (i:Int).toNat (ep:Int).toNat>>=_) _ _ s;rw[dN,dN,dN];refine aa (hn _ _ _ ?_);cases r with
 |none=>
  dsimp only;refine aa (i4 hit rfl (by show 2<5;decide) ?_);refine aa (pU hh fun h' x hx hk=>?_);refine aa (i0 (T:="StopIteration") (b:=true) hx lJ ?_);exact af (h2 rfl _ fun b o hb e=>hk b o ((dM s.heap I _).extBut b o hb e))
 |some p=>
  obtain⟨x,nx⟩:=p;dsimp only;refine aa (eV hit (by show 0<5;decide) fun cO BB jt=>?_);refine aa (eV (s:={s with heap:=cO}) BB (by show 1<5;decide) fun mJ LF mO=>?_);exact af ⟨_,rfl,af (h1 x nx rfl mJ LF (jt.trans mO))⟩
end
end L2
namespace L2
open PySem PySem.Spec PyProof.Rows
theorem mP:entryFor table "set_iterator.__iter__"=some Builtin.«dict_keyiterator.__iter__»:=entryFor_alias (id':="dict_keyiterator.__iter__") (by kernel_rfl) rfl (by decide+kernel) (by kernel_rfl)
theorem nJ(a:Value):argsOk "set_iterator.__iter__" ⟨[a],[]⟩:=by
 unfold argsOk;rw[signature?_of (id:="set_iterator.__iter__") (n:=['_', '_', 'r', 'e', 't', 'i', '_', '_']) (o:=['r', 'o', 't', 'a', 'r', 'e', 't', 'i', '_', 't', 'e', 's']) (by kernel_rfl) nq];kernel_rfl
theorem yf{α:Type}(next:Nat->Nat):∀(fuel k:Nat) (left:List α) (out:Array α),left.length=fuel->(pickOrder.go next fuel k left out).toList.Perm (out.toList++left)
 |0,k,left,out,h=>by
  rw[List.eq_nil_of_length_eq_zero h];simp[pickOrder.go]
 |fuel+1,k,left,out,h=>by
  have hi:next k % left.length<left.length:=f6 _ (by omega)
  unfold pickOrder.go;rw[aH hi];dsimp only;refine(yf next fuel (k+1) _ _ (by rw[oq hi];omega)).trans ?_
  rw[oR,gw];exact(iy left _ hi).append_left _
theorem zH{α:Type}(next:Nat->Nat)(xs:Array α):(pickOrder next xs).toList.Perm xs.toList:=by
 have h:=yf next xs.size 0 xs.toList #[] (by simp)
 unfold pickOrder;simpa using h
def slotAt(t:SetTable):Nat->Nat
 |0=>0
 |i+1=>t.place.getD i 0+1
theorem pV{t:SetTable}(h:ko t.place):∀{i:Nat},i<=t.place.size->SetTable.below t.place (slotAt t i)=i
 |0,_=>wX h
 |i+1,hi=>wY h hi
section
variable {prog:Program}{w:World}{A:Around}{E:Value->Shared->Prop}{s:Shared}{I a:Addr}{o:Obj}{es:Array (Int×Value)}{ep:Nat}{t:SetTable}
theorem tw{F:Value}{i n e:Nat}{Q:Value->Shared->Prop}(hit:s.heap.get? I=some (nr F i a n e))(h:Q (.ref I) s):wpAny (model prog w) A (pyIter (.ref I)) Q E s:=by
 have hT:s.TypeIs (.ref I) "set_iterator":=⟨_,hit,rfl⟩;refine ph hT iH (cT iH hT mP ?_ (nJ _));show wpAny _ _ (ret (.ref I)) _ _ s;exact af ⟨_,rfl,"set_iterator",_,hT,bT.lookup,h⟩
theorem BC{tp:Addr}{i m:Nat}{ot:Obj}{pl:Array Value}{Q:Option Value->Shared->Prop}(hh:A.handled=none)(hit:s.heap.get? I=some (nr (.ref tp) i a es.size ep))(ho:s.heap.get? a=some o)(hd:o.data=.set es ep t)(hf:t.fits es.size=true)
  (PL:s.heap.get? tp=some ot) (NZ:ot.data=.seq pl m)
  (h1:∀(p:Nat) (e:Int×Value),pl[i]?=some (rawInt p)->es[p]?=some e->∀h',h'.get? I=some (nr (.ref tp) (i+1) a es.size ep)->Heap.SameBut I s.heap h'->Q (some e.2) {s with heap:=h'})
  (h2:pl[i]?=none->∀h',Heap.ExtBut I s.heap h'->Q none {s with heap:=h'})
  (nE:∀v,pl[i]?=some v->∃(p:Nat) (e:Int×Value),v=rawInt p/\es[p]?=some e):wpAny (model prog w) A (pyNext (.ref I)) Q E s:=by
 have hT:s.TypeIs (.ref I) "set_iterator":=⟨_,hit,rfl⟩;unfold pyNext;refine aa (fX (gs (name:=Str.ofString "__next__") hT bT (cT bT hT h9 ?_ (iG _))));unfold Builtin.«set_iterator.__next__»;refine aa (m:=slotArgs "__next__" 0 _) (af ?_);refine aa (gX hit rfl ?_);dsimp only;refine aa (gG ho hd hf ?_);rw[ae (by simp)];show wpAny _ _ (seqItems? (.ref tp)>>=_) _ _ s;refine aa (cY PL NZ ?_);dsimp only;rw[dN];cases hv:pl[i]? with
 |none=>
  dsimp only;refine aa (eV hit (by show 0<5;decide) fun cO BB jt=>?_);refine aa (eV (s:={s with heap:=cO}) BB (by show 2<5;decide) fun mJ LF mO=>?_);refine aa (pU hh fun h' x hx hk=>?_);refine aa (i0 (T:="StopIteration") (b:=true) hx lJ ?_);exact af (h2 hv _ fun b o hb e=>hk b o (mO.extBut b o hb (jt.extBut b o hb e)))
 |some v=>
  obtain⟨p,e,rfl,he⟩:=nE v hv;show wpAny _ _ (setNextDrawn a (p:Int).toNat (ep:Int).toNat>>=_) _ _ s;rw[dN,dN];refine aa ?_
  unfold setNextDrawn;refine aa (dP ho hd hf ?_);dsimp only;rw[ae (by simp),he];dsimp only;refine af ?_
  refine aa (eV hit (by show 1<5;decide) fun cO BB jt=>?_);exact af ⟨_,rfl,af (h1 p e hv he cO BB jt)⟩
theorem jS{Q:Bool->Shared->Prop}(h:Q (uj w) s):wpAny (model prog w) A setsByText Q E s:=by
 unfold setsByText;exact aa (wpAny_askSetting (af h))
theorem rR{slot i:Nat}{Q:Option (Value×Nat)->Shared->Prop}(hb:uj w=true)(ho:s.heap.get? a=some o)(hd:o.data=.set es ep t)(hf:t.fits es.size=true)
  (h:Q (((pickOrder (w.params.setOrder a ep) es)[i]?).map fun e=>(e.2,slot)) s):wpAny (model prog w) A (setNext a slot i ep) Q E s:=by
 unfold setNext;refine aa (dP ho hd hf ?_);dsimp only;refine aa (jS ?_);rw[hb,ab rfl];simp only[gL,bK,bp];refine aa ?_
 unfold setWalk;refine aa (dP ho hd hf ?_);dsimp only;refine aa (jS ?_);rw[hb,ab rfl];refine aa (wpAny_askSetting ?_);exact af (af h)
theorem u9{slot i:Nat}{Q:Option (Value×Nat)->Shared->Prop}(hb:uj w=false)(hl:t.led=true)(hz:t.plain=true\/es.size<=1)(ho:s.heap.get? a=some o)(hd:o.data=.set es ep t)(hf:t.fits es.size=true)
  (h:Q (match es[SetTable.below t.place slot]?,t.place[SetTable.below t.place slot]? with
   |some (_,x),some j=>some (x,j+1)
   |_,_=>none) s):wpAny (model prog w) A (setNext a slot i ep) Q E s:=by
 unfold setNext;refine aa (dP ho hd hf ?_);dsimp only;refine aa (jS ?_);rw[hb];simp only[bK,bp];refine gx (fun rb=>absurd (show(!t.plain&&decide (es.size>1))=true from rb) ?_) (fun _=>?_)
 ·rcases hz with z|z
  ·rw[z];exact cj
  ·rw[a_ (p:=es.size>1) (by omega),lB];exact cj
 ·refine aa (m:=(if(!t.led&&!es.isEmpty)=true then unsupported "set:maker-not-led"else pure ())) ?_
  rw[hl,ae (by simp)];exact af (af h)
end
end L2
namespace PySem
section
variable {prog:Program}{w:World}{A:Around}{E:Value->Shared->Prop}{s:Shared}
theorem BD(a:Value){Q₁:Value->Shared->Prop}
  (h:Q₁ (.ref s.heap.objs.size) {s with heap:=s.heap.push {cls:=.type "set",dict:=none,data:=.set #[] 0 (.fresh 0 0 (!L2.uj w))}}):
  codeAny (model prog w) A (.call (.builtin "set.__new__") ⟨[.type "set",a],[]⟩) (wants Q₁ E) s:=by
 refine codeAny_of_tree ?_
 show wpAny _ A.in1 (do checkBuiltinCall "set.__new__" ⟨[.type "set",a],[]⟩;again (.builtin "set.__new__" ⟨[.type "set",a],[]⟩)) _ _ s;refine aa (wpAny_of_eq (F.newCall_set_1 a) (af ⟨cZ F.plain_set_new _,dv F.entry_set_new ?_⟩));rw[dJ F.plain_set_new _];unfold Builtin.«set.__new__» Builtin.Frozenset.newClass;have HC:=sub_set_self;obtain⟨hp,g,d,tk,os⟩:=s;dsimp only
 wp_walk
 refine wpAny_askSetting (af ?_);dsimp only;simp only[newObj];refine aa (wpAny_alloc (af ?_));exact af h
end
end PySem
namespace L2
open PySem PySem.Spec PySem.Calls PyProof.Rows
section
variable {prog:Program}{w:World}{A:Around}{E:Value->Shared->Prop}{s:Shared}{a:Addr}{ss:List Key}
theorem BE{Q:Bool->Shared->Prop}(hT:s.TypeIs (.ref a) "set")(h:Q false s):wpAny (model prog w) A (Builtin.List.listLengthHint (.ref a)) Q E s:=by
 unfold Builtin.List.listLengthHint;refine aa (wpAny_specialOf hT PySem.F.slot_set_len.lookup ?_);generalize aN:("set.__len__":String)=Tq
 wp_delta
 rw[show splitId Tq=some ("set","__len__")from by subst aN;decide+kernel];subst aN;refine aa (i0 (T:="set") (b:=true) hT (by rw[isSubtype_type];kernel_rfl) ?_);refine gx (fun rb=>absurd rb (by decide)) (fun _=>?_);refine gx (fun _=>?_) (fun rb=>absurd (by decide+kernel) rb);exact aa (gY hT (af h))
end
end L2
namespace L2
open PySem PySem.Spec PyProof.Rows
theorem Inv.El {X:Cx}{pins:List (Addr×Obj)}{σ:St}{H:Hp}{s:Shared}(I:Inv X pins σ H s)(d:Drawn):Inv X pins σ H {s with drawn:=d}:=
 I.step (h':=s.heap) (H':=H) (g':=s.gens) (t':=s.toks) (d':=d) (ch:=[]) (fun _ z=>nomatch z) (fun b o _ _ _ e _=>e) (fun b o _ _ _ e _=>⟨o.slots,e⟩) (fun b o _ _ n=>n) (fun b o _ e=>⟨o,e⟩) (fun _ _ e=>e) (fun _ _ _ e=>e)
   (fun b ps e=>⟨#[],by rw[e];simp⟩) (fun m hm=>hm) I.bC I.bare
end L2
namespace L2
open PySem PySem.Spec PyProof.Rows
section
variable {prog:Program}{w:World}{A:Around}{E:Value->Shared->Prop}{s:Shared}
theorem pW{it t:Addr}{i:Nat}{items:Array Value}{x:Value}{Q:Value->Shared->Prop}(hit:s.heap.IsTupleIter it t i)(ht:s.heap.IsTuple t items)(hx:items[i]?=some x)
  (hQ:∀h',h'.IsTupleIter it t (i+1)->Heap.SameBut it s.heap h'->Q x {s with heap:=h'}):wpAny (model prog w) A (Builtin.SmallTypes.nextOf (.ref it)) Q E s:=by
 have key:wpAny (model prog w) A (pyNext (.ref it)) (fun r s'=>∃v,r=some v/\Q v s') (fun _ _=>False) s:=oH hit ht hx fun h' a b=>⟨x,rfl,hQ h' a b⟩;obtain⟨o,ho,hc,hd⟩:=id hit;obtain⟨ol,JG,_,nl,JH⟩:=ht;unfold Builtin.SmallTypes.nextOf;refine aa (gs (name:=Str.ofString "__next__") hit.typeIs kO (cT kO hit.typeIs F.entry_tuple_iterator_next ?_ (F.args_tuple_iterator_next_1 _)));show wpAny _ _ (field (.ref it) 0>>=_) _ _ s;refine aa (dw ho hd (x:=.ref t) rfl ?_);show wpAny _ _ (if(Value.ref t==Value.none)=true then _ else _) _ _ s;rw[ae (show¬((Value.ref t==Value.none)=true)from cj)];show wpAny _ _ (field (.ref it) 1>>=_) _ _ s;refine aa (dw ho hd (x:=.int i 0) rfl ?_);show wpAny _ _ (seqItems? (.ref t)>>=_) _ _ s;refine aa (cY JG JH ?_);simp only[dN,hx];refine aa (i4 ho hd (by simp) (af ⟨x,rfl,af (hQ _ ?_ (dM ..))⟩));exact⟨_,jM _ ho (Obj.isFreed_of_fields (lq hd _)),(Obj.cls_mapFields ..).trans hc,by rw[lq hd];simp[rawInt]⟩
theorem zI{it t:Addr}{i:Nat}{items:Array Value}{Q:Value->Shared->Prop}(hh:A.handled=none)(hit:s.heap.IsTupleIter it t i)(ht:s.heap.IsTuple t items)(hx:items[i]?=none)
  (hE:∀h' (e:Addr),Heap.ExtBut it s.heap h'->Shared.TypeIs {s with heap:=h'} (.ref e) "StopIteration"->E (.ref e) {s with heap:=h'}):wpAny (model prog w) A (Builtin.SmallTypes.nextOf (.ref it)) Q E s:=by
 obtain⟨o,ho,hc,hd⟩:=id hit;obtain⟨ol,JG,_,nl,JH⟩:=ht;unfold Builtin.SmallTypes.nextOf;refine aa (gs (name:=Str.ofString "__next__") hit.typeIs kO (cT kO hit.typeIs F.entry_tuple_iterator_next ?_ (F.args_tuple_iterator_next_1 _)));show wpAny _ _ (field (.ref it) 0>>=_) _ _ s;refine aa (dw ho hd (x:=.ref t) rfl ?_);show wpAny _ _ (if(Value.ref t==Value.none)=true then _ else _) _ _ s;rw[ae (show¬((Value.ref t==Value.none)=true)from cj)];show wpAny _ _ (field (.ref it) 1>>=_) _ _ s;refine aa (dw ho hd (x:=.int i 0) rfl ?_);show wpAny _ _ (seqItems? (.ref t)>>=_) _ _ s;refine aa (cY JG JH ?_);simp only[dN,hx];refine aa (dR (aa (i4 ho hd (by simp) ?_)));show wpAny _ _ (newExc (.type "StopIteration") []>>=_) _ _ _;refine aa (pU hh fun h' x zJ hk=>?_);exact hE h' x (fun b o hb e=>hk b o ((dM ..).extBut b o hb e)) zJ
structure ZA(z TI TO i1 i2:Addr):Prop where
 TIz:TI≠z
 TOz:TO≠z
 i1z:i1≠z
 i2z:i2≠z
 TITO:TI≠TO
 TIi1:TI≠i1
 TIi2:TI≠i2
 TOi1:TO≠i1
 TOi2:TO≠i2
 i12:i1≠i2
theorem zK{z TI TO i1 i2 l1 l2:Addr}{k1 k2:Nat}{xs ys:Array Value}{x y a b:Value}{Q:Option Value->Shared->Prop}(D:ZA z TI TO i1 i2)(hz:IsZip s.heap z TI TO .none)(w4:IsPair s.heap TI (.ref i1) (.ref i2))(zL:IsPair s.heap TO a b)
  (h1:s.heap.IsTupleIter i1 l1 k1) (h2:s.heap.IsTupleIter i2 l2 k2) (AH:s.heap.IsTuple l1 xs) (DJ:s.heap.IsTuple l2 ys) (d1:l1≠z/\l1≠TO/\l1≠i1/\l1≠i2) (d2:l2≠z/\l2≠TO/\l2≠i1/\l2≠i2) (hx:xs[k1]?=some x) (hy:ys[k2]?=some y)
  (hQ:∀h',IsZip h' z TI TO (rawInt s.heap.objs.size)->IsPair h' TO x y->h'.IsTupleIter i1 l1 (k1+1)->h'.IsTupleIter i2 l2 (k2+1)->IsPair h' s.heap.objs.size x y->
   (∀c o,c≠z->c≠TO->c≠i1->c≠i2->s.heap.get? c=some o->h'.get? c=some o)->Q (some (.ref s.heap.objs.size)) {s with heap:=h'}):wpAny (model prog w) A (pyNext (.ref z)) Q E s:=by
 have hT:s.TypeIs (.ref z) "zip":=⟨_,hz,rfl⟩;unfold pyNext;refine aa (fX (gs (name:=Str.ofString "__next__") hT lH (cT lH hT F.entry_zip_next ?_ (F.args_zip_next_1 _))));show wpAny _ _ (field (.ref z) 2>>=_) _ _ _;refine aa (dw hz rfl (x:=.bool false) rfl ?_);show wpAny _ _ (field (.ref z) 3>>=_) _ _ _;refine aa (dw hz rfl (x:=.ref TI) rfl (aa (cY w4 rfl ?_)));show wpAny _ _ (Builtin.SmallTypes.ownedTupleIsFree (.ref z)>>=_) _ _ _;refine aa ?_
 unfold Builtin.SmallTypes.ownedTupleIsFree;refine aa (dw hz rfl (x:=.none) rfl (af ?_));simp only[fc];refine aa (dR (aa (dw hz rfl (x:=.ref TO) rfl ?_)));refine aa (eV hz (by simp) fun cO pX jt=>?_);replace pX:IsZip cO z TI TO .ellipsis:=pX;refine aa ?_
 simp only[List.zipIdx_cons,List.zipIdx_nil,o6,List.forIn_nil];refine aa (aa (wpAny_onRaise ?_));show wpAny _ _ (Builtin.SmallTypes.nextOf (.ref i1)>>=_) _ _ _;refine aa (pW (s:={s with heap:=cO}) (h1.extBut jt.extBut D.i1z) (AH.extBut jt.extBut d1.1) hx fun mJ LG mO=>af ?_);have BF:IsPair mJ TO a b:=mO.extBut _ _ D.TOi1 (jt.extBut _ _ D.TOz zL);refine aa (cY BF rfl (aa (wpAny_updateSeq_pair BF fun uQ w6 tD=>?_)));replace w6:IsPair uQ TO x b:=w6;refine aa (f7 (af (aa (aa (wpAny_onRaise ?_)))));show wpAny _ _ (Builtin.SmallTypes.nextOf (.ref i2)>>=_) _ _ _;refine aa (pW (s:={s with heap:=uQ}) (((h2.extBut jt.extBut D.i2z).extBut mO.extBut D.i12.symm).extBut tD.extBut D.TOi2.symm) (((DJ.extBut jt.extBut d2.1).extBut mO.extBut d2.2.2.1).extBut tD.extBut d2.2.1) hy fun G_ LH BG=>af ?_);have BH:IsPair G_ TO x b:=BG.extBut _ _ D.TOi2 w6;refine aa (cY BH rfl (aa (wpAny_updateSeq_pair BH fun jZ tK BI=>?_)));replace tK:IsPair jZ TO x y:=tK;refine aa (f7 (af (af ?_)));refine aa (cY tK rfl (aa (lK ?_)));have hsz:jZ.objs.size=s.heap.objs.size:=by rw[BI.1,BG.1,tD.1,mO.1,jt.1]
 have Fv:IsZip jZ z TI TO .ellipsis:=BI.extBut _ _ D.TOz.symm (BG.extBut _ _ D.i2z.symm (tD.extBut _ _ D.TOz.symm (mO.extBut _ _ D.i1z.symm pX)));have LI:∀c o,c≠z->c≠TO->c≠i1->c≠i2->s.heap.get? c=some o->jZ.get? c=some o:=fun c o c1 c2 c3 c4 e=>BI.extBut _ _ c2 (BG.extBut _ _ c4 (tD.extBut _ _ c2 (mO.extBut _ _ c3 (jt.extBut _ _ c1 e))));have LJ:jZ.IsTupleIter i1 l1 (k1+1):=((LG.extBut tD.extBut D.TOi1.symm).extBut BG.extBut D.i12).extBut BI.extBut D.TOi1.symm;have LK:jZ.IsTupleIter i2 l2 (k2+1):=LH.extBut BI.extBut D.TOi2.symm;have LL:z<jZ.objs.size:=aA Fv;show wpAny _ _ (Builtin.SmallTypes.ownedTupleHandOut (.ref z) (.ref jZ.objs.size)>>=_) _ _ _;refine aa ?_
 unfold Builtin.SmallTypes.ownedTupleHandOut;have LM:IsZip (jZ.push {cls:=.type "tuple",data:=.seq #[x,y]}) z TI TO .ellipsis:=ay _ Fv;refine aa (eV LM (by simp) fun PM BJ LN=>?_);replace BJ:IsZip PM z TI TO (rawInt jZ.objs.size):=BJ;refine eV BJ (by simp) fun Em yg LO=>?_
 replace yg:IsZip Em z TI TO (rawInt jZ.objs.size):=yg;have up:∀c o,c≠z->jZ.get? c=some o->Em.get? c=some o:=fun c o c1 e=>LO.extBut _ _ c1 (LN.extBut _ _ c1 (ay _ e));have Fw:IsPair Em jZ.objs.size x y:=LO.extBut _ _ (bY LL) (LN.extBut _ _ (bY LL) (aQ _ rfl));rw[hsz]at yg Fw;refine af ⟨_,rfl,af ?_⟩;show Q (some (.ref jZ.objs.size)) _;rw[hsz];exact hQ Em yg (up _ _ D.TOz tK) (LJ.at fun o e=>up _ o D.i1z e) (LK.at fun o e=>up _ o D.i2z e) Fw fun c o c1 c2 c3 c4 e=>up c o c1 (LI c o c1 c2 c3 c4 e)
theorem BK{z TI TO i1 i2 l1:Addr}{k1:Nat}{xs:Array Value}{a b:Value}{Q:Option Value->Shared->Prop}(hh:A.handled=none)(D:ZA z TI TO i1 i2)(hz:IsZip s.heap z TI TO .none)(w4:IsPair s.heap TI (.ref i1) (.ref i2))(zL:IsPair s.heap TO a b)
  (h1:s.heap.IsTupleIter i1 l1 k1) (AH:s.heap.IsTuple l1 xs) (d1:l1≠z) (hx:xs[k1]?=none)
  (hQ:∀h',(∀c o,c≠z->c≠i1->s.heap.get? c=some o->h'.get? c=some o)->Q none {s with heap:=h'}):wpAny (model prog w) A (pyNext (.ref z)) Q E s:=by
 have hT:s.TypeIs (.ref z) "zip":=⟨_,hz,rfl⟩;unfold pyNext;refine aa (fX (gs (name:=Str.ofString "__next__") hT lH (cT lH hT F.entry_zip_next ?_ (F.args_zip_next_1 _))));show wpAny _ _ (field (.ref z) 2>>=_) _ _ _;refine aa (dw hz rfl (x:=.bool false) rfl ?_);show wpAny _ _ (field (.ref z) 3>>=_) _ _ _;refine aa (dw hz rfl (x:=.ref TI) rfl (aa (cY w4 rfl ?_)));show wpAny _ _ (Builtin.SmallTypes.ownedTupleIsFree (.ref z)>>=_) _ _ _;refine aa ?_
 unfold Builtin.SmallTypes.ownedTupleIsFree;refine aa (dw hz rfl (x:=.none) rfl (af ?_));simp only[fc];refine aa (dR (aa (dw hz rfl (x:=.ref TO) rfl ?_)));refine aa (eV hz (by simp) fun cO pX jt=>?_);replace pX:IsZip cO z TI TO .ellipsis:=pX;refine aa ?_
 simp only[List.zipIdx_cons,List.zipIdx_nil,o6,List.forIn_nil];refine aa (aa (wpAny_onRaise ?_));show wpAny _ _ (Builtin.SmallTypes.nextOf (.ref i1)>>=_) _ _ _;refine aa (zI (s:={s with heap:=cO}) hh (h1.extBut jt.extBut D.i1z) (AH.extBut jt.extBut d1) hx fun mJ e mO he=>?_);have Fx:IsZip mJ z TI TO .ellipsis:=mO _ _ D.i1z.symm pX;obtain⟨oe,RI,RJ⟩:=he;have Ts:e≠z:=fun q=>by
  have LP:mJ.get? e=some oe:=RI;rw[q,Fx]at LP;cases LP;simp at RJ
 refine eV (s:={s with heap:=mJ}) Fx (by simp) fun uQ _ tD=>?_
 refine aa (i0 (s:={s with heap:=uQ}) (T:="StopIteration") (b:=true) ⟨oe,tD.extBut _ _ Ts RI,RJ⟩ lJ ?_);exact af (hQ uQ fun c o c1 c2 q=>tD.extBut _ _ c1 (mO _ _ c2 (jt.extBut _ _ c1 q)))
end
end L2
namespace PySem
abbrev N0(h:Heap)(l1:Addr):Heap:=h.push {cls:=.type "tuple_iterator",data:=.fields #[.ref l1,.int 0 0]}
abbrev N1(h:Heap)(l1 l2:Addr):Heap:=(N0 h l1).push {cls:=.type "tuple_iterator",data:=.fields #[.ref l2,.int 0 0]}
abbrev N2(h:Heap)(l1 l2:Addr):Heap:=(N1 h l1 l2).push {cls:=.type "tuple",data:=.seq #[.ref h.objs.size,.ref (N0 h l1).objs.size]}
abbrev N3(h:Heap)(l1 l2:Addr):Heap:=(N2 h l1 l2).push {cls:=.type "tuple",data:=.seq #[.none,.none]}
abbrev JI(h:Heap)(l1 l2:Addr):Heap:=(N3 h l1 l2).push {cls:=.type "zip",data:=.fields #[.none,.bool false,.bool false,.ref (N1 h l1 l2).objs.size,.ref (N2 h l1 l2).objs.size]}
theorem w8(l1 l2:Addr)(xs ys:Array Value):Meets (Builtin.«zip.__new__» ⟨[.type "zip",.ref l1,.ref l2],[]⟩)
  (fun _ R s=>s.heap.IsTuple l1 xs/\s.heap.IsTuple l2 ys/\R (.ok (.ret (.ref (N3 s.heap l1 l2).objs.size))) {s with heap:=JI s.heap l1 l2}):=
 .of_wp fun prog w A R s h=>by
  obtain⟨hp,g,d,tk,os⟩:=s;obtain⟨AH,DJ,h⟩:=h;have HC:=sub_zip;have LQ:Heap.IsTuple (Shared.heap ⟨hp,g,d,tk,os⟩) l1 xs:=AH;have Tt:Heap.IsTuple (Shared.heap ⟨hp.push {cls:=.type "tuple_iterator",data:=.fields #[.ref l1,.int 0 0]},g,d,tk,os⟩) l2 ys:=DJ.at fun o e=>ay _ e
  wp_walk using lp LQ,lp Tt
  exact⟨_,rfl,h⟩
section
variable {prog:Program}{w:World}{A:Around}{E:Value->Shared->Prop}{s:Shared}
theorem zM{l1 l2:Addr}{xs ys:Array Value}{Q:Value->Shared->Prop}(AH:s.heap.IsTuple l1 xs)(DJ:s.heap.IsTuple l2 ys)
  (h:∀h',IsZip h' (s.heap.objs.size+4) (s.heap.objs.size+2) (s.heap.objs.size+3) .none->IsPair h' (s.heap.objs.size+2) (.ref s.heap.objs.size) (.ref (s.heap.objs.size+1))->
   IsPair h' (s.heap.objs.size+3) .none .none->h'.IsTupleIter s.heap.objs.size l1 0->h'.IsTupleIter (s.heap.objs.size+1) l2 0->(∀c o,s.heap.get? c=some o->h'.get? c=some o)->Q (.ref (s.heap.objs.size+4)) {s with heap:=h'}):
  wpAny (model prog w) A (call (.type "zip") [.ref l1,.ref l2]) Q E s:=by
 refine callType_new F.called_zip (by decide) (F.typeCall_zip_2 _ _) (F.newCall_zip_2 _ _) (fun obj=>F.args_object_init_3 obj _ _) F.entry_zip_new (w8 l1 l2 xs ys) ⟨AH,DJ,?_⟩;have z1:(N0 s.heap l1).objs.size=s.heap.objs.size+1:=eZ ..;have z2:(N1 s.heap l1 l2).objs.size=s.heap.objs.size+2:=by rw[eZ,z1]
 have z3:(N2 s.heap l1 l2).objs.size=s.heap.objs.size+3:=by rw[eZ,z2]
 have z4:(N3 s.heap l1 l2).objs.size=s.heap.objs.size+4:=by rw[eZ,z3]
 have up:∀{h:Heap} {c:Addr} {o o':Obj},h.get? c=some o->(h.push o').get? c=some o:=fun e=>ay _ e;have g5:(JI s.heap l1 l2).get? (N3 s.heap l1 l2).objs.size=some _:=aQ _ rfl;have g4:(JI s.heap l1 l2).get? (N2 s.heap l1 l2).objs.size=some _:=up (aQ _ rfl);have g3:(JI s.heap l1 l2).get? (N1 s.heap l1 l2).objs.size=some _:=up (up (aQ _ rfl));have g2:(JI s.heap l1 l2).get? (N0 s.heap l1).objs.size=some _:=up (up (up (aQ _ rfl)));have g1:(JI s.heap l1 l2).get? s.heap.objs.size=some _:=up (up (up (up (aQ _ rfl))));show _/\_;rw[z2,z3,z4]at g5;rw[z1,z2]at g3;rw[z3]at g4;rw[z1]at g2;rw[z4];exact⟨⟨_,g5,rfl⟩,h _ g5 g3 g4 ⟨_,g1,rfl,rfl⟩ ⟨_,g2,rfl,rfl⟩ fun c o x=>up (up (up (up (up x))))⟩
end
end PySem
namespace L2
open PySem PySem.Spec PyProof.Rows
section
variable {X:Cx}{pins:List (Addr×Obj)}{σ:St}{H:Hp}{s:Shared}{h':Heap}
theorem gy.apart {a b:Addr}{xs:List V}(I:Inv X pins σ H s)(h:gy X.K H a xs)(f:iL X pins H b):a≠b:=by
 rcases h with(h|⟨o,h⟩)|⟨o,aT,n,hk,_⟩
 ·exact aJ h f.1
 ·exact aJ h f.1
 ·intro e;subst e;have hb:=I.ok.mod.J8 a o hk;rcases f.2.2.2.1 with q|q
  ·exact I.ok.zj a o hb q
  ·exact absurd (bj (aA (I.ok.bs a o hb).1) q) (ck _)
theorem Inv.zN {ch:List Addr}{T:Addr}{o:HO}{t':Nat}(I:Inv X pins σ H s)(rj:∀b∈ch,iL X pins H b)(k:∀b o,b∉ch->s.heap.get? b=some o->h'.get? b=some o)(hT:s.heap.objs.size<=T)
  (new:bg X.prog X.w (upd H T o) h' T o):Inv X pins σ (upd H T o) {s with heap:=h',toks:=t'}:=by
 have Fy:H T=none:=I.bC.fresh hT;have AR:∀b u,H b=some u->b∉ch:=fun b u e m=>by rw[(rj b m).1]at e;cases e
 refine I.step (g':=s.gens) (d':=s.drawn) (ch:=ch) (fun b hb=>?_) (fun b o _ _ hc e _=>k b o hc e) (fun b o _ _ hc e _=>⟨o.slots,k b o hc e⟩) (fun b o _ e n=>?_) (fun b o hc e=>⟨o,k b o hc e⟩) (fun b xs e=>?_) (fun b o u e=>?_) (fun b ps e=>⟨#[],?_⟩) (fun m hm=>?_) (fun b u e=>?_) I.bare
 ·obtain⟨_,x1,_,x3,x4,x5⟩:=rj b hb;exact⟨x3,x1,x4,x5⟩
 ·rw[ah (aP (bj (aA e) hT))];exact n
 ·rw[ah (aJ e Fy)];exact e
 ·rw[ah (aJ e Fy)];exact e
 ·rw[ah (aJ e Fy),e];simp
 ·exact hm.at' fun o e=>k _ o (fun z=>(rj _ z).2.1 rfl) e
 ·by_cases hb:b=T
  ·subst hb;rw[aF]at e;cases e;exact new
  ·rw[ah hb]at e;refine(I.bC b u e).j_ (fun c v hc q=>k c v ?_ q) (fun c q=>by rw[ah (aJ q Fy)];exact q) fun c xs q=>by rw[ah (aJ q Fy)];exact q
   rcases hc with rfl|hc
   ·exact AR c u e
   ·exact AR c _ hc
theorem Inv.zO {ch:List Addr}{t':Nat}(I:Inv X pins σ H s)(rj:∀b∈ch,iL X pins H b)(k:∀b o,b∉ch->s.heap.get? b=some o->h'.get? b=some o):Inv X pins σ H {s with heap:=h',toks:=t'}:=by
 have AR:∀b u,H b=some u->b∉ch:=fun b u e m=>by rw[(rj b m).1]at e;cases e
 refine I.step (g':=s.gens) (d':=s.drawn) (ch:=ch) (fun b hb=>?_) (fun b o _ _ hc e _=>k b o hc e) (fun b o _ _ hc e _=>⟨o.slots,k b o hc e⟩) (fun b o _ e n=>n) (fun b o hc e=>⟨o,k b o hc e⟩) (fun b xs e=>e) (fun b o u e=>e) (fun b ps e=>⟨#[],by rw[e];simp⟩) (fun m hm=>?_) (fun b u e=>?_) I.bare
 ·obtain⟨_,x1,_,x3,x4,x5⟩:=rj b hb;exact⟨x3,x1,x4,x5⟩
 ·exact hm.at' fun o e=>k _ o (fun z=>(rj _ z).2.1 rfl) e
 ·refine(I.bC b u e).j_ (fun c v hc q=>k c v ?_ q) (fun c q=>q) fun c xs q=>q;rcases hc with rfl|hc
  ·exact AR c u e
  ·exact AR c _ hc
end
def PN(K:PySem.W.Frag)(a b:Addr):It:=
 ⟨fun i H=>∃xs ys x y,gy K H a xs/\gy K H b ys/\xs[i]?=some x/\ys[i]?=some y,
  fun i H v H'=>∃T x y,v=.ref T/\H T=none/\H'=upd H T (.tup [x,y])/\(∀xs,gy K H a xs->xs[i]?=some x)/\(∀ys,gy K H b ys->ys[i]?=some y),
  fun i H=>∃xs,gy K H a xs/\xs.length<=i⟩
theorem LR{G:Prop}(k:∀P:Prop,(G->P)->P):G:=k G id
theorem BL{P:Program}{w:World}{K:PySem.W.Frag}{es:List Expr}{x1:Nat}{pos:Pos}{z TI TO i1 i2 a b:Addr}(D:ZA z TI TO i1 i2):
  Turn P w K (.Tuple es x1 pos) (PN K a b) [z,TI,TO,i1,i2] z (fun i h=>IsZip h z TI TO .none/\IsPair h TI (.ref i1) (.ref i2)/\(∃p q,IsPair h TO p q)/\h.IsTupleIter i1 a i/\h.IsTupleIter i2 b i) where
 mem:=by simp
 obj:=fun i h st c hc=>by
  obtain⟨hz,w4,⟨p,q,zL⟩,⟨o1,e1,c1,d1⟩,⟨o2,e2,c2,d2⟩⟩:=st;simp only[aO,dQ,cN]at hc;rcases hc with rfl|rfl|rfl|rfl|rfl
  ·exact⟨_,hz,fun v e=>by cases(show Data.fields _=Data.cell v from e)⟩
  ·exact⟨_,w4,fun v e=>by cases(show Data.seq _ _=Data.cell v from e)⟩
  ·exact⟨_,zL,fun v e=>by cases(show Data.seq _ _=Data.cell v from e)⟩
  ·exact⟨o1,e1,fun v e=>by rw[d1]at e;cases e⟩
  ·exact⟨o2,e2,fun v e=>by rw[d2]at e;cases e⟩
 keep:=fun i h h' st k=>by
  obtain⟨hz,w4,⟨p,q,zL⟩,h1,h2⟩:=st;exact⟨k z (by repeat constructor) _ hz,k TI (by repeat constructor) _ w4,⟨p,q,k TO (by repeat constructor) _ zL⟩,h1.at fun o e=>k i1 (by repeat constructor) o e,h2.at fun o e=>k i2 (by repeat constructor) o e⟩
 item:=by
  intro X hP hw hK hc i pins s σ H E I hf st hg;subst hP hw hK;refine LR fun P go=>?_
  obtain⟨xs,ys,x,y,JJ,HD,hx,hy⟩:=hg;obtain⟨hz,w4,⟨p,q,zL⟩,h1,h2⟩:=st;obtain⟨BM,N4,p1,_⟩:=I.tuple JJ;obtain⟨uJ,AI,p2,_⟩:=I.tuple HD;obtain⟨u1,Tu,Tv⟩:=N4.get hx;obtain⟨u2,Tw,Tx⟩:=AI.get hy;have N5:∀c∈[z,TI,TO,i1,i2],a≠c:=fun c m=>JJ.apart I (hf c m);have N6:∀c∈[z,TI,TO,i1,i2],b≠c:=fun c m=>HD.apart I (hf c m);refine go ?_
  refine zK D hz w4 zL h1 h2 (show s.heap.IsTuple a BM.toArray from p1) (show s.heap.IsTuple b uJ.toArray from p2) ⟨N5 _ (by repeat constructor),N5 _ (by repeat constructor),N5 _ (by repeat constructor),N5 _ (by repeat constructor)⟩ ⟨N6 _ (by repeat constructor),N6 _ (by repeat constructor),N6 _ (by repeat constructor),N6 _ (by repeat constructor)⟩
   (x:=u1) (y:=u2) (by simpa using Tu) (by simpa using Tw) fun cO g1 g2 g3 g4 g5 kk=>?_
  refine⟨_,rfl,wpAny_letOwnedTupleGo_zip g1 fun mJ k1 sb=>?_⟩;have lt:∀{c:Addr} {o:Obj},s.heap.get? c=some o->s.heap.objs.size≠c:=fun e=>bY (aA e);have Tz:s.heap.objs.size≠z:=lt hz;have up:∀c o,c∉[z,TO,i1,i2]->s.heap.get? c=some o->mJ.get? c=some o:=fun c o m e=>by
   simp only[aO,dQ,cN,not_or]at m;exact sb.extBut _ _ m.1 (kk c o m.1 m.2.1 m.2.2.1 m.2.2.2 e)
  have GP:IsPair mJ s.heap.objs.size u1 u2:=sb.extBut _ _ Tz g5;refine⟨.ref s.heap.objs.size,_,I.zN (t':=s.toks) (ch:=[z,TO,i1,i2]) (T:=s.heap.objs.size) (o:=.tup [x,y]) (fun c m=>hf c ?_) up (ak _) ⟨by show 2<=sizeLine;decide,[u1,u2],.cons Tv (.cons Tx .nil),⟨_,GP,rfl,_,rfl,rfl⟩⟩,rfl,
   ⟨s.heap.objs.size,x,y,rfl,I.fresh,rfl,fun TC h=>by rw[I.jP h JJ];exact hx,fun VN h=>by rw[I.jP h HD];exact hy⟩,
   ⟨k1,sb.extBut _ _ D.TIz (kk _ _ D.TIz D.TITO D.TIi1 D.TIi2 w4),⟨u1,u2,sb.extBut _ _ D.TOz g2⟩,g3.extBut sb.extBut D.i1z,g4.extBut sb.extBut D.i2z⟩,fun c m=>?_⟩
  ·simp only[aO,dQ,cN]at m;rcases m with rfl|rfl|rfl|rfl<;>repeat constructor
  ·rw[ah ?_]
   ·exact(hf c m).1
   ·simp only[aO,dQ,cN]at m;obtain⟨o1,e1,_⟩:=h1;obtain⟨o2,e2,_⟩:=h2;rcases m with rfl|rfl|rfl|rfl|rfl
    ·exact(lt hz).symm
    ·exact(lt w4).symm
    ·exact(lt zL).symm
    ·exact(lt e1).symm
    ·exact(lt e2).symm
 done:=by
  intro X hP hw hK hc i pins s σ H E I hf st hg;subst hP hw hK;obtain⟨xs,JJ,hx⟩:=hg;obtain⟨hz,w4,⟨p,q,zL⟩,h1,h2⟩:=st;obtain⟨BM,N4,p1,_⟩:=I.tuple JJ;have hl:=N4.length;refine BK (I.ok.hd hc) D hz w4 zL h1 (show s.heap.IsTuple a BM.toArray from p1) (JJ.apart I (hf z (by repeat constructor))) (by simp;omega) fun h' kk=>⟨rfl,?_⟩;refine I.zO (t':=s.toks) (ch:=[z,i1]) (fun c m=>hf c ?_) fun c o m e=>?_
  ·simp only[aO,dQ,cN]at m⊢;rcases m with h|h<;>simp[h]
  ·simp only[aO,dQ,cN,not_or]at m;exact kk c o m.1 m.2 e
 self:=fun _ _ _ _ _ st h=>wpAny_pyIter_zip st.1 h
theorem HE(n:Nat):ZA (n+4) (n+2) (n+3) n (n+1):=⟨aP (by omega),aP (by omega),aP (by omega),aP (by omega),aP (by omega),bY (by omega),bY (by omega),bY (by omega),bY (by omega),aP (by omega)⟩
def PO(K:PySem.W.Frag)(ta:TA):TI:=fun σ H R=>ta σ H fun vs H1=>∃a b xs ys,vs=[.ref a,.ref b]/\gy K H1 a xs/\gy K H1 b ys/\R (PN K a b) H1
theorem zQ:bootBuiltins "zip"=some (.type "zip"):=by decide+kernel
theorem HF{X:Cx}{es:List Expr}{x1:Nat}{uG:Pos}{a b:Expr}{ta:TA}{p pos:Pos}(hg:Gl X "zip")(hm:X.mg "zip"=none)(ha:PA X [a,b] ta)(hs:starEach [a,b] X.env=[(false,eval a X.env),(false,eval b X.env)]:=by rfl) (RK:starEach [b] X.env=[(false,eval b X.env)]:=by rfl):
  PI X (.Tuple es x1 uG) (.Call (.Name "zip" p) [a,b] [] pos) (PO X.K ta):=by
 intro pins s σ H R I h;refine Call_ (ka I hg hm zQ (oo (dq (ha pos pins s σ H _ I h) fun us s1 ⟨vs,H1,I1,r1,q1⟩=>?_) (by rw[hs,RK]) (by rw[RK];rfl)));obtain⟨c,d,xs,ys,e,hc,hd,q⟩:=q1;subst e;obtain⟨u,v,rfl,ru,rv⟩:=vals2 r1;cases(show u=Value.ref c from ru);cases(show v=Value.ref d from rv);obtain⟨BM,N4,p1,_⟩:=I1.tuple hc;obtain⟨uJ,AI,p2,_⟩:=I1.tuple hd;refine zM (show s1.heap.IsTuple c BM.toArray from p1) (show s1.heap.IsTuple d uJ.toArray from p2) fun h' hz w4 zL g1 g2 kk=>?_
 have I2:Inv X pins σ H1 {s1 with heap:=h'}:=I1.kept (t':=s1.toks) kk;refine wpAny_pyIter_zip hz ⟨s1.heap.objs.size+4,[s1.heap.objs.size+4,s1.heap.objs.size+2,s1.heap.objs.size+3,s1.heap.objs.size,s1.heap.objs.size+1],_,_,H1,rfl,I2,BL (HE _),⟨hz,w4,⟨_,_,zL⟩,g1,g2⟩,fun b m=>?_,q⟩;have hb:s1.heap.objs.size<=b:=by
  simp only[aO,dQ,cN]at m;rcases m with rfl|rfl|rfl|rfl|rfl
  ·exact gP _ 4
  ·exact gP _ 2
  ·exact gP _ 3
  ·exact ak _
  ·exact gP _ 1
 exact I1.uD hb (I1.bC.fresh hb)
end L2
namespace L2
open PySem PySem.Spec PyProof.Rows
def zR(us ws:List Tr):List Tr:=List.zipWith (fun a b=>.tup [a,b]) us ws
section
variable {X:Cx}{a b e:Expr}{pos p uG:Pos}{L:ax->Rs (List Tr)}{es:List Expr}{x1:Nat}
theorem zS{K:PySem.W.Frag}{B:bD}{H:Hp}{a b:Addr}{vs ws:List V}{ts us:List Tr}(h:gy K (aN B H) a vs)(r:aI K (aN B H) vs ts)(h2:gy K (aN B H) b ws)(r2:aI K (aN B H) ws us)(hl:ts.length<=us.length):jm K B (PN K a b) H (zR ts us) where
 go:=fun i B' H' hi s hb=>by
  have tj:i<ts.length:=by unfold zR at hi;rw[oK]at hi;omega
  have hv:i<vs.length:=by rw[r.length];exact tj
  have hw:i<ws.length:=by rw[r2.length];omega
  exact⟨vs,ws,vs[i],ws[i],au.tup aD (s.h.tup h),au.tup aD (s.h.tup h2),by simp[hv],by simp[hw]⟩
 xH:=fun i B' H' x D1 hi s hb ⟨T,y,z,e1,e2,e3,q,q2⟩=>by
  subst e1 e3;obtain⟨t,et,rt⟩:=r.wK (q vs (au.tup aD (s.h.tup h)));obtain⟨u,eu,ru⟩:=r2.wK (q2 ws (au.tup aD (s.h.tup h2)));refine⟨au.upd e2,.tup [t,u],by unfold zR;rw[List.getElem?_zipWith,et,eu],.tup (hb.new e2) (.cons ((rt.same s).same (aV (au.upd e2))) (.cons ((ru.same s).same (aV (au.upd e2))) .nil))⟩
 stop:=fun B' H' s=>⟨vs,au.tup aD (s.h.tup h),by unfold zR;rw[oK,r.length];omega⟩
def PQ(l:Rs (List Tr)):Rs (List Tr):=l.bind fun ts=>match ts with
 |[.tup us,.tup ws]=>if us.length<=ws.length then .ok (zR us ws)else .bad
 |_=>.bad
theorem LS(hm:X.mg "zip"=none)(ha:PA X [a,b] (xV X L))(hg:Gl X "zip":=by rfl) (hs:aY [a,b]=true:=by rfl):PI X (.Tuple es x1 uG) (.Call (.Name "zip" p) [a,b] [] pos) (tI X fun ρ=>PQ (L ρ)):=
 (HF hg hm ha (by rw[aU _ _ (aG hs).1,aU _ _ (aG (aG hs).2).1];rfl) (by rw[aU _ _ (aG (aG hs).2).1];rfl)).weak fun σ H R ⟨B,ρ,hb,r,q⟩=>⟨B,ρ,hb,r,q.bind.mono fun ts qt vs H1 s1 r1=>by
  split at qt
  ·obtain⟨x,y,e,h1,h2⟩:=pM r1;obtain⟨_,_,rfl,h,rr⟩:=h1.cL;obtain⟨_,_,rfl,h',u5⟩:=h2.cL;split at qt
   ·rename_i hl;exact⟨_,_,_,_,e,au.tup aD h,au.tup aD h',qt _ H1 s1 (zS h rr h' u5 hl)⟩
   ·exact qt.elim
  ·exact qt.elim⟩
variable {F:ax->Rs Tr}
def nK:List Tr->Rs (List String)
 |[]=>.ok []
 |.ty n::ts=>(nK ts).bind fun ns=>.ok (n::ns)
 |_::_=>.bad
theorem yh:∀{ts:List Tr} {ns:List String},nK ts=.ok ns->ts=ns.map Tr.ty
 |[],ns,h=>by cases h;rfl
 |t::ts,ns,h=>by
  cases t with
  |ty n=>
   cases e:nK ts with
   |ok ms=>
    rw[nK,e]at h;cases h;rw[yh e];rfl
   |exc c=>rw[nK,e]at h;cases h
   |bad=>rw[nK,e]at h;cases h
  |_=>cases h
theorem u_:∀{ts:List Tr} {c:Tr},nK ts≠ .exc c
 |[],c,h=>by cases h
 |t::ts,c,h=>by
  cases t with
  |ty n=>
   cases e:nK ts with
   |ok ms=>rw[nK,e]at h;cases h
   |exc c'=>exact u_ e
   |bad=>rw[nK,e]at h;cases h
  |_=>cases h
theorem va{K:PySem.W.Frag}{H:Vw}:∀{ns:List String} {vs:List V},aI K H vs (ns.map Tr.ty)->vs=ns.map V.ty
 |[],_,r=>by cases r;rfl
 |n::ns,_,r=>by
  cases r with
  |cons h r=>cases h;rw[va r];rfl
theorem yi(K:PySem.W.Frag)(a:String)(ha:a∈["NoneType","bool","int","str","tuple","list","dict"]):∀(cs:List String),(∀c∈cs,c∈kinds)->PySem.W.kitAny K (.type a) (cs.map Value.type)=some (cs.any fun c=>a==c||(a=="bool"&&c=="int"))
 |[],_=>rfl
 |c::cs,h=>by
  have ih:=yi K a ha cs fun d m=>h d (aR _ m);have k1:=yd K a ha c (h c (aK ..));rw[aB,PySem.W.kitAny,k1,ih,fV];cases(a==c||(a=="bool"&&c=="int"))<;>rfl
def Fz:List Tr->Rs Tr
 |[t,.tup cs]=>(nK cs).bind fun ns=>if RH t=true/\ns.all (fun c=>kinds.contains c)=true then .ok (.bl (ns.any (NX t)))else .bad
 |_=>.bad
theorem LU{K:PySem.W.Frag}{W:Vw}{H:Hp}{x:V}{t:Tr}(r:Rep K W x t)(f:RH t=true):pS t∈["NoneType","bool","int","str","tuple","list","dict"]/\Fg x=true/\lQ K H x (.type (pS t)):=by
 cases r with
 |bU=>exact⟨.head _,rfl,.bU⟩
 |bl b=>exact⟨.tail _ (.head _),rfl,.bl b⟩
 |int i=>exact⟨.tail _ (.tail _ (.head _)),rfl,.int i⟩
 |str z _=>exact⟨.tail _ (.tail _ (.tail _ (.head _))),rfl,.str z⟩
 |_=>cases f
theorem HG:hW X (.builtin "isinstance") Fz:=by
 intro pins s σ H xs us Q I rv ⟨B,ts,hb,r,q⟩;unfold Fz at q;split at q
 ·rename_i t cs;obtain⟨x1,x2,rfl,h1,h2⟩:=pM r;obtain⟨a,vs,rfl,h,rr⟩:=h2.cL;cases e:nK cs with
  |exc c=>exact(u_ e).elim
  |bad=>rw[e]at q;exact(show False from q).elim
  |ok ns=>
   rw[e]at q;have f:=fj q;have ec:=yh e;subst ec;have ev:=va rr;subst ev;have mem:∀c∈ns,c∈kinds:=fun c m=>by
    have:=bM.mp f.1.2 c m;simpa using this
   obtain⟨ha,fx,tx⟩:=LU (H:=H) h1 f.1.1;refine zw pins s σ H _ us Q I rv ⟨_,_,ns,.type (pS t),_,rfl,fx,h.up,tx,yi X.K _ ha ns mem,?_⟩;have e2:(ns.any fun c=>pS t==c||(pS t=="bool"&&c=="int"))=ns.any (NX t):=rfl;rw[e2];exact f.2 _ H (au.refl H) (.bl _)
 ·exact(show False from q).elim
end
end L2
namespace L2
open PySem PySem.Spec PySem.Calls PyProof.Rows
section
variable {X:Cx}
variable {l:Expr}{p1 p2 HH HI:Pos}{F:ax->Rs Tr}
end
end L2
namespace L2
open PySem PySem.Spec PyProof.Rows
inductive Ao where
 |lst (ts:List Tr)|ji (aC:List (Key×Tr))|ins (x:Str) (fs:List (Str×Tr))|aX (aC:List (List Key×Tr))|En (x:Str)|tb (x q:Str)
abbrev Ab:=List Ao
def lZ(K:PySem.W.Frag)(B:bD)(H:Hp)(a:Addr):Ao->Prop
 |.lst ts=>B.hd a=true/\∃vs,H a=some (.lst vs)/\aI K (aN B H) vs ts
 |.ji aC=>B.hd a=true/\∃ar,H a=some (.dK ar)/\zB K (aN B H) ar aC
 |.aX aC=>B.hd a=true/\∃ar,H a=some (.dT ar)/\ar.map (·.1)=aC.map (·.1)/\aI K (aN B H) (ar.map (·.2)) (aC.map (·.2))
 |.ins x fs=>B.hd a=true/\∃dx ui,H a=some (.ins (clsAt K x) dx ui)/\H dx=some (.own a)/\B.ix dx=none/\ui.map (·.1)=fs.map (·.1)/\aI K (aN B H) (ui.map (·.2)) (fs.map (·.2))
 |.tb x q=>B.hd a=true/\(∃c,PySem.W.tabIn K x=some (c,a))/\H a=some (.uh #[.str q 0])
 |.En x=>B.hd a=true/\∃oe:Obj,H a=some (.ext fun h=>h.get? a=some oe)/\oe.cls=.ref (clsAt K x)
structure HA(K:PySem.W.Frag)(B:bD)(A:Ab)(H:Hp):Prop where
 hb:HB B H
 ob:∀i o,A[i]?=some o->∃a,B.ix a=some i/\lZ K B H a o
 inj:∀a b i,B.ix a=some i->B.ix b=some i->a=b
 lt:∀a i,B.ix a=some i->i<A.length
structure Grows(B:bD)(H:Hp)(B':bD)(H':Hp):Prop where
 fy:b9 (aN B H) (aN B' H')
 kp:∀b o,B.ix b=none->H b=some o->H' b=some o
 hd:∀b,B.ix b=none->B.hd b=true->B'.hd b=true
 nw:∀b i,B'.ix b=some i->B.ix b=none->H b=none
section
variable {K:PySem.W.Frag}{B B' B1 B2:bD}{H H' H1 H2:Hp}{A:Ab}
theorem lZ.same {a:Addr}{o:Ao}(h:lZ K B H a o)(s:au H H'):lZ K B H' a o:=by
 cases o with
 |lst ts=>obtain⟨h0,vs,h1,h2⟩:=h;exact⟨h0,vs,s _ _ h1,h2.same (aV s)⟩
 |ji aC=>obtain⟨h0,vs,h1,h2⟩:=h;exact⟨h0,vs,s _ _ h1,h2.same (aV s)⟩
 |aX aC=>obtain⟨h0,vs,h1,h2,h3⟩:=h;exact⟨h0,vs,s _ _ h1,h2,h3.same (aV s)⟩
 |En x=>obtain⟨h0,oe,h1,h2⟩:=h;exact⟨h0,oe,s _ _ h1,h2⟩
 |tb x q=>obtain⟨h0,h1,h2⟩:=h;exact⟨h0,h1,s _ _ h2⟩
 |ins c fs=>obtain⟨h0,dx,ui,h1,h2,h3,h4,h5⟩:=h;exact⟨h0,dx,ui,s _ _ h1,s _ _ h2,h3,h4,h5.same (aV s)⟩
theorem lZ.hd {a:Addr}{o:Ao}(h:lZ K B H a o):B.hd a=true:=by cases o<;>exact h.1
theorem lZ.mem {a:Addr}{o:Ao}(h:lZ K B H a o):∃x,H a=some x/\(∀vs,x≠ .tup vs)/\∀ob u,x≠ .ff ob u:=by
 cases o with
 |lst ts=>obtain⟨h0,vs,h1,h2⟩:=h;exact⟨_,h1,(fun _ e=>by cases e),(fun _ _ e=>by cases e)⟩
 |ji aC=>obtain⟨h0,vs,h1,h2⟩:=h;exact⟨_,h1,(fun _ e=>by cases e),(fun _ _ e=>by cases e)⟩
 |aX aC=>obtain⟨h0,vs,h1,h2⟩:=h;exact⟨_,h1,(fun _ e=>by cases e),(fun _ _ e=>by cases e)⟩
 |En x=>obtain⟨h0,oe,h1,h2⟩:=h;exact⟨_,h1,(fun _ e=>by cases e),(fun _ _ e=>by cases e)⟩
 |tb x q=>obtain⟨h0,h1,h2⟩:=h;exact⟨_,h2,(fun _ e=>by cases e),(fun _ _ e=>by cases e)⟩
 |ins c fs=>obtain⟨h0,dx,ui,h1,h2⟩:=h;exact⟨_,h1,(fun _ e=>by cases e),(fun _ _ e=>by cases e)⟩
theorem HA.same (h:HA K B A H)(s:au H H'):HA K B A H':=
 ⟨h.hb.same s,fun i o e=>by obtain⟨a,h1,h2⟩:=h.ob i o e;exact⟨a,h1,h2.same s⟩,h.inj,h.lt⟩
theorem HA.get (h:HA K B A H){a:Addr}{i:Nat}{o:Ao}(e:B.ix a=some i)(q:A[i]?=some o):lZ K B H a o:=by
 obtain⟨b,h1,h2⟩:=h.ob i o q;rw[h.inj a b i e h1];exact h2
theorem HA.ex (h:HA K B A H){a:Addr}{i:Nat}(e:B.ix a=some i):∃o,A[i]?=some o/\lZ K B H a o:=by
 have l:=h.lt a i e;exact⟨A[i],aH l,h.get e (aH l)⟩
theorem HA.free (h:HA K B A H){p:Addr}(hp:H p=none):B.ix p=none:=by
 cases e:B.ix p with
 |none=>rfl
 |some i=>
  obtain⟨o,_,q⟩:=h.ex e;obtain⟨x,e2,_⟩:=q.mem;rw[hp]at e2;cases e2
theorem Grows.of (s:au H H'):Grows B H B H':=⟨aV s,fun b o _ e=>s b o e,fun _ _ e=>e,fun b i e n=>by rw[n]at e;cases e⟩
theorem Grows.refl:Grows B H B H:=.of (au.refl H)
theorem Grows.trans (hb:HB B H)(a:Grows B H B1 H1)(b:Grows B1 H1 B2 H2):Grows B H B2 H2:=by
 have key:∀c,B.ix c=none->(∃o,H c=some o)->B1.ix c=none:=fun c n ⟨o,e⟩=>by
  cases q:B1.ix c with
  |none=>rfl
  |some i=>have:=a.nw c i q n;rw[e]at this;cases this
 refine⟨a.fy.trans b.fy,fun c o n e=>b.kp c o (key c n ⟨o,e⟩) (a.kp c o n e),fun c n e=>?_,fun c i e n=>?_⟩
 ·exact b.hd c (key c n (let⟨o,q,_⟩:=hb c e;⟨o,q⟩)) (a.hd c n e)
 ·cases q:B1.ix c with
  |none=>
   have:=b.nw c i e q;cases q2:H c with
   |none=>rfl
   |some o=>rw[a.kp c o n q2]at this;cases this
  |some j=>exact a.nw c j q n
def l0(B:bD)(p:Addr)(i:Nat):bD:=⟨fun b=>B.hd b||b==p,fun b=>if b=p then some i else B.ix b⟩
theorem n8{p:Addr}{i:Nat}:(l0 B p i).hd p=true:=by show(B.hd p||p==p)=true;rw[br,Bool.or_true]
theorem gz{p:Addr}{i:Nat}:(l0 B p i).ix p=some i:=ab rfl
theorem eY{p b:Addr}{i:Nat}(h:b≠p):(l0 B p i).ix b=B.ix b:=ae h
theorem ju{p b:Addr}{i:Nat}(h:b≠p):(l0 B p i).hd b=B.hd b:=by show(B.hd b||b==p)=_;rw[du h,lE]
theorem BN{p:Addr}{i:Nat}(hp:H p=none)(hx:B.ix p=none)(s:au H H'):b9 (aN B H) (aN (l0 B p i) H'):=⟨fun b u e=>by
 have e1:=aD b u e;have eC:b≠p:=aJ e1 hp;have hB:B.hd b=false:=by
  cases q:B.hd b with
  |false=>rfl
  |true=>
   have e2:(if B.hd b=true then none else H b)=some u:=e;rw[q,ab rfl]at e2;cases e2
 rw[cq (by rw[ju eC];exact hB)];exact s b u e1,fun b j e=>by
 have eC:b≠p:=fun z=>by rw[z]at e;rw[show(aN B H).ix p=B.ix p from rfl,hx]at e;cases e
 show(l0 B p i).ix b=some j;rw[eY eC];exact e⟩
theorem HA.push {p:Addr}{o:Ao}(h:HA K B A H)(hp:H p=none)(s:au H H')(ho:lZ K (l0 B p A.length) H' p o):Grows B H (l0 B p A.length) H'/\HA K (l0 B p A.length) (A++[o]) H':=by
 have hx:=h.free hp;have fy:b9 (aN B H) (aN (l0 B p A.length) H'):=BN hp hx s;have up:∀{a:Addr} {u:Ao},a≠p->lZ K B H a u->lZ K (l0 B p A.length) H' a u:=fun{a u} eC q=>by
  have e0:(l0 B p A.length).hd a=true:=by rw[ju eC];exact q.hd
  cases u with
  |lst ts=>obtain⟨h0,vs,h1,h2⟩:=q;exact⟨e0,vs,s _ _ h1,h2.same fy⟩
  |ji aC=>obtain⟨h0,vs,h1,h2⟩:=q;exact⟨e0,vs,s _ _ h1,h2.same fy⟩
  |aX aC=>obtain⟨h0,vs,h1,h2,h3⟩:=q;exact⟨e0,vs,s _ _ h1,h2,h3.same fy⟩
  |En x=>obtain⟨h0,oe,h1,h2⟩:=q;exact⟨e0,oe,s _ _ h1,h2⟩
  |tb x q=>obtain⟨h0,h1,h2⟩:=q;exact⟨e0,h1,s _ _ h2⟩
  |ins c fs=>
   obtain⟨h0,dx,ui,h1,h2,h3,h4,h5⟩:=q;exact⟨e0,dx,ui,s _ _ h1,s _ _ h2,by rw[eY (aJ h2 hp)];exact h3,h4,h5.same fy⟩
 refine⟨⟨fy,fun b u _ e=>s b u e,fun b _ e=>?_,fun b i e n=>?_⟩,⟨fun b e=>?_,fun i u e=>?_,fun a b i e1 e2=>?_,fun a i e=>?_⟩⟩
 ·show(B.hd b||b==p)=true;rw[e,lI]
 ·by_cases q:b=p
  ·rw[q];exact hp
  ·rw[eY q,n]at e;cases e
 ·by_cases q:b=p
  ·rw[q];obtain⟨x,e2,n,_⟩:=ho.mem;exact⟨x,e2,n⟩
  ·rw[ju q]at e;obtain⟨x,e2,n⟩:=h.hb b e;exact⟨x,s _ _ e2,n⟩
 ·by_cases q:i<A.length
  ·rw[bX q]at e;obtain⟨a,e1,e2⟩:=h.ob i u e;have eC:a≠p:=fun z=>by rw[z,hx]at e1;cases e1
   exact⟨a,by rw[eY eC];exact e1,up eC e2⟩
  ·rw[dH (oY q)]at e;have hi:i - A.length=0:=by
    cases z:i - A.length with
    |zero=>rfl
    |succ k=>rw[z]at e;cases e
   rw[hi]at e;cases e;have:i=A.length:=by omega
   subst this;exact⟨p,gz,ho⟩
 ·by_cases q1:a=p
  ·by_cases q2:b=p
   ·rw[q1,q2]
   ·rw[q1,gz]at e1;cases e1;rw[eY q2]at e2;exact absurd (h.lt b _ e2) (ck _)
  ·by_cases q2:b=p
   ·rw[q2,gz]at e2;cases e2;rw[eY q1]at e1;exact absurd (h.lt a _ e1) (ck _)
   ·rw[eY q1]at e1;rw[eY q2]at e2;exact h.inj a b i e1 e2
 ·rw[ba,jK];by_cases q:a=p
  ·rw[q,gz]at e;cases e;exact iX _
  ·rw[eY q]at e;exact gO (h.lt a i e)
theorem jT{a:Addr}{u:HO}(h:B.hd a=true):aN B (upd H a u)=aN B H:=by
 unfold aN;congr 1;funext b;by_cases q:b=a
 ·subst q;rw[ab h,ab h]
 ·rw[ah q]
theorem HA.write {a:Addr}{i:Nat}{o:Ao}{u:HO}(h:HA K B A H)(e:B.ix a=some i)(ho:lZ K B (upd H a u) a o):Grows B H B (upd H a u)/\HA K B (A.set i o) (upd H a u):=by
 have hd:B.hd a=true:=ho.hd;have hv:aN B (upd H a u)=aN B H:=jT hd;refine⟨⟨by rw[hv];exact b9.refl _,fun b x n q=>?_,fun _ _ q=>q,fun b j q n=>by rw[n]at q;cases q⟩,⟨fun b q=>?_,fun j x q=>?_,h.inj,fun b j q=>by rw[fS];exact h.lt b j q⟩⟩
 ·have eC:b≠a:=fun z=>by rw[z,e]at n;cases n
  rw[ah eC];exact q
 ·by_cases z:b=a
  ·subst z;obtain⟨x,e2,n,_⟩:=ho.mem;exact⟨x,e2,n⟩
  ·rw[ah z];exact h.hb b q
 ·rcases fQ q with⟨rfl,_,rfl⟩|⟨qR,q⟩
  ·exact⟨a,e,ho⟩
  ·obtain⟨b,e1,e2⟩:=h.ob j x q;have eC:b≠a:=fun z=>by rw[z,e]at e1;cases e1;exact qR rfl
   refine⟨b,e1,?_⟩;cases x with
   |lst ts=>obtain⟨h0,vs,h1,h2⟩:=e2;exact⟨h0,vs,by rw[ah eC];exact h1,by rw[hv];exact h2⟩
   |ji aC=>obtain⟨h0,vs,h1,h2⟩:=e2;exact⟨h0,vs,by rw[ah eC];exact h1,by rw[hv];exact h2⟩
   |aX aC=>obtain⟨h0,vs,h1,h2,h3⟩:=e2;exact⟨h0,vs,by rw[ah eC];exact h1,h2,by rw[hv];exact h3⟩
   |En x=>obtain⟨h0,oe,h1,h2⟩:=e2;exact⟨h0,oe,by rw[ah eC];exact h1,h2⟩
   |tb x q=>obtain⟨h0,h1,h2⟩:=e2;exact⟨h0,h1,by rw[ah eC];exact h2⟩
   |ins c fs=>
    obtain⟨h0,dx,ui,h1,h2,h3,h4,h5⟩:=e2;have TF:dx≠a:=fun z=>by rw[z,e]at h3;cases h3
    exact⟨h0,dx,ui,by rw[ah eC];exact h1,by rw[ah TF];exact h2,h3,h4,by rw[hv];exact h5⟩
end
mutual
def gn:Tr->Bool
 |.at _=>false
 |.tup ts=>cu ts
 |.lst ts=>cu ts
 |.ji aC=>yj aC
 |.aX aC=>rS aC
 |.ob _ fs=>yk fs
 |_=>true
def cu:List Tr->Bool
 |[]=>true
 |t::ts=>gn t&&cu ts
def yj:List (Key×Tr)->Bool
 |[]=>true
 |p::r=>FA p&&yj r
def FA:Key×Tr->Bool
 |(_,t)=>gn t
def rS:List (List Key×Tr)->Bool
 |[]=>true
 |p::r=>FC p&&rS r
def FC:List Key×Tr->Bool
 |(_,t)=>gn t
def yk:List (Str×Tr)->Bool
 |[]=>true
 |p::r=>FD p&&yk r
def FD:Str×Tr->Bool
 |(_,t)=>gn t
end
theorem rU:∀(aC:List (Key×Tr)),yj aC=cu (aC.map (·.2))
 |[]=>rfl
 |(k,t)::r=>by rw[yj,FA,aB,cu,rU r]
theorem rV:∀(aC:List (List Key×Tr)),rS aC=cu (aC.map (·.2))
 |[]=>rfl
 |(k,t)::r=>by rw[rS,FC,aB,cu,rV r]
theorem rX:∀(aC:List (Str×Tr)),yk aC=cu (aC.map (·.2))
 |[]=>rfl
 |(k,t)::r=>by rw[yk,FD,aB,cu,rX r]
mutual
def vb:Tr->Bool
 |.bU=>true
 |.bl _=>true
 |.int _=>true
 |.str _=>true
 |.ty _=>true
 |.at _=>true
 |.tup ts=>fE ts
 |_=>false
def fE:List Tr->Bool
 |[]=>true
 |t::ts=>vb t&&fE ts
end
def bq:Nat->Ab->Tr->Tr
 |0,_,t=>t
 |n+1,A,.at i=>match A[i]? with
  |some (.lst ts)=>.lst (ts.map (bq n A))
  |some (.ji aC)=>.ji (aC.map fun p=>(p.1,bq n A p.2))
  |some (.aX aC)=>.aX (aC.map fun p=>(p.1,bq n A p.2))
  |some (.ins c fs)=>.ob c (fs.map fun p=>(p.1,bq n A p.2))
  |some (.En x)=>.xT x
  |some (.tb _ _)=>.at i
  |none=>.at i
 |_+1,_,t=>t
def bD.un (B:bD):bD:=⟨fun b=>B.hd b&&(B.ix b).isNone,B.ix⟩
section
variable {K:PySem.W.Frag}{B B':bD}{H H':Hp}{A:Ab}
theorem FE:ni B.un B:=⟨fun b e=>by
 have e':(B.hd b&&(B.ix b).isNone)=true:=e;rw[aM]at e';exact e'.1,fun _ _ e=>e⟩
theorem eP:b9 (aN B H) (aN B.un H):=pI FE
theorem vc(h:HB B H):HB B.un H:=fun b e=>h b (FE.hd b e)
theorem vd{a:Addr}{i:Nat}(e:B.ix a=some i):(aN B.un H).H a=H a:=cq (by show(B.hd a&&(B.ix a).isNone)=false;rw[e];exact lB _)
theorem h_{W W':Vw}{f:Tr->Tr}(h:∀{v t},Rep K W v t->Rep K W' v (f t)):∀{vs:List V} {ts:List Tr},aI K W vs ts->aI K W' vs (ts.map f)
 |[],_,r=>by cases r;exact .nil
 |_::_,_,r=>by cases r with|cons h1 r=>exact .cons (h h1) (h_ h r)
theorem dX(ha:HA K B A H):∀(n:Nat) {v:V} {t:Tr},Rep K (aN B H) v t->Rep K (aN B.un H) v (bq n A t)
 |0,v,t,r=>by rw[bq];exact r.same eP
 |n+1,v,t,r=>by
  cases r with
  |@«at» a i h=>
   have e:B.ix a=some i:=h;obtain⟨o,q,ao⟩:=ha.ex e;rw[bq,q];cases o with
   |lst ts=>
    obtain⟨h0,vs,h1,h2⟩:=ao;exact .lst (by rw[vd e];exact h1) (h_ (fun r=>dX ha n r) h2)
   |ji aC=>
    obtain⟨h0,ar,h1,h2⟩:=ao;refine .ji (.inl (by rw[vd e];exact h1)) (by rw[h2.keys,bf];rfl) ?_
    have:=h_ (fun r=>dX ha n r) h2.vals;rw[bf]at this⊢;exact this
   |En x=>obtain⟨h0,oe,h1,h2⟩:=ao;exact .xT (by rw[vd e];exact h1) h2
   |tb x q=>exact .at e
   |aX aC=>
    obtain⟨h0,ar,h1,h2,h3⟩:=ao;refine .aX (.inl (by rw[vd e];exact h1)) (by rw[h2,bf];rfl) ?_
    have:=h_ (fun r=>dX ha n r) h3;rw[bf]at this⊢;exact this
   |ins c fs=>
    obtain⟨h0,dx,ui,h1,h2,h3,h4,h5⟩:=ao;refine .ob (by rw[vd e];exact h1) (by rw[h4,bf];rfl) ?_
    have:=h_ (fun r=>dX ha n r) h5;rw[bf]at this⊢;exact this
  |bU=>exact .bU
  |bl b=>exact .bl b
  |int i=>exact .int i
  |str z h=>exact .str z h
  |ty m=>exact .ty m
  |j1 h=>exact .j1 (eP.h.seq h)
  |tup h r=>exact .tup (eP.h _ _ h) (r.same eP)
  |lst h r=>exact .lst (eP.h _ _ h) (r.same eP)
  |ji h e r=>exact .ji (h.same eP.h) e (r.same eP)
  |aX h e r=>exact .aX (Rd.same eP.h h) e (r.same eP)
  |ob h e r=>exact .ob (eP.h _ _ h) e (r.same eP)
  |xT h c=>exact .xT (eP.h _ _ h) c
theorem HJ(ha:HA K B A H){a:Addr}{x:HO}(e:(aN B.un H).H a=some x)(hx:(∃vs,x=.tup vs)\/∃o u,x=.ff o u):(aN B H).H a=some x:=by
 have e1:=aD a x e;cases q:B.hd a with
 |false=>rw[cq q];exact e1
 |true=>
  cases z:B.ix a with
  |none=>
   have e2:(if B.un.hd a=true then none else H a)=some x:=e;rw[show B.un.hd a=(B.hd a&&(B.ix a).isNone)from rfl,q,z]at e2;cases e2
  |some i=>
   obtain⟨o,_,ao⟩:=ha.ex z;obtain⟨y,e3,n1,n2⟩:=ao.mem;rw[e1]at e3;cases e3;rcases hx with⟨vs,rfl⟩|⟨o,u,rfl⟩
   ·exact absurd rfl (n1 vs)
   ·exact absurd rfl (n2 o u)
structure gf(W W':Vw):Prop where
 h:∀a x,W.H a=some x->((∃vs,x=.tup vs)\/∃o u,x=.ff o u)->W'.H a=some x
 x:∀a i,W.ix a=some i->W'.ix a=some i
theorem gf.un (ha:HA K B A H):gf (aN B.un H) (aN B H):=⟨fun a x e hx=>HJ ha e hx,fun _ _ e=>e⟩
theorem gf.trans {W W1 W2:Vw}(a:gf W W1)(b:gf W1 W2):gf W W2:=⟨fun c x e hx=>b.h c x (a.h c x e hx) hx,fun c i e=>b.x c i (a.x c i e)⟩
theorem gf.new {p:Addr}{i:Nat}{x:HO}(hx:B.ix p=none)(hp:H p=some x)(n1:∀vs,x≠ .tup vs)(n2:∀o u,x≠ .ff o u):gf (aN B H) (aN (l0 B p i) H):=⟨fun a y e hy=>by
 have e1:=aD a y e;have eC:a≠p:=fun z=>by
  rw[z,hp]at e1;cases e1;rcases hy with⟨vs,z⟩|⟨o,u,z⟩
  ·exact n1 vs z
  ·exact n2 o u z
 have hB:B.hd a=false:=by
  cases q:B.hd a with
  |false=>rfl
  |true=>
   have e2:(if B.hd a=true then none else H a)=some y:=e;rw[q,ab rfl]at e2;cases e2
 rw[cq (by rw[ju eC];exact hB)];exact e1,fun a j e=>by
 have eC:a≠p:=fun z=>by rw[z]at e;rw[show(aN B H).ix p=B.ix p from rfl,hx]at e;cases e
 show(l0 B p i).ix a=some j;rw[eY eC];exact e⟩
theorem tL{W W':Vw}(s:gf W W'){v:V}{t:Tr}(h:Rep K W v t):vb t=true->Rep K W' v t:=by
 refine Rep.rec (motive_1:=fun v t _=>vb t=true->Rep K W' v t) (motive_2:=fun vs ts _=>fE ts=true->aI K W' vs ts) ?_ ?_ ?_ ?_ ?_ ?_ ?_ ?_ ?_ ?_ ?_ ?_ ?_ ?_ ?_ h
 ·exact fun _=>.bU
 ·exact fun b _=>.bl b
 ·exact fun i _=>.int i
 ·exact fun z h _=>.str z h
 ·exact fun n _=>.ty n
 ·exact fun h f=>nomatch f
 ·intro a vs ts h _ ih f;refine .tup ?_ (ih f)
  exact s.h _ _ h (.inl ⟨_,rfl⟩)
 ·exact fun h _ _ f=>nomatch f
 ·exact fun h _ _ _ f=>nomatch f
 ·exact fun h _=>.at (s.x _ _ h)
 ·exact fun h _ _ _ f=>nomatch f
 ·exact fun h _ _ _ f=>nomatch f
 ·exact fun h c f=>nomatch f
 ·exact fun _=>.nil
 ·intro v t vs ts _ _ PR LV f;rw[fE,aM]at f;exact .cons (PR f.1) (LV f.2)
theorem l4{W W':Vw}(s:gf W W'):∀{vs:List V} {ts:List Tr},aI K W vs ts->fE ts=true->aI K W' vs ts
 |[],_,r,_=>by cases r;exact .nil
 |_::_,_,r,f=>by
  cases r with
  |cons h r=>
   rw[fE,aM]at f;exact .cons (tL s h f.1) (l4 s r f.2)
theorem mQ(ha:HA K B A H){v:V}{t:Tr}(h:Rep K (aN B.un H) v t)(f:vb t=true):Rep K (aN B H) v t:=tL (.un ha) h f
theorem Rep.BO {W W':Vw}(s:au W.H W'.H){v:V}{t:Tr}(h:Rep K W v t):gn t=true->Rep K W' v t:=by
 refine Rep.rec (motive_1:=fun v t _=>gn t=true->Rep K W' v t) (motive_2:=fun vs ts _=>cu ts=true->aI K W' vs ts) ?_ ?_ ?_ ?_ ?_ ?_ ?_ ?_ ?_ ?_ ?_ ?_ ?_ ?_ ?_ h
 ·exact fun _=>.bU
 ·exact fun b _=>.bl b
 ·exact fun i _=>.int i
 ·exact fun z h _=>.str z h
 ·exact fun n _=>.ty n
 ·exact fun h _=>.j1 (s.seq h)
 ·exact fun h _ ih f=>.tup (s _ _ h) (ih f)
 ·exact fun h _ ih f=>.lst (s _ _ h) (ih f)
 ·intro a ar aC h e _ ih f;refine .ji (Rd.same s h) e (ih ?_);rw[gn,rU]at f;exact f
 ·exact fun h f=>nomatch f
 ·intro a ar aC h e _ ih f;refine .aX (Rd.same s h) e (ih ?_);rw[gn,rV]at f;exact f
 ·intro a c dx ui fs h e _ ih f;refine .ob (s _ _ h) e (ih ?_);rw[gn,rX]at f;exact f
 ·exact fun h c _=>.xT (s _ _ h) c
 ·exact fun _=>.nil
 ·intro v t vs ts _ _ PR LV f;rw[cu,aM]at f;exact .cons (PR f.1) (LV f.2)
theorem aI.BO {W W':Vw}(s:au W.H W'.H):∀{vs:List V} {ts:List Tr},aI K W vs ts->cu ts=true->aI K W' vs ts
 |[],_,r,_=>by cases r;exact .nil
 |_::_,_,r,f=>by
  cases r with
  |cons h r=>
   rw[cu,aM]at f;exact .cons (h.BO s f.1) (aI.BO s r f.2)
end
def LW(A:Ab):Cell->Cell
 |.sh t=>.sh (bq 5 A t)
 |c=>c
def aZ(A:Ab)(ρ:ax):ax:=ρ.map (LW A)
theorem a7.HK {K:PySem.W.Frag}{B:bD}{H:Hp}{A:Ab}{σ:St}{ρ:ax}(ha:HA K B A H)(n:de ρ)(h:a7 K B H σ ρ):a7 K B.un H σ (aZ A ρ):=by
 have no:∀i ts,(aZ A ρ)[i]? ≠some (Cell.ow ts):=fun i ts e=>by
  unfold aZ at e;rw[aS]at e;cases q:ρ[i]? with
  |none=>rw[q]at e;cases e
  |some c=>
   rw[q]at e;cases c with
   |no=>cases e
   |sh t=>cases e
   |ow us=>exact n i us q
 refine⟨by unfold aZ;rw[ai];exact h.len,fun i t e=>?_,fun i ts e=>absurd e (no i ts),fun i j ts us D _ e=>absurd e (no i ts)⟩;unfold aZ at e;rw[aS]at e;cases q:ρ[i]? with
 |none=>rw[q]at e;cases e
 |some c=>
  rw[q]at e;cases c with
  |no=>cases e
  |ow us=>exact absurd q (n i us)
  |sh u=>
   obtain⟨v,e1,r⟩:=h.sh i u q;have e2:bq 5 A u=t:=by
    have e3:=Option.some.inj e;exact(Cell.sh.inj e3)
   rw[<-e2];exact⟨v,e1,dX ha 5 r⟩
theorem a7.grow {K:PySem.W.Frag}{B B':bD}{H H':Hp}{σ:St}{ρ:ax}(h:a7 K B H σ ρ)(n:de ρ)(g:Grows B H B' H'):a7 K B' H' σ ρ:=
 ⟨h.len,fun i t e=>by obtain⟨v,e1,r⟩:=h.sh i t e;exact⟨v,e1,r.same g.fy⟩,fun i ts e=>absurd e (n i ts),fun i j ts us D _ e=>absurd e (n i ts)⟩
end L2
namespace L2
open PySem PySem.Spec PyProof.Rows
theorem bg.get {P:Program}{w:World}{H:Hp}{h:Heap}{a:Addr}{o:HO}(x:bg P w H h a o):∃u,h.get? a=some u:=by
 cases o with
 |lst xs=>obtain⟨_,_,_,_,e⟩:=x;exact⟨_,e⟩
 |tup xs=>obtain⟨_,_,_,o,e,_⟩:=x;exact⟨o,e⟩
 |dK ar=>obtain⟨_,_,_,_,o,_,_,e,_⟩:=x;exact⟨o,e⟩
 |dT ar=>obtain⟨_,_,_,_,o,_,_,e,_⟩:=x;exact⟨o,e⟩
 |set S n=>obtain⟨o,_,_,_,e,_⟩:=x;exact⟨o,e⟩
 |ins C dx fs=>obtain⟨_,_,_,e,_⟩:=x;exact⟨_,e⟩
 |own y=>exact x
 |xd fs=>obtain⟨_,⟨_,_,_,e,_⟩,_⟩:=x;exact⟨_,e⟩
 |Nz lo hi=>obtain⟨_,_,_,e⟩:=x;exact⟨_,e⟩
 |ff ob u=>obtain⟨e,_⟩:=x;exact⟨_,e⟩
 |uh ps=>obtain⟨qs,e,_⟩:=x;exact⟨_,e⟩
 |met f y=>exact⟨_,(show h.get? a=some _ from x)⟩
 |ext φ=>obtain⟨_,e,_⟩:=x;exact e
structure LX(h0:Heap)(H:Hp)(h:Heap)(a:Addr)(cls:Value):Prop where
 ob:∃oe vs a0,h.get? a=some oe/\oe.cls=cls/\oe.data=.fields vs/\vs[0]?=some a0/\
  (vs[1]?=some .none\/∃T oT ts,vs[1]?=some (.ref T)/\T≠a/\h0.get? T=none/\H T=none/\h.get? T=some oT/\oT.data=.fields ts/\ts[3]?=some .none)
 fr:H a=none
 nw:h0.get? a=none
def XS(X:Cx)(H:Hp)(cls e:Value)(s:Shared):Prop:=∃a pins σ h0,e=.ref a/\Inv X pins σ H s/\LX h0 H s.heap a cls/\(∀b,h0.get? b=none->X.dS.heap.get? b=none)/\(∀p∈X.pn,∃o,h0.get? p.1=some o)/\∀b,s.heap.get? b=none->h0.get? b=none
def EX(X:Cx):XK:=fun cls _ H=>∀e s,XS X H cls e s->X.xe e s
def n_(P:Program)(w:World):wC:=fun outer H s E e s'=>∃a cls H',e=.ref a/\s'.os=s.os/\AllBare s'.gens/\Un (lN outer) [] H H' s.heap s'.heap/\j2 P w H' s'.heap/\LX s.heap H' s'.heap a cls/\E cls none H'
theorem LX.LY {h0 h1 h:Heap}{H:Hp}{a:Addr}{cls:Value}(u:LX h1 H h a cls)(k:∀b,h1.get? b=none->h0.get? b=none):LX h0 H h a cls:=by
 obtain⟨⟨oe,vs,a0,e1,e2,e3,e4,e5⟩,f,n⟩:=u;refine⟨⟨oe,vs,a0,e1,e2,e3,e4,?_⟩,f,k a n⟩;rcases e5 with e5|⟨T,oT,ts,q1,q2,q3,q4⟩
 ·exact .inl e5
 ·exact .inr ⟨T,oT,ts,q1,q2,k T q3,q4⟩
theorem Inv.BP {X:Cx}{pins:List (Addr×Obj)}{σ:St}{H:Hp}{s:Shared}(I:Inv X pins σ H s)(hx:X.ex=[]){b:Addr}(n:s.heap.get? b=none):X.dS.heap.get? b=none:=by
 cases q:X.dS.heap.get? b with
 |none=>rfl
 |some o=>
  obtain⟨o',e⟩:=I.base.there b o q (by rw[hx];simp);rw[n]at e;cases e
theorem zT{X:Cx}(hx:X.ex=[]):Passes (n_ X.prog X.w) X (EX X):=by
 intro pins σ H s e s' I z;obtain⟨a,cls,H',rfl,os,bare,un,bC,PU,q⟩:=z;have ce:CE X.stack X.prog X.w H s (fun _ H2=>H2=H') .none s':=⟨.bU,H',os,bare,un,bC,rfl,rfl⟩;obtain⟨v,H2,I2,_,rfl⟩:=I.after ce;exact q (.ref a) s' ⟨a,pins,σ,s.heap,rfl,I2,PU,fun b n=>I.BP hx n,fun p hp=>⟨_,(I.pin p (oG _ hp)).1⟩,fun b n=>by
  cases z:s.heap.get? b with
  |none=>rfl
  |some o=>obtain⟨o',e⟩:=un.there b o z (by simp);rw[n]at e;cases e⟩
section
variable {P:Program}{w:World}{K:PySem.W.Frag}{mg:Str->Option Value}{base:Heap}{N:List Str}{qual:Str}{scope:Scope}{f:Addr}{cd:Value}{A:Around}{outer:List Env}{s:Shared}{H:Hp}{E:XK}
theorem ve{H':Hp}{cls e:Value}{s':Shared}(x:XS (iM (n_ P w) P w K mg base N qual scope f cd A outer s H E) H' cls e s')(q:E cls none H'):(iM (n_ P w) P w K mg base N qual scope f cd A outer s H E).xe e s':=by
 obtain⟨a,pins,σ,VO,rfl,I,PV,old,_,_⟩:=x;have PU:=PV.LY (h0:=s.heap) old;obtain⟨⟨oe,vs,a0,he,Dt,hd,h0,h1⟩,fr,nw⟩:=PU
 let env:=envOfC qual scope s.heap.objs.size f cd
 have JK:(A.deeper env).frames=some (env::outer):=I.ok.frames;have hk:s'.heap.FunFrames base (env::outer):=I.stack;have N7:∀L∈lN (env::outer),H' L=none/\∃o,s'.heap.get? L=some o/\∀ws,o.data≠ .fields ws:=fun L hL=>⟨I.sJ L hL,(hk.mem hL).2⟩;have VP:a∉lN (env::outer):=fun m=>by
  obtain⟨_,o,e1,e2⟩:=N7 a m;rw[he]at e1;cases e1;exact e2 vs hd
 have fin:∀(hs:List Addr) (h':Heap),(∀b∈hs,H' b=none/\(b∈lN (env::outer)\/s.heap.get? b=none))->(∀b∈lN (env::outer),b∈hs)->a∈hs->(∀b∈hs,b∈lN (env::outer)\/b=a\/H' b=none)->
   Heap.LeftW (PySem.W.hideAll s'.heap hs) (env::outer) a cls a0 s'.heap h'->n_ P w outer H s E (.ref a) {s' with heap:=h'}:=by
  intro hs h' hh HC TH _ ⟨k1,k2,k3,k4⟩;have kp:∀b o,b∉hs->s'.heap.get? b=some o->h'.get? b=some o:=fun b o nb e=>k1 b o (la _ e nb);have old:∀b o,s.heap.get? b=some o->b∉lN outer->b∉hs:=fun b o e nf m=>by
   rcases(hh b m).2 with z|z
   ·unfold lN at z;rw[jN]at z;have z':b∈s.heap.objs.size::lN outer:=z;rcases aO.mp z' with z'|z'
    ·exact absurd (aA e) (by rw[z'];exact ck _)
    ·exact nf z'
   ·rw[e]at z;cases z
  have sl:∀b o,s'.heap.get? b=some o->b∈lN outer->∃sl,h'.get? b=some {o with slots:=sl}:=fun b o e m=>by
   obtain⟨_,o2,e2,nf⟩:=N7 b (by unfold lN at m⊢;rw[jN];exact aR _ m);rw[e]at e2;cases e2;exact k4 b o e nf
  have U:Un (lN outer) [] H H' s.heap s'.heap:=I.base;refine⟨a,cls,H',rfl,I.os,I.bare,⟨fun b o e n nf nx=>?_,fun b o e n m nx=>?_,U.free,fun b o e nx=>?_,U.jX,U.iK,U.i_⟩,fun b o e=>?_,⟨?_,fr,nw⟩,q⟩
  ·exact kp b o (old b o e nf) (U.keep b o e n nf nx)
  ·obtain⟨s1,e1⟩:=U.slot b o e n m nx;obtain⟨s2,e2⟩:=sl b _ e1 m;exact⟨s2,e2⟩
  ·obtain⟨o1,e1⟩:=U.there b o e nx;by_cases m:b∈lN outer
   ·obtain⟨s2,e2⟩:=sl b o1 e1 m;exact⟨_,e2⟩
   ·exact⟨o1,kp b o1 (old b o e m) e1⟩
  ·refine(I.bC b o e).j_ (fun c u hc z=>kp c u (fun m=>?_) z) (fun _ z=>z) fun _ _ z=>z;have n:=(hh c m).1;rcases hc with rfl|hc
   ·rw[n]at e;cases e
   ·rw[n]at hc;cases hc
  ·obtain⟨TJ,TL,T,oT,ts,q1,⟨q2,q3⟩,q4,q5,q6,q7,q8,q9,TM⟩:=k3;refine⟨TJ,TL,a0,q1,q2,q4,q3,.inr ⟨T,oT,ts,q5,q7,?_,?_,q8,q9,TM⟩⟩
   ·by_cases m:T∈hs
    ·rcases(hh T m).2 with z|z
     ·obtain⟨o3,e3,n3⟩:=(k2.mem z).2;rw[q8]at e3;cases e3;exact absurd q9 (n3 ts)
     ·exact z
    ·cases z:s.heap.get? T with
     |none=>rfl
     |some o=>
      obtain⟨o1,e1⟩:=U.there T o z (by simp);rw[la _ e1 m]at q6;cases q6
   ·by_cases m:T∈hs
    ·exact(hh T m).1
    ·cases z:H' T with
     |none=>rfl
     |some o=>
      obtain⟨u,e1⟩:∃u,s'.heap.get? T=some u:=(I.bC T o z).get;rw[la _ e1 m]at q6;cases q6
 have lT:∀e∈(env::outer),∀b,e.frame=some b->b∈lN (env::outer):=fun e he b hb=>iR.mpr ⟨e,he,hb⟩;show wpAny (model P w) (A.deeper env) (leaving env (.ref a)) (fun _ Dl=>n_ P w outer H s E (.ref a) Dl) _ s';rcases h1 with h1|⟨T,oT,ts,h1,TN,TQ,Fy,hT,TR,h3⟩
 ·let hs:=a::lN (env::outer)
  refine wpAny_leaving_firstW (base:=PySem.W.hideAll s'.heap hs) JK (PySem.W.funFrames_hide hk fun e he b hb=>aR _ (lT e he b hb)) rfl he (fun b o z=>oN _ z) (k_ _ (aK ..)) hd h1 h0 fun h' hL=>?_
  rw[Dt]at hL;refine fin hs h' (fun b m=>?_) (fun b m=>aR _ m) (aK ..) (fun b m=>?_) hL
  ·rcases aO.mp m with rfl|m
   ·exact⟨fr,.inr nw⟩
   ·exact⟨(N7 b m).1,.inl m⟩
  ·rcases aO.mp m with rfl|m
   ·exact .inr (.inl rfl)
   ·exact .inl m
 ·let hs:=a::T::lN (env::outer)
  refine wpAny_leaving_nextW (base:=PySem.W.hideAll s'.heap hs) (cls:=cls) (a0:=a0) JK (PySem.W.funFrames_hide hk fun e he b hb=>aR _ (aR _ (lT e he b hb))) rfl
   ⟨oe,vs,T,oT,ts,he,⟨Dt,h0⟩,hd,h1,k_ _ (aR _ (aK ..)),TN,hT,TR,h3⟩ (fun b o z=>oN _ z) (k_ _ (aK ..)) fun h' hL=>?_
  refine fin hs h' (fun b m=>?_) (fun b m=>aR _ (aR _ m)) (aK ..) (fun b m=>?_) hL
  ·rcases aO.mp m with rfl|m
   ·exact⟨fr,.inr nw⟩
   ·rcases aO.mp m with rfl|m
    ·exact⟨Fy,.inr TQ⟩
    ·exact⟨(N7 b m).1,.inl m⟩
  ·rcases aO.mp m with rfl|m
   ·exact .inr (.inl rfl)
   ·rcases aO.mp m with rfl|m
    ·exact .inr (.inr Fy)
    ·exact .inl m
end
end L2
namespace L2
open PySem PySem.Spec PyProof.Rows
inductive Rz(α:Type) where
 |bad|ok (a:α) (A:Ab)|exc (c:Tr) (A:Ab)
def Rz.bind {α β:Type}(r:Rz α)(f:α->Ab->Rz β):Rz β:=match r with
 |.ok a A=>f a A
 |.exc c A=>.exc c A
 |.bad=>.bad
def dg(xc:Tr->Ab->Prop){α:Type}(r:Rz α)(k:α->Ab->Prop):Prop:=match r with
 |.ok a A=>k a A
 |.exc c A=>xc c A
 |.bad=>False
section
variable {α β:Type}{r:Rz α}{k k':α->Ab->Prop}{xc KY:Tr->Ab->Prop}
theorem dg.mono (h:dg xc r k)(w:∀a A,k a A->k' a A):dg xc r k':=by
 cases r with
 |ok a A=>exact w a A h
 |exc c A=>exact h
 |bad=>exact h
theorem dg.imp (h:dg xc r k)(w:∀c A,xc c A->KY c A):dg KY r k:=by
 cases r with
 |ok a A=>exact h
 |exc c A=>exact w c A h
 |bad=>exact h
theorem dg.bind {f:α->Ab->Rz β}{k:β->Ab->Prop}(h:dg xc (r.bind f) k):dg xc r fun a A=>dg xc (f a A) k:=by
 cases r with
 |ok a A=>exact h
 |exc c A=>exact h
 |bad=>exact h
end
def aw{α:Type}(r:Rs α)(A:Ab):Rz α:=match r with
 |.ok a=>.ok a A
 |_=>.bad
theorem gg{X:Cx}{H:Hp}{α:Type}{xc:Tr->Ab->Prop}{r:Rs α}{A:Ab}{k:α->Ab->Prop}(q:dg xc (aw r A) k):Fi X H r fun a=>k a A:=by
 cases r with
 |ok a=>exact q
 |exc c=>exact(show False from q).elim
 |bad=>exact q
def L0(K:PySem.W.Frag):Tr->Value
 |.str x=>.ref (clsAt K x)
 |_=>.none
def XE(X:Cx)(B:bD)(H:Hp):Tr->Ab->Prop:=fun c A=>∀B' H',Grows B H B' H'->HA X.K B' A H'->EX X (L0 X.K c) none H'
theorem XE.grow {X:Cx}{B B':bD}{H H':Hp}{c:Tr}{A:Ab}(hb:HB B H)(h:XE X B H c A)(g:Grows B H B' H'):XE X B' H' c A:=fun B2 H2 g2 ha=>h B2 H2 (g.trans hb g2) ha
inductive tE(X:Cx)(F:ax->Ab->Rz Tr)(σ:St)(H:Hp)(Q:VK):Prop
 |mk (B:bD) (A:Ab) (ρ:ax):HA X.K B A H->a7 X.K B H σ ρ->de ρ->(dg (XE X B H) (F ρ A) fun t A'=>∀v B' H',Grows B H B' H'->HA X.K B' A' H'->Rep X.K (aN B' H') v t->Q v H')->tE X F σ H Q
inductive Dq(X:Cx)(F:ax->Ab->Rz Bool)(σ:St)(H:Hp)(Q:Bool->Hp->Prop):Prop
 |mk (B:bD) (A:Ab) (ρ:ax):HA X.K B A H->a7 X.K B H σ ρ->de ρ->(dg (XE X B H) (F ρ A) fun b A'=>∀B' H',Grows B H B' H'->HA X.K B' A' H'->Q b H')->Dq X F σ H Q
inductive Eo(X:Cx)(F:ax->Ab->Rz (List Tr))(σ:St)(H:Hp)(Q:List V->Hp->Prop):Prop
 |mk (B:bD) (A:Ab) (ρ:ax):HA X.K B A H->a7 X.K B H σ ρ->de ρ->(dg (XE X B H) (F ρ A) fun ts A'=>∀vs B' H',Grows B H B' H'->HA X.K B' A' H'->aI X.K (aN B' H') vs ts->Q vs H')->Eo X F σ H Q
def HL(H H':Hp)(p:Addr):Prop:=H p=none/\∀o u,H' p≠some (.ff o u)
theorem HL.lst {K:PySem.W.Frag}{B:bD}{H H':Hp}{p:Addr}{ts:List Tr}(h:H p=none)(r:Rep K (aN B H') (.ref p) (.lst ts)):HL H H' p:=by
 cases r with
 |lst e _=>exact⟨h,fun o u z=>by rw[aD _ _ e]at z;cases z⟩
theorem HL.upd {H H1:Hp}{p:Addr}{x:HO}(h:H p=none)(hx:∀o u,x≠ .ff o u):HL H (L2.upd H1 p x) p:=⟨h,fun o u z=>by rw[aF]at z;cases z;exact hx _ _ rfl⟩
inductive tF(X:Cx)(F:ax->Rs Tr)(σ:St)(H:Hp)(Q:VK):Prop
 |mk (B:bD) (ρ:ax):HB B H->a7 X.K B H σ ρ->(Fi X H (F ρ) fun t=>∀v H',au H H'->Rep X.K (aN B H') v t->(∀p,v=.ref p->HL H H' p)->Q v H')->tF X F σ H Q
def uk(r:Rs Tr)(A:Ab):Rz Tr:=match r with
 |.ok t=>if vb t=true then .ok t A else .bad
 |_=>.bad
def eD(r:Rs Tr)(A:Ab):Rz Tr:=match r with
 |.ok (.lst ts)=>if fE ts=true then .ok (.at A.length) (A++[.lst ts])else .bad
 |.ok (.ji aC)=>if fE (aC.map (·.2))=true then .ok (.at A.length) (A++[.ji aC])else .bad
 |.ok (.aX aC)=>if fE (aC.map (·.2))=true then .ok (.at A.length) (A++[.aX aC])else .bad
 |_=>.bad
section
variable {X:Cx}{e:Expr}{es:List Expr}{F:ax->Rs Tr}{P:ax->Rs Bool}{L:ax->Rs (List Tr)}{FZ GZ:ax->Ab->Rz Tr}{LZ:ax->Ab->Rz (List Tr)}
theorem TU(h:PE X e (tF X F)):PE X e (tP X F):=h.weak fun σ H Q ⟨B,ρ,hb,r,q⟩=>⟨B,ρ,hb,r,q.mono fun t k v H' s rv _=>k v H' s rv⟩
theorem vf{σ:St}{H:Hp}{Q:VK}(q:tE X (fun ρ A=>aw (F ρ) A) σ H Q):tP X F σ H Q:=by
 obtain⟨B,A,ρ,ha,r,_,q⟩:=q;exact⟨B,ρ,ha.hb,r,(gg q).mono fun t qt v H' s rv=>qt v B H' (.of s) (ha.same s) rv⟩
theorem HM(h:PE X e (tP X F)):PE X e (tE X fun ρ A=>aw (F ρ) A):=h.weak fun σ H Q q=>vf q
theorem Ep(h:PT X e (tQ X P)):PT X e (Dq X fun ρ A=>aw (P ρ) A):=
 h.weak fun σ H Q ⟨B,A,ρ,ha,r,_,q⟩=>⟨B,ρ,ha.hb,r,(gg q).mono fun t qt H' s=>qt B H' (.of s) (ha.same s)⟩
theorem HN(h:PE X e (tP X F)):PE X e (tE X fun ρ A=>uk (F (aZ A ρ)) A):=
 h.weak fun σ H Q ⟨B,A,ρ,ha,r,n,q⟩=>⟨B.un,aZ A ρ,vc ha.hb,r.HK ha n,by
   have q:dg (XE X B H) (uk (F (aZ A ρ)) A) _:=q;cases e:F (aZ A ρ)with
   |bad=>rw[e]at q;exact q
   |exc c=>rw[e]at q;exact(show False from q).elim
   |ok t=>
    rw[e]at q;intro v H' s rv;by_cases f:vb t=true
    ·have q':dg _ (if vb t=true then Rz.ok t A else .bad) _:=q;rw[ab f]at q';exact q' v B H' (.of s) (ha.same s) (mQ (ha.same s) rv f)
    ·have q':dg _ (if vb t=true then Rz.ok t A else .bad) _:=q;rw[ae f]at q';exact(show False from q').elim⟩
theorem Er(h:PT X e (tQ X P)):PT X e (Dq X fun ρ A=>aw (P (aZ A ρ)) A):=
 h.weak fun σ H Q ⟨B,A,ρ,ha,r,n,q⟩=>⟨B.un,aZ A ρ,vc ha.hb,r.HK ha n,(gg q).mono fun t qt H' s=>qt B H' (.of s) (ha.same s)⟩
theorem l5{c:Prop}[Decidable c]{α:Type}{xc:Tr->Ab->Prop}{r:Rz α}{k:α->Ab->Prop}(h:dg xc (if c then r else .bad) k):c/\dg xc r k:=by
 by_cases q:c
 ·rw[ab q]at h;exact⟨q,h⟩
 ·rw[ae q]at h;exact(show False from h).elim
theorem kr{σ:St}{H:Hp}{Q:VK}(q:tE X (fun ρ A=>eD (F (aZ A ρ)) A) σ H Q):tF X F σ H Q:=by
  obtain⟨B,A,ρ,ha,r,n,q⟩:=q;refine⟨B.un,aZ A ρ,vc ha.hb,r.HK ha n,?_⟩;have q:dg (XE X B H) (eD (F (aZ A ρ)) A) _:=q;cases e:F (aZ A ρ)with
  |bad=>rw[e]at q;exact q
  |exc c=>rw[e]at q;exact(show False from q).elim
  |ok t=>
   rw[e]at q;intro v H' s rv fr;have dF:=ha.same s;cases rv with
   |@lst p vs ts h rr=>
    have hp:=(fr p rfl).1;obtain⟨f,q'⟩:=l5 q;have h1:H' p=some (.lst vs):=aD _ _ h;obtain⟨g,h2⟩:=ha.push (o:=.lst ts) hp s ⟨n8,vs,h1,l4 ((gf.un dF).trans (.new (ha.free hp) h1 (fun _ z=>by cases z) fun _ _ z=>by cases z)) rr f⟩;exact q' _ _ H' g h2 (.at gz)
   |@ji p ar aC h ek rr=>
    have hp:=(fr p rfl).1;obtain⟨f,q'⟩:=l5 q;have h1:H' p=some (.dK ar):=by
     rcases h.same aD with h|⟨o,h⟩
     ·exact h
     ·exact((fr p rfl).2 _ _ h).elim
    obtain⟨g,h2⟩:=ha.push (o:=.ji aC) hp s ⟨n8,ar,h1,ek,l4 ((gf.un dF).trans (.new (ha.free hp) h1 (fun _ z=>by cases z) fun _ _ z=>by cases z)) rr f⟩;exact q' _ _ H' g h2 (.at gz)
   |@aX p ar aC h ek rr=>
    have hp:=(fr p rfl).1;obtain⟨f,q'⟩:=l5 q;have h1:H' p=some (.dT ar):=by
     rcases h.same aD with h|⟨o,h⟩
     ·exact h
     ·exact((fr p rfl).2 _ _ h).elim
    obtain⟨g,h2⟩:=ha.push (o:=.aX aC) hp s ⟨n8,ar,h1,ek,l4 ((gf.un dF).trans (.new (ha.free hp) h1 (fun _ z=>by cases z) fun _ _ z=>by cases z)) rr f⟩;exact q' _ _ H' g h2 (.at gz)
   |_=>exact(show False from q).elim
theorem L1(h:PE X e (tF X F)):PE X e (tE X fun ρ A=>eD (F (aZ A ρ)) A):=h.weak fun σ H Q q=>kr q
end
end L2
set_option maxRecDepth 6000
namespace L2
open PySem PySem.Spec PySem.Calls PyProof.Rows
def jv:List Tr->Option (List Int)
 |[]=>some []
 |.int i::ts=>(jv ts).map fun r=>i::r
 |_=>none
theorem rY{K:PySem.W.Frag}{W:Vw}:∀{vs:List V} {ts:List Tr} {ns:List Int},aI K W vs ts->jv ts=some ns->vs=ns.map V.int
 |[],[],ns,_,e=>by cases e;rfl
 |[],_::_,_,h,_=>by cases h
 |v::vs,ts,ns,h,e=>by
  cases h with
  |cons h r=>
   cases h with
   |int i=>
    rename_i ts;have e':(jv ts).map (fun r=>i::r)=some ns:=e;cases q:jv ts with
    |none=>rw[q]at e';cases e'
    |some rs=>
     rw[q]at e';cases e';rw[rY r q];rfl
   |_=>cases e
end L2
namespace L2
open PySem PySem.Spec PySem.Calls PyProof.Rows
def tN:Heap:={}
theorem jw(b:Addr):tN.get? b=none:=by
 cases e:tN.get? b with
 |none=>rfl
 |some o=>exact absurd (aA e) (o7 _)
def w_(h:Heap)(L:Addr):List (Addr×Obj):=(List.range h.objs.size).filterMap fun b=>if b=L then none else(h.get? b).map fun o=>(b,o)
theorem xa{h:Heap}{L b:Addr}{o:Obj}:(b,o)∈w_ h L↔b≠L/\h.get? b=some o:=by
 unfold w_;rw[iR];constructor
 ·rintro ⟨c,_,e⟩
  by_cases z:c=L
  ·rw[ab z]at e;cases e
  ·rw[ae z]at e;cases q:h.get? c with
   |none=>rw[q]at e;cases e
   |some u=>rw[q]at e;cases e;exact⟨z,q⟩
 ·rintro ⟨n,e⟩
  exact⟨b,cD.mpr (aA e),by rw[ae n,e];rfl⟩
section
variable {X:Cx}{pins:List (Addr×Obj)}{σ:St}{H:Hp}{s:Shared}
theorem Inv.BQ {m:Str->Option Value}{h':Heap}{tk:Nat}(I:Inv X pins σ H s)(TV:s.heap.Ns X.env.locals m)(hn:h'.Ns X.env.locals m)(kp:∀b o,b≠X.env.locals->s.heap.get? b=some o->h'.get? b=some o):Inv X pins σ H {s with heap:=h',toks:=tk}:=by
 obtain⟨m0,TX,hl⟩:=id I.loc;have AO:=I.AO;have lo:∀{b:Addr} {o:Obj},X.dS.heap.get? b=some o->b≠X.env.locals:=fun{b o} e=>aP (bj (aA e) I.ok.above);have em:m0=m:=by
  obtain⟨o1,rZ,VQ,a1,b1,_,d1⟩:=TX;obtain⟨o2,HP,VR,a2,b2,_,d2⟩:=TV;rw[a1]at a2;cases a2;rw[b1]at b2;cases b2;funext x;rw[<-d1 x,<-d2 x]
 subst em;refine⟨I.ok,I.os,I.bare,⟨fun b o e n hb hx=>kp b o (lo e) (I.base.keep b o e n hb hx),fun b o e n hb hx=>?_,I.base.free,fun b o e hx=>?_,I.base.jX,I.base.iK,I.base.i_⟩,⟨m0,hn,fun j y v' e1 e2 e3=>?_⟩,fun y c e=>?_,I.free,I.fH,fun p hp=>?_,fun b u e=>?_,I.len⟩
 ·obtain⟨sl,e1⟩:=I.base.slot b o e n hb hx;exact⟨sl,kp b _ (lo e) e1⟩
 ·obtain⟨o',e1⟩:=I.base.there b o e hx;exact⟨o',kp b o' (lo e) e1⟩
 ·obtain⟨u',r',q⟩:=hl j y v' e1 e2 e3;refine⟨u',r',?_⟩;rcases q with⟨k,e⟩|⟨k,c,e,z⟩
  ·exact .inl ⟨k,e⟩
  ·obtain⟨oc,e5,e6⟩:=id z;exact .inr ⟨k,c,e,oc,kp c oc (AO y c e) e5,e6⟩
 ·obtain⟨w',z⟩:=I.cell y c e;obtain⟨oc,e5,e6⟩:=id z;exact⟨w',oc,kp c oc (AO y c e) e5,e6⟩
 ·obtain⟨e,n,ne,nf,d⟩:=I.pin p hp;exact⟨kp p.1 p.2 ne e,n,ne,nf,d⟩
 ·refine(I.bC b u e).j_ (fun c w' hc q=>kp c w' ?_ q) (fun _ q=>q) fun _ _ q=>q
  rintro rfl
  rcases hc with rfl|hc
  ·rw[I.free]at e;cases e
  ·rw[I.free]at hc;cases hc
end
def ia:List Tr->Rs Tr
 |[.ji aC]=>.ok (.int aC.length)
 |ts=>Ef ts
theorem kx{X:Cx}:hW X (.builtin "len") ia:=by
 intro pins s σ H xs us Q I rv ⟨B,ts,hb,r,q⟩;by_cases z:∃aC,ts=[.ji aC]
 ·obtain⟨aC,rfl⟩:=z;cases r with
  |cons h r=>
   cases r;cases h with
   |@ji a ar _ h ek rr=>
    obtain⟨u,rfl,ru⟩:=vals1 rv;cases ru;have hl:ar.length=aC.length:=by have:=bH List.length ek;rw[ai,ai]at this;exact this
    exact Ky I (h.same aD) fun t s' I'=>⟨.int ar.length,H,I',⟨t,rfl⟩,(show∀v H',au H H'->Rep X.K (aN B H') v (.int aC.length)->Q v H' from q) _ H (au.refl H) (by rw[hl];exact .int _)⟩
 ·have e:ia ts=Ef ts:=by
   unfold ia;split
   ·exact absurd ⟨_,rfl⟩ z
   ·rfl
  rw[e]at q;exact Lx pins s σ H xs us Q I rv ⟨B,ts,hb,r,q⟩
end L2
namespace L2
open PySem PySem.Spec PyProof.Rows
def j6(X:Cx)(D:Ends)(B0:bD)(H0:Hp):Out->Ab->Prop
 |.nx ρ,A=>∀bA B' H',Grows B0 H0 B' H'->HA X.K B' A H'->a7 X.K B' H' bA ρ->de ρ->D.nx bA H'
 |.ret t,A=>∀v B' H',Grows B0 H0 B' H'->HA X.K B' A H'->Rep X.K (aN B' H') v t->D.rt v H'
 |.bk ρ,A=>∀bA B' H',Grows B0 H0 B' H'->HA X.K B' A H'->a7 X.K B' H' bA ρ->de ρ->D.bk bA H'
 |.ct ρ,A=>∀bA B' H',Grows B0 H0 B' H'->HA X.K B' A H'->a7 X.K B' H' bA ρ->de ρ->D.ct bA H'
inductive tZ(X:Cx)(G:ax->Ab->Rz Out)(D:Ends)(σ:St)(H:Hp):Prop
 |mk (B0:bD) (H0:Hp) (B:bD) (A:Ab) (ρ:ax):HB B0 H0->Grows B0 H0 B H->HA X.K B A H->a7 X.K B H σ ρ->de ρ->dg (XE X B0 H0) (G ρ A) (j6 X D B0 H0)->tZ X G D σ H
section
variable {X:Cx}{a b c e:Expr}{pos:Pos}{F:ax->Ab->Rz Tr}{G G':ax->Ab->Rz Out}{P:ax->Ab->Rz Bool}{st:Stmt}{rest Ld:List Stmt}
def bR(r:Rz Out)(G:ax->Ab->Rz Out):Rz Out:=r.bind fun o A=>match o with
 |.nx ρ=>G ρ A
 |.ret t=>.ok (.ret t) A
 |.bk ρ=>.ok (.bk ρ) A
 |.ct ρ=>.ok (.ct ρ) A
theorem L3:ja X [] (tZ X fun ρ A=>.ok (.nx ρ) A):=xF.weak fun D σ H ⟨B0,H0,B,A,ρ,hb,g,ha,r,n,q⟩=>q σ B H g ha r n
theorem HQ(h1:PS X st (tZ X G))(h2:ja X rest (tZ X G')):ja X (st::rest) (tZ X fun ρ A=>bR (G ρ A) G'):=
 (uC h1 h2).weak fun D σ H ⟨B0,H0,B,A,ρ,hb,g,ha,r,n,q⟩=>⟨B0,H0,B,A,ρ,hb,g,ha,r,n,q.bind.mono fun o A1 qo=>by
  cases o with
  |nx eG=>exact fun bA B' H' g' dF r' n'=>⟨B0,H0,B',A1,eG,hb,g',dF,r',n',qo⟩
  |ret t=>exact qo
  |bk eG=>exact qo
  |ct eG=>exact qo⟩
theorem L4(h1:PS X st (tZ X G)):ja X [st] (tZ X G):=xG h1
theorem iI{B0 B:bD}{H0 H:Hp}{A:Ab}{σ:St}{ρ:ax}{k:Tr->Ab->Prop}(hb:HB B0 H0)(g:Grows B0 H0 B H)(ha:HA X.K B A H)(r:a7 X.K B H σ ρ)(n:de ρ)(q:dg (XE X B0 H0) (F ρ A) k){Q:VK}
  (hq:∀t A' v B' H',k t A'->Grows B0 H0 B' H'->HA X.K B' A' H'->a7 X.K B' H' σ ρ->Rep X.K (aN B' H') v t->Grows B H B' H'->Q v H'):tE X F σ H Q:=
 ⟨B,A,ρ,ha,r,n,(q.imp fun c A' x=>x.grow hb g).mono fun t A' qp v B' H' g' dF rv=>hq t A' v B' H' qp (g.trans hb g') dF (r.grow n g') rv g'⟩
theorem BR{B0 B:bD}{H0 H:Hp}{A:Ab}{σ:St}{ρ:ax}{k:Bool->Ab->Prop}(hb:HB B0 H0)(g:Grows B0 H0 B H)(ha:HA X.K B A H)(r:a7 X.K B H σ ρ)(n:de ρ)(q:dg (XE X B0 H0) (P ρ A) k){Q:Bool->Hp->Prop}
  (hq:∀t A' B' H',k t A'->Grows B0 H0 B' H'->HA X.K B' A' H'->a7 X.K B' H' σ ρ->Q t H'):Dq X P σ H Q:=
 ⟨B,A,ρ,ha,r,n,(q.imp fun c A' x=>x.grow hb g).mono fun t A' qp B' H' g' dF=>hq t A' B' H' qp (g.trans hb g') dF (r.grow n g')⟩
def dj(i:Nat)(r:Rz Tr)(ρ:ax):Rz Out:=r.bind fun t A=>.ok (.nx (ρ.set i (.sh t))) A
theorem L5{i:Nat}{x:Str}{pos':Pos}(he:PE X e (tE X F))(hN:X.N.Nodup:=by assumption) (hi:X.N[i]?=some x:=by rfl) (hx:Loc X.env.scope x:=by first|exact Or.inl rfl|exact Or.inr rfl) (hs:kh e=false:=by rfl) (hf:X.fn x=true\/X.env.scope.names.lookup x=some .local:=by first|exact .inl rfl|exact .inr rfl|assumption):
  PS X (.Assign [.Name x pos'] e pos) (tZ X fun ρ A=>dj i (F ρ A) ρ):=
 (AZ hN hi hx he (pK hs) hf).weak fun D σ H ⟨B0,H0,B,A,ρ,hb,g,ha,r,n,q⟩=>iI hb g ha r n q.bind fun t A' v B' H' qt g' dF r' rv _=>qt _ B' H' g' dF (r'.set i rv) (n.set i t)
def jx(r:Rz Tr):Rz Out:=r.bind fun t A=>.ok (.ret t) A
theorem L6(he:PE X e (tE X F)):PS X (.Return (some e) pos) (tZ X fun ρ A=>jx (F ρ A)):=
 (AW he).weak fun D σ H ⟨B0,H0,B,A,ρ,hb,g,ha,r,n,q⟩=>iI hb g ha r n q.bind fun t A' v B' H' qt g' dF r' rv _=>qt v B' H' g' dF rv
def eJ(r:Rz Tr)(ρ:ax):Rz Out:=r.bind fun _ A=>.ok (.nx ρ) A
theorem HR(he:PE X e (tE X F))(hs:kh e=false:=by rfl):PS X (.Expr e pos) (tZ X fun ρ A=>eJ (F ρ A) ρ):=
 (Dw he (pK hs)).weak fun D σ H ⟨B0,H0,B,A,ρ,hb,g,ha,r,n,q⟩=>iI hb g ha r n q.bind fun t A' v B' H' qt g' dF r' rv _=>qt _ B' H' g' dF r' n
def um(c:Rz Bool)(a b:Ab->Rz Out):Rz Out:=c.bind fun k A=>if k then a A else b A
theorem PX{ys ns:List Stmt}(hc:PT X c (Dq X P))(h1:ja X ys (tZ X G))(h2:ja X ns (tZ X G')):PS X (.If c ys ns pos) (tZ X fun ρ A=>um (P ρ A) (G ρ) (G' ρ)):=
 (E8 hc h1 h2).weak fun D σ H ⟨B0,H0,B,A,ρ,hb,g,ha,r,n,q⟩=>BR hb g ha r n q.bind fun k A' B' H' qk g' dF r'=>by
  cases k with
  |true=>exact G1 ⟨B0,H0,B',A',ρ,hb,g',dF,r',n,qk⟩
  |false=>exact G0 ⟨B0,H0,B',A',ρ,hb,g',dF,r',n,qk⟩
theorem BS{T:kn}{B0 B:bD}{H0 H:Hp}{A:Ab}{σ:St}{ρ:ax}{v:V}{t:Tr}{k:ax->Ab->Prop}(hT:h8 T)(hb:HB B0 H0)(g:Grows B0 H0 B H)(ha:HA X.K B A H)(r:a7 X.K B H σ ρ)(n:de ρ)(rv:Rep X.K (aN B H) v t){xc:Tr->Ab->Prop}(q:dg xc (aw (T t ρ) A) k){Q:St->Hp->Prop}
  (hq:∀eG bA H',k eG A->Grows B0 H0 B H'->HA X.K B A H'->a7 X.K B H' bA eG->de eG->au H H'->Q bA H'):tG X T v σ H Q:=by
 refine⟨B,ρ,t,ha.hb,r,rv,?_⟩;cases e:T t ρ with
 |ok eG=>rw[e]at q;exact fun bA H' s r'=>hq eG bA H' q (g.trans hb (.of s)) (ha.same s) r' (hT t ρ eG n e) s
 |exc c=>rw[e]at q;exact(show False from q).elim
 |bad=>rw[e]at q;exact q
def iN(T:kn)(G:ax->Ab->Rz Out):List Tr->ax->Ab->Rz Out
 |[],ρ,A=>.ok (.nx ρ) A
 |t::ts,ρ,A=>(aw (T t ρ) A).bind fun ρ1 A=>(G ρ1 A).bind fun o A=>match o with
  |.nx ρ2=>iN T G ts ρ2 A
  |.ct ρ2=>iN T G ts ρ2 A
  |.bk ρ2=>.ok (.nx ρ2) A
  |.ret t=>.ok (.ret t) A
def jy(T:kn)(G:ax->Ab->Rz Out)(l:Rz (List Tr))(ρ:ax):Rz Out:=l.bind fun ts A=>iN T G ts ρ A
theorem L7{tg iter:Expr}{body:List Stmt}{W:ax->Rs (List Tr)}{T:kn}(hi:PI X tg iter (tI X W))(hg:PG X tg (tG X T))(hT:h8 T)(hb:ja X body (tZ X G))(hp:PassesOwn (model X.prog X.w) X.A X.env X.xe:=by first|exact gV|exact gU) (hc:X.calm=true:=by rfl)
  (hs:isSet iter=false:=by rfl):PS X (.For tg iter body [] pos) (tZ X fun ρ A=>jy T G (aw (W ρ) A) ρ):=
 (wx hp hc hi hg hb (dA hs)).weak fun D σ H ⟨B0,H0,B,A,ρ,qS,g,ha,r,n,q⟩=>⟨B,ρ,ha.hb,r,(gg (dg.bind q)).mono fun ts qt J H1 s1 gt=>by
  have g1:Grows B0 H0 B H1:=g.trans qS (.of s1);have xb:HB B H1:=ha.hb.same s1;refine⟨fun i m bA H'=>m=ts.length - i/\i<=ts.length/\∃B' A' eG,Grows B H1 B' H'/\HA X.K B' A' H'/\a7 X.K B' H' bA eG/\de eG/\dg (XE X B0 H0) (iN T G (ts.drop i) eG A') (j6 X D B0 H0),⟨_,rfl,bx _,B,A,ρ,.refl,ha.same s1,r.same s1,n,qt⟩,?_⟩
  rintro i m bA H' ⟨rfl,hi,B',A',eG,g',dF,r',n',q'⟩
  by_cases eB:i<ts.length
  ·rw[kJ eB]at q';refine .inr ⟨gt.go i B' H' eB g'.fy dF.hb,fun qW H2=>∃B2 A2 ρ2,Grows B H1 B2 H2/\HA X.K B2 A2 H2/\a7 X.K B2 H2 qW ρ2/\de ρ2/\dg (XE X B0 H0) (iN T G (ts.drop (i+1)) ρ2 A2) (j6 X D B0 H0),
    fun qW H2 x=>⟨ts.length - (i+1),by omega,rfl,eB,x⟩,fun x H2 hx=>?_⟩
   obtain⟨s2,t,et,rt⟩:=gt.xH i B' H' x H2 eB g'.fy dF.hb hx;have Lo:ts[i]=t:=by rw[aH eB]at et;exact Option.some.inj et
   rw[Lo]at q';have g2:Grows B H1 B' H2:=g'.trans xb (.of s2);refine BS hT xb g2 (dF.same s2) (r'.same s2) n' rt (dg.bind q') fun ρ1 wq H3 q1 g3 zU r3 n3 _=>?_
   refine⟨B,H1,B',A',ρ1,xb,g3,zU,r3,n3,((dg.bind q1).imp fun c RL x=>x.grow qS g1).mono fun o A4 qo=>?_⟩;cases o with
   |nx ρ2=>exact fun zV B4 H4 g4 mR r4 n4=>⟨B4,A4,ρ2,g4,mR,r4,n4,qo⟩
   |ct ρ2=>exact fun zV B4 H4 g4 mR r4 n4=>⟨B4,A4,ρ2,g4,mR,r4,n4,qo⟩
   |bk ρ2=>exact fun zV B4 H4 g4 mR r4 n4=>qo zV B4 H4 (g1.trans qS g4) mR r4 n4
   |ret t=>exact fun v B4 H4 g4 mR r4=>qo v B4 H4 (g1.trans qS g4) mR r4
  ·have e:i=ts.length:=by omega
   subst e;rw[iW]at q';exact .inl ⟨gt.stop B' H' g'.fy,q' bA B' H' (g1.trans qS g') dF r' n'⟩⟩
def dY(P:ax->Ab->Rz Bool)(G:ax->Ab->Rz Out):Nat->ax->Ab->Rz Out
 |0,_,_=>.bad
 |m+1,ρ,A=>(P ρ A).bind fun k A=>if k then(G ρ A).bind fun o A=>match o with
   |.nx ρ2=>dY P G m ρ2 A
   |.ct ρ2=>dY P G m ρ2 A
   |.bk ρ2=>.ok (.nx ρ2) A
   |.ret t=>.ok (.ret t) A
  else .ok (.nx ρ) A
theorem Es(m:Nat){body:List Stmt}(hc:PT X c (Dq X P))(hb:ja X body (tZ X G))(hp:PassesOwn (model X.prog X.w) X.A X.env X.xe:=by first|exact gV|exact gU):PS X (.While c body [] pos) (tZ X fun ρ A=>dY P G m ρ A):=
 (A5 hp hc hb).weak fun D σ H ⟨B0,H0,B,A,ρ,qS,g,ha,r,n,q⟩=>by
  refine⟨fun k bA H'=>∃B' A' eG,Grows B0 H0 B' H'/\HA X.K B' A' H'/\a7 X.K B' H' bA eG/\de eG/\dg (XE X B0 H0) (dY P G k eG A') (j6 X D B0 H0),⟨m,B,A,ρ,g,ha,r,n,q⟩,?_⟩
  rintro k E9 H1 ⟨B1,A1,ρ1,g1,iO,r1,n1,q1⟩
  cases k with
  |zero=>exact(show False from q1).elim
  |succ k=>
   refine BR qS g1 iO r1 n1 (dg.bind q1) fun t A2 B2 H2 q2 g2 vg r2=>?_
   cases t with
   |false=>
    rw[ae cj]at q2⊢;exact q2 E9 B2 H2 g2 vg r2 n1
   |true=>
    rw[ab rfl]at q2⊢;refine⟨fun bA H'=>∃B' A' eG,Grows B0 H0 B' H'/\HA X.K B' A' H'/\a7 X.K B' H' bA eG/\de eG/\dg (XE X B0 H0) (dY P G k eG A') (j6 X D B0 H0),fun bA H' h=>⟨k,iX k,h⟩,?_⟩;refine⟨B0,H0,B2,A2,ρ1,qS,g2,vg,r2,n1,(dg.bind q2).mono fun o A4 qo=>?_⟩;cases o with
    |nx ρ2=>exact fun zV B4 H4 g4 mR r4 n4=>⟨B4,A4,ρ2,g4,mR,r4,n4,qo⟩
    |ct ρ2=>exact fun zV B4 H4 g4 mR r4 n4=>⟨B4,A4,ρ2,g4,mR,r4,n4,qo⟩
    |bk ρ2=>exact qo
    |ret t=>exact qo
end
section
variable {X:Cx}{a e o:Expr}{es:List Expr}{F:ax->Ab->Rz Tr}{L:ax->Ab->Rz (List Tr)}{name:Str}{apos dE:Pos}{id:String}
def b_(r:Rz Tr)(l:Ab->Rz (List Tr)):Rz (List Tr):=r.bind fun x A=>(l A).bind fun xs A=>.ok (x::xs) A
theorem BU:PA X [] (Eo X fun _ A=>.ok [] A):=kb.weak fun σ H Q ⟨B,A,ρ,ha,r,n,q⟩=>q [] B H .refl ha .nil
theorem yl(h1:PE X a (tE X F))(hr:PA X es (Eo X L))(hs:isStar a=false:=by rfl):PA X (a::es) (Eo X fun ρ A=>b_ (F ρ A) (L ρ)):=
 (ir h1 hr (aU _ _ hs)).weak fun σ H Q ⟨B,A,ρ,ha,r,n,q⟩=>⟨B,A,ρ,ha,r,n,q.bind.mono fun x A1 qx v B1 H1 g1 iO r1=>⟨B1,A1,ρ,iO,r.grow n g1,n,((dg.bind qx).imp fun c A' x=>x.grow ha.hb g1).mono fun xs A2 qs vs B2 H2 g2 vg r2=>qs _ B2 H2 (g1.trans ha.hb g2) vg (.cons (r1.same g2.fy) r2)⟩⟩
def N8(X:Cx)(r:V->List V->Hp->VK->Prop)(h:Nat->List Tr->Ab->Rz Tr):Prop:=
 ∀(B:bD) (A:Ab) (H:Hp) (a:Addr) (i:Nat) (xs:List V) (ts:List Tr) (Q:VK),HA X.K B A H->B.ix a=some i->aI X.K (aN B H) xs ts->
  dg (XE X B H) (h i ts A) (fun t A'=>∀v B' H',Grows B H B' H'->HA X.K B' A' H'->Rep X.K (aN B' H') v t->Q v H')->r (.ref a) xs H Q
def zW(A:Ab)(i:Nat):Bool:=match A[i]? with
 |some (.lst _)=>true
 |_=>false
theorem HS{K:PySem.W.Frag}{B:bD}{A:Ab}{H:Hp}{a:Addr}{i:Nat}(ha:HA K B A H)(e:B.ix a=some i)(h:zW A i=true):∃xs,H a=some (.lst xs):=by
 obtain⟨o,eo,ao⟩:=ha.ex e;unfold zW at h;rw[eo]at h;cases o with
 |lst ts=>obtain⟨_,vs,h1,_⟩:=ao;exact⟨vs,h1⟩
 |ji _=>cases h
 |aX _=>cases h
 |En _=>cases h
 |tb _ _=>cases h
 |ins _ _=>cases h
def vh(h:Nat->List Tr->Ab->Rz Tr)(r:Rz Tr)(l:Ab->Rz (List Tr)):Rz Tr:=r.bind fun t A=>match t with
 |.at i=>if zW A i=true then(l A).bind fun ts A=>h i ts A else .bad
 |_=>.bad
variable {r:V->List V->Hp->VK->Prop}{h:Nat->List Tr->Ab->Rz Tr}
theorem L8(slot:Slot "list" name id)(Kt:typeOf (.builtin id)=pure (.type "method_descriptor"))(hm:NK X id r)(hz:N8 X r h)(ho:PE X o (tE X F))(ha:PA X (e::es) (Eo X L))(pa:PlainAttrs "list":=by exact PySem.F.plainAttrs_list)
  (uK:isCall o=false:=by rfl) (cS:aY (e::es)=true:=by rfl) (hn:(e::es).length<30:=by decide) (uL:(apos.endLine==dE.line)=true:=by rfl):
  PE X (.Call (.Attribute o name apos) (e::es) [] dE) (tE X fun ρ A=>vh h (F ρ A) (L ρ)):=
 (Ks pa slot Kt hm ho ha (xU uK) (by rw[pJ cS,bF (show(e::es).length+([]:List Keyword).length+(if([]:List Keyword).isEmpty then 0 else 1)<30 from hn)];rfl) uL (aU _ _ (aG cS).1) (bZ (aG cS).2)).weak fun σ H Q ⟨B,A,ρ,ha,r,n,q⟩=>⟨B,A,ρ,ha,r,n,q.bind.mono fun t A1 qt v B1 H1 g1 iO rv=>by
  split at qt
  ·rename_i i;obtain⟨a,rfl,r8⟩:=rv.sU;obtain⟨hl,q2⟩:=l5 qt;obtain⟨xs,TY⟩:=HS iO r8 hl;exact⟨.inl ⟨rfl,xs,g8.of TY⟩,B1,A1,ρ,iO,r.grow n g1,n,((dg.bind q2).imp fun c A' x=>x.grow ha.hb g1).mono fun ts A2 qs vs B2 H2 g2 vg rs=>hz B2 A2 H2 a i vs ts Q vg (g2.fy.x _ _ r8) rs ((qs.imp fun c A' x=>x.grow ha.hb (g1.trans ha.hb g2)).mono fun t A3 qt v B3 H3 g3 zU r3=>qt v B3 H3 ((g1.trans ha.hb g2).trans ha.hb g3) zU r3)⟩
  ·exact qt.elim⟩
def eQ(i:Nat):List Tr->Ab->Rz Tr
 |[t],A=>match A[i]? with
  |some (.lst ts)=>if ts.length<iE then .ok .bU (A.set i (.lst (ts++[t])))else .bad
  |_=>.bad
 |_,_=>.bad
theorem mS:N8 X xN eQ:=by
 intro B A H a i xs ts Q ha r8 rs q;unfold eQ at q;split at q
 ·obtain⟨y,rfl,r1⟩:=gb rs;split at q
  ·rename_i eo;obtain⟨hz,q⟩:=l5 q;obtain⟨hd,vs,h1,h2⟩:=ha.get r8 eo;obtain⟨g,h3⟩:=ha.write (o:=.lst (_++[_])) (u:=.lst (vs++[y])) r8 ⟨hd,_,aF,by rw[jT hd];exact h2.append (.cons r1 .nil)⟩;exact⟨a,vs,y,rfl,rfl,h1,by rw[h2.length,<-gE];exact hz,q .bU B _ g h3 .bU⟩
  ·exact q.elim
 ·exact q.elim
def zX(i:Nat):List Tr->Ab->Rz Tr
 |[.int k],A=>match A[i]? with
  |some (.lst ts)=>if-9223372036854775808<=k/\k<9223372036854775808 then match seqIndex? k ts.length with
   |some j=>match ts[j]? with
    |some t=>.ok t (A.set i (.lst (ts.eraseIdx j)))
    |none=>.bad
   |none=>.bad
   else .bad
  |_=>.bad
 |_,_=>.bad
theorem aI.erase {K:PySem.W.Frag}{W:Vw}:∀{vs:List V} {ts:List Tr} (j:Nat),aI K W vs ts->aI K W (vs.eraseIdx j) (ts.eraseIdx j)
 |[],_,_,r=>by cases r;exact .nil
 |_::_,_,0,r=>by cases r with|cons h r=>exact r
 |_::_,_,j+1,r=>by cases r with|cons h r=>exact .cons h (aI.erase j r)
theorem HU:N8 X Bh zX:=by
 intro B A H a i xs ts Q ha r8 rs q;unfold zX at q;split at q
 ·obtain⟨y,rfl,r1⟩:=gb rs;cases r1.int_inv;split at q
  ·rename_i eo;obtain⟨⟨k1,k2⟩,q⟩:=l5 q;obtain⟨hd,vs,h1,h2⟩:=ha.get r8 eo;split at q
   ·rename_i j ej;split at q
    ·rename_i eu;obtain⟨y,ey,ry⟩:=h2.get eu;obtain⟨g,h3⟩:=ha.write (o:=.lst (List.eraseIdx _ j)) (u:=.lst (vs.eraseIdx j)) r8 ⟨hd,_,aF,by rw[jT hd];exact h2.erase j⟩;exact⟨a,vs,_,j,y,rfl,rfl,h1,k1,k2,by rw[h2.length];exact ej,ey,q y B _ g h3 (by rw[jT hd];exact ry)⟩
    ·exact q.elim
   ·exact q.elim
  ·exact q.elim
 ·exact q.elim
end
def eK(r:Rz Out):Rs Tr:=match r with
 |.ok (.nx _) _=>.ok .bU
 |.ok (.ret t) A=>if gn (bq 3 A t)=true then .ok (bq 3 A t)else .bad
 |_=>.bad
theorem kz{n:Nat}{ts:List Tr}:de (startT n ts):=fun i us e=>by
 rcases jR e with q|⟨u,_,q⟩<;>cases q
theorem q_.TZ {P:Program}{w:World}{K:PySem.W.Frag}{mg:Str->Option Value}{base:Heap}{x qual:Str}{st:Stmt}{f:Addr}{fd:FuncData}{N ps:List Str}{k:Nat}{h:List Tr->Rs Tr}(Fn:q_ K x qual st f fd)(S:c_ N ps (aE st))(len:∀ts t,h ts=.ok t->ts.length=ps.length)
  (f':∀(cE:Value) (A:Around) (outer:List Env) (s:Shared) (H:Hp) (E:XK),cM k (A.deeper (envOfC qual (aE st) s.heap.objs.size f cE))->
   ∃G,ja (iM kc P w K mg base N qual (aE st) f cE A outer s H E).AE (cF st) (tZ (iM kc P w K mg base N qual (aE st) f cE A outer s H E).AE G)/\∀ts t,h ts=.ok t->cu ts=true/\eK (G (startT N.length ts) [])=.ok t):fg P w K mg base kc (k+1) f fd ps (spT K h):=by
 refine Fn.ok S (fun vs H Q E q=>?_) (fun cE A outer s H vs Q E hr q=>?_)
 ·obtain⟨B,ts,hb,r,t,e,_⟩:=q;rw[r.length];exact len ts t e
 ·obtain⟨B,ts,hb,r,t,e,q⟩:=q;obtain⟨G,hG,hE⟩:=f' cE A outer s H E hr;obtain⟨na,e1⟩:=hE ts t e
  let B0:bD:=⟨B.hd,fun _=>none⟩
  have qS:HB B0 H:=hb;have T1:HA K B0 [] H:=⟨qS,fun i o z=>by simp at z,(fun a b i z=>by cases(show(none:Option Nat)=some i from z)),(fun a i z=>by cases(show(none:Option Nat)=some i from z))⟩;have r0:aI K (aN B0 H) vs ts:=aI.BO (W:=aN B H) (W':=aN B0 H) (fun _ _ e=>e) r na;have sm:∀{B':bD} {H':Hp},Grows B0 H B' H'->au H H':=fun g b o z=>g.kp b o rfl z;refine⟨_,hG,B0,H,B0,[],startT N.length ts,qS,.refl,T1,a7.start r0,kz,?_⟩;cases eo:G (startT N.length ts) []with
  |ok o A1=>
   rw[eo]at e1;cases o with
   |nx ρ=>cases e1;exact fun bA B' H' g ha r' n'=>q .bU H' (sm g) .bU
   |ret u=>
    have e2:(if gn (bq 3 A1 u)=true then Rs.ok (bq 3 A1 u)else .bad)=.ok t:=e1;by_cases z:gn (bq 3 A1 u)=true
    ·rw[ab z]at e2;cases e2;intro v B' H' g ha r';refine q v H' (sm g) (Rep.BO (fun b o z=>?_) (dX ha 3 r') z);have z1:=aD b o z;cases hB:B.hd b with
     |false=>rw[cq hB];exact z1
     |true=>
      have h2:B'.hd b=true:=g.hd b rfl hB;have h3:B'.ix b=none:=by
       cases h4:B'.ix b with
       |none=>rfl
       |some i=>have h5:=g.nw b i h4 rfl;obtain⟨o2,h6,_⟩:=hb b hB;rw[h5]at h6;cases h6
      have z2:(if B'.un.hd b=true then none else H' b)=some o:=z;rw[show B'.un.hd b=(B'.hd b&&(B'.ix b).isNone)from rfl,h2,h3]at z2;cases z2
    ·rw[ae z]at e2;cases e2
   |bk ρ=>cases e1
   |ct ρ=>cases e1
  |exc c A1=>rw[eo]at e1;cases e1
  |bad=>rw[eo]at e1;cases e1
def rf(n m:Nat)(G:ax->Ab->Rz Out)(ts:List Tr):Rs Tr:=if ts.length=n/\cu ts=true then eK (G (startT m ts) [])else .bad
theorem BV{n m:Nat}{G:ax->Ab->Rz Out}{ts:List Tr}{t:Tr}(h:rf n m G ts=.ok t):ts.length=n:=by
 unfold rf at h;split at h
 ·rename_i z;exact z.1
 ·cases h
theorem Et{n m:Nat}{G:ax->Ab->Rz Out}{ts:List Tr}{t:Tr}(h:rf n m G ts=.ok t):cu ts=true/\eK (G (startT m ts) [])=.ok t:=by
 unfold rf at h;split at h
 ·rename_i z;exact⟨z.2,h⟩
 ·cases h
end L2
namespace L2
open PySem PySem.Spec PyProof.Rows
section
variable {X:Cx}{a b e:Expr}{es:List Expr}{pos:Pos}{F G:ax->Rs Tr}{L:ax->Rs (List Tr)}{A:ax->Rs Bool}
theorem L9(h:PA X es (xV X L)):PE X (.List es pos) (tF X fun ρ=>wL (L ρ)):=
 (Ba h).weak fun σ H Q ⟨B,ρ,hb,r,q⟩=>⟨B,ρ,hb,r,q.bind.mono fun ts qt vs H1 s1 r1=>by
  by_cases hz:ts.length<=iE
  ·rw[ab hz]at qt;refine⟨by rw[r1.length,<-gE];exact hz,fun p hp=>qt (.ref p) _ (s1.Hd (s1.free hp)) (.lst ((hb.same s1).new hp) (r1.same (aV (au.upd hp)))) fun p' e=>by cases e;exact .upd (s1.free hp) (fun _ _ z=>by cases z)⟩
  ·rw[ae hz]at qt;exact qt.elim⟩
theorem HV:PE X (.Dict [] [] pos) (tF X fun _=>.ok (.aX [])):=
 Bl.weak fun σ H Q ⟨B,ρ,hb,r,q⟩ p hp=>q (.ref p) _ (au.upd hp) (.aX (.inl (hb.new hp)) rfl .nil) fun p' e=>by cases e;exact .upd hp (fun _ _ z=>by cases z)
variable {scope:Scope}{N':List Str}{ix:List (Option Nat)}{elt iter tg:Expr}{ifs:List Expr}{T:kn}{W:ax->Rs (List Tr)}
theorem zY{σ:St}{H:Hp}{Q:VK}(hT:h8 T)(q:tF X (fun ρ=>iF ix T A F (W ρ) ρ) σ H Q):JD (tI X W) ix (Fq X.K T) (Fp X.K A) (Fo X.K F) σ H Q:=by
 obtain⟨B,ρ,hb,r,q⟩:=q;refine⟨B,ρ,hb,r,q.bind.mono fun ts qt J H1 s1 gt D hD=>?_⟩;by_cases hz:ts.length<=iE
 ·rw[ab hz]at qt;exact n5 hT (nZ ix ρ) (hb.same s1) gt hz ((r.same s1).comp ix (hX hD)) hD (Fi.bind qt) fun ys H' k s' rp=>k _ H' (s1.trans s') rp fun p e=>by cases e;exact .lst (s1.free hD) rp
 ·rw[ae hz]at qt;exact qt.elim
theorem Eu{i:Nat}{x:Str}{px lU:Pos}(Lk:fN X N' ix scope)(hit:PI X tg iter (tI X W))(lT:Hs X scope N' tg elt ifs T A F)(hT:h8 T)(hN:X.N.Nodup:=by assumption) (hc:X.calm=true:=by rfl) (hi:X.N[i]?=some x:=by rfl) (hx:Loc X.env.scope x:=by first|exact Or.inl rfl|exact Or.inr rfl)
  (DT:swapsWith (.ListComp elt [⟨tg,iter,ifs,0⟩] scope pos) (some (.Name x px)) lU.line X.env=pure true:=by rfl) (hs:isSet iter=false:=by rfl) (hf:X.fn x=true\/X.env.scope.names.lookup x=some .local:=by first|exact .inl rfl|exact .inr rfl|assumption):
  PS X (.Assign [.Name x px] (.ListComp elt [⟨tg,iter,ifs,0⟩] scope pos) lU) (tZ X fun ρ A'=>dj i (eD (iF ix T A F (W (aZ A' ρ)) (aZ A' ρ)) A') ρ):=
 (uR Lk hc hN hi hx hit lT.NV DT (dA hs) hf).weak fun D σ H ⟨B0,H0,B,A',ρ,hb,g,ha,r,n,q⟩=>zY hT (kr (F:=fun ρ=>iF ix T A F (W ρ) ρ) (iI (F:=fun ρ A'=>eD (iF ix T A F (W (aZ A' ρ)) (aZ A' ρ)) A') hb g ha r n q.bind fun t A2 v B' H' qt g' dF r' rv _=>qt _ B' H' g' dF (r'.set i rv) (n.set i t)))
inductive rF(X:Cx)(h:List Tr->Rs Tr)(xs:List V)(H:Hp)(Q:VK):Prop
 |mk (B:bD) (ts:List Tr):HB B H->aI X.K (aN B H) xs ts->(Fi X H (h ts) fun t=>∀v H',au H H'->Rep X.K (aN B H') v t->(∀p,v=.ref p->HL H H' p)->Q v H')->rF X h xs H Q
theorem BW{T:String}{x:Str}{p:Pos}{e:Expr}{h:List Tr->Rs Tr}(hc:f_ X (.type T) (rF X h))(hm:X.mg x=none)(ha:PA X (e::es) (xV X L))(hv:bootBuiltins x=some (.type T):=by rfl) (hg:Gl X x:=by rfl) (hn:x≠"__name__":=by decide) (iu:(x==("__debug__":Str))=false:=by decide)
  (cS:aY (e::es)=true:=by rfl):PE X (.Call (.Name x p) (e::es) [] pos) (tF X fun ρ=>aL h (L ρ)):=
 (g_ hc hg hm hv ha hn iu (aU _ _ (aG cS).1) (bZ (aG cS).2)).weak fun σ H Q ⟨B,ρ,hb,r,q⟩=>⟨B,ρ,hb,r,q.bind.mono fun ts qt vs H1 s1 r1=>⟨B,ts,hb.same s1,r1,(qt.same s1).mono fun t qt v H2 s2 r2 fr=>qt v H2 (s1.trans s2) r2 fun p e=>⟨s1.free (fr p e).1,(fr p e).2⟩⟩⟩
theorem Ew:f_ X (.type "list") (rF X yc):=by
 intro pins s σ H xs us Q I rv ⟨B,ts,hb,r,q⟩;unfold yc at q;split at q
 ·obtain⟨x,e,r1⟩:=gb r;obtain⟨a,vs,rfl,h,rr⟩:=r1.cL;exact lR pins s σ H _ us Q I rv ⟨_,_,e,.inr h.up,fun p hp=>q _ _ (au.upd hp) (.wR hb hp rr) fun p' e=>by cases e;exact .upd hp (fun _ _ z=>by cases z)⟩
 ·obtain⟨x,e,r1⟩:=gb r;obtain⟨a,vs,rfl,h,rr⟩:=r1.lst_inv;exact lR pins s σ H _ us Q I rv ⟨_,_,e,.inl (.of (eO h)),fun p hp=>q _ _ (au.upd hp) (.wR hb hp rr) fun p' e=>by cases e;exact .upd hp (fun _ _ z=>by cases z)⟩
 ·exact q.elim
end
end L2
namespace L2
open PySem PySem.Spec PyProof.Rows
def N9(K:PySem.W.Frag)(B:bD)(H:Hp)(E:XK):Tr->Ab->Prop:=fun c A=>∀B' H',Grows B H B' H'->HA K B' A H'->E (L0 K c) none H'
inductive tO(K:PySem.W.Frag)(f:List Tr->Ab->Rz Tr)(vs:List V)(H:Hp)(Q:VK)(E:XK):Prop
 |mk (B:bD) (A:Ab) (ts:List Tr):HA K B A H->aI K (aN B H) vs ts->(dg (N9 K B H E) (f ts A) fun t A'=>∀v B' H',Grows B H B' H'->HA K B' A' H'->Rep K (aN B' H') v t->Q v H')->tO K f vs H Q E
theorem fg.PY {P:Program}{w:World}{K:PySem.W.Frag}{mg:Str->Option Value}{base:Heap}{k:Nat}{f:Addr}{fd:FuncData}{ps:List Str}{h:List Tr->Rs Tr}(F:fg P w K mg base kc k f fd ps (spT K h)):fg P w K mg base (n_ P w) k f fd ps (tO K fun ts A=>aw (h ts) A):=by
 have key:∀{vs:List V} {H:Hp} {Q:VK} {E:XK},tO K (fun ts A=>aw (h ts) A) vs H Q E->∀E',spT K h vs H Q E':=fun{vs H Q E} ⟨B,A,ts,ha,r,q⟩ E'=>by
  have q:dg (N9 K B H E) (aw (h ts) A) _:=q;cases e:h ts with
  |ok t=>rw[e]at q;exact⟨B,ts,ha.hb,r,t,e,fun v H' s rv=>q v B H' (.of s) (ha.same s) rv⟩
  |exc c=>rw[e]at q;exact(show False from q).elim
  |bad=>rw[e]at q;exact(show False from q).elim
 refine⟨fun vs H Q E q=>F.len vs H Q E (key q E),fun A outer s H args us vs Q E hr e0 hb hv q=>?_⟩;refine e_ (F.run A outer s H args us vs Q E hr e0 hb hv (key q E)) fun r s' z=>?_
 cases r with
 |error e=>exact(show False from z).elim
 |ok fl=>
  cases fl with
  |ret u=>exact z
  |next=>exact z
  |brk=>exact z
  |cont=>exact z
def gj(r:Rz Out):Rz Tr:=r.bind fun o A=>match o with
 |.nx _=>.ok .bU A
 |.ret t=>.ok t A
 |_=>.bad
theorem q_.qT {P:Program}{w:World}{K:PySem.W.Frag}{mg:Str->Option Value}{base:Heap}{x qual:Str}{st:Stmt}{f:Addr}{fd:FuncData}{N ps:List Str}{k:Nat}{h:List Tr->Ab->Rz Tr}(Fn:q_ K x qual st f fd)(S:c_ N ps (aE st))(len:∀ts A,h ts A≠ .bad->ts.length=ps.length)
  (f':∀(cE:Value) (A:Around) (outer:List Env) (s:Shared) (H:Hp) (E:XK),cM k (A.deeper (envOfC qual (aE st) s.heap.objs.size f cE))->
   ∃G,ja (iM (n_ P w) P w K mg base N qual (aE st) f cE A outer s H E) (cF st) (tZ (iM (n_ P w) P w K mg base N qual (aE st) f cE A outer s H E) G)/\∀ts A,h ts A≠ .bad->h ts A=gj (G (startT N.length ts) A)):fg P w K mg base (n_ P w) (k+1) f fd ps (tO K h):=by
 obtain⟨oc,od,kV,doc,pm,an,cE,ct,xK,rfl,lk,nC⟩:=Fn.ex;have nb:∀{B:bD} {A:Ab} {H:Hp} {E:XK} {ts:List Tr} {k:Tr->Ab->Prop},dg (N9 K B H E) (h ts A) k->h ts A≠ .bad:=fun{B A H E ts k} q z=>by rw[z]at q;exact q
 refine Bc lk nC S (fun vs H Q E ⟨B,A,ts,ha,r,q⟩=>by rw[r.length];exact len ts A (nb q)) fun A outer s H vs Q E hr ⟨B,A1,ts,ha,r,q⟩=>?_
 obtain⟨G,hG,hE⟩:=f' cE A outer s H E hr;refine⟨_,hG,B,H,B,A1,startT N.length ts,ha.hb,.refl,ha,a7.start r,kz,?_⟩;rw[hE ts A1 (nb q)]at q;refine(dg.bind q).imp (fun c A2 z B' H' g dF e s x=>ve x (z B' H' g dF))|>.mono fun o A2 z=>?_
 cases o with
 |nx ρ=>exact fun bA B' H' g dF r' n'=>z .bU B' H' g dF .bU
 |ret t=>exact fun v B' H' g dF r'=>z v B' H' g dF r'
 |bk ρ=>exact(show False from z).elim
 |ct ρ=>exact(show False from z).elim
def mT(n m:Nat)(G:ax->Ab->Rz Out)(ts:List Tr)(A:Ab):Rz Tr:=if ts.length=n then gj (G (startT m ts) A)else .bad
theorem pY{n m:Nat}{G:ax->Ab->Rz Out}{ts:List Tr}{A:Ab}(h:mT n m G ts A≠ .bad):ts.length=n:=by
 unfold mT at h;by_cases z:ts.length=n
 ·exact z
 ·rw[ae z]at h;exact absurd rfl h
theorem ym{n m:Nat}{G:ax->Ab->Rz Out}{ts:List Tr}{A:Ab}(h:mT n m G ts A≠ .bad):mT n m G ts A=gj (G (startT m ts) A):=by
 unfold mT;rw[ab (pY h)]
section
variable {X:Cx}{o e:Expr}{es:List Expr}{p pos apos:Pos}{F:ax->Ab->Rz Tr}{L:ax->Ab->Rz (List Tr)}{h:List Tr->Ab->Rz Tr}{x:Str}{st:Stmt}{ps:List Str}{f:Addr}{fd:FuncData}{k:Nat}
theorem HW{B B1:bD}{H H1:Hp}{A1:Ab}{vs:List V}{ts:List Tr}{Q:VK}(hb:HB B H)(g:Grows B H B1 H1)(ha:HA X.K B1 A1 H1)(r:aI X.K (aN B1 H1) vs ts)(q:dg (XE X B H) (h ts A1) fun t A'=>∀v B' H',Grows B H B' H'->HA X.K B' A' H'->Rep X.K (aN B' H') v t->Q v H'):tO X.K h vs H1 Q (EX X):=
 ⟨B1,A1,ts,ha,r,(q.imp fun c A' z=>z.grow hb g).mono fun t A' z v B' H' g' dF rv=>z v B' H' (g.trans hb g') dF rv⟩
theorem L_(D:rK X.K X.mg x st ps f fd)(G:fg X.prog X.w X.K X.mg X.base (n_ X.prog X.w) k f fd ps (tO X.K h))(hr:cM k X.A)(ha:PA X (e::es) (Eo X L))(hx:X.ex=[]:=by rfl) (hg:Gl X x:=by rfl) (iu:(x==("__debug__":Str))=false:=by decide) (cS:aY (e::es)=true:=by rfl):
  PE X (.Call (.Name x p) (e::es) [] pos) (tE X fun ρ A=>(L ρ A).bind h):=
 (xJ (p:=p) (pos:=pos) G hr hg D.mg D.fn.kp D.bd .nil (zT hx) ha (iu:=iu) (he:=aU _ _ (aG cS).1) (nE:=bZ (aG cS).2)).weak fun σ H Q ⟨B,A,ρ,ha,r,n,q⟩=>⟨B,A,ρ,ha,r,n,q.bind.mono fun ts A1 qt vs B1 H1 g1 iO r1=>by
  show tO X.K h (vs++[]) H1 Q (EX X);rw[dr];exact HW ha.hb g1 iO r1 qt⟩
variable {c m:Str}
end
end L2
namespace L2
open PySem PySem.Spec PyProof.Rows
abbrev RM:List Value:=[.type "ValueError",.type "Exception",.type "BaseException",.type "object"]
structure Ma(K:PySem.W.Frag)(mg:Str->Option Value)(x:Str):Prop where
 mg:mg x=some (.ref (clsAt K x))
 ex:PySem.W.excIn K (clsAt K x) RM "ValueError.__new__"=true
theorem zZ{e o i:Expr}{p:Pos}{n:Nat}{env:Env}:swapsWith e (some (.Subscript o i p)) n env=pure false:=by cases e<;>rfl
structure Mb(K:PySem.W.Frag)(xs:List Str)(f:Str):Prop where
 all:∀x∈xs,Jx K (clsAt K x)/\Gy K (clsAt K x) f
end L2
namespace L2
open PySem PySem.Spec PyProof.Rows
theorem yn{X:Cx}{H:Hp}{xc:Tr->Ab->Prop}{r:Rs Tr}{A:Ab}{k:Tr->Ab->Prop}(q:dg xc (uk r A) k):Fi X H r fun t=>vb t=true/\k t A:=by
 cases r with
 |ok t=>exact l5 q
 |exc c=>exact(show False from q).elim
 |bad=>exact q
section
variable {X:Cx}{a b o i e value:Expr}{es:List Expr}{pos pos' p apos dE:Pos}{F G E:ax->Ab->Rz Tr}{L:ax->Ab->Rz (List Tr)}{h:Tr->Tr->Rs Tr}
def z5(h:Tr->Tr->Rs Tr)(a:Rz Tr)(b:Ab->Rz Tr):Rz Tr:=a.bind fun x A=>(b A).bind fun y A=>uk (h (bq 1 A x) (bq 1 A y)) A
theorem z6{σ:St}{H:Hp}{Q:VK}(q:tE X (fun ρ A=>z5 h (F ρ A) (G ρ)) σ H Q):Jw (rT X h) (tE X F) (tE X G) σ H Q:=by
 obtain⟨B,A,ρ,ha,r,n,q⟩:=q;refine⟨B,A,ρ,ha,r,n,q.bind.mono fun x A1 qx v B1 H1 g1 iO rv=>⟨B1,A1,ρ,iO,r.grow n g1,n,((dg.bind qx).imp fun c A' z=>z.grow ha.hb g1).mono fun y A2 qy u B2 H2 g2 vg ru=>?_⟩⟩;refine⟨B2.un,bq 1 A2 x,bq 1 A2 y,vc vg.hb,dX vg 1 (rv.same g2.fy),dX vg 1 ru,(yn qy).mono fun t ⟨ft,k⟩ w H3 s3 jc=>?_⟩;exact k w B2 H3 ((g1.trans ha.hb g2).trans ha.hb (.of s3)) (vg.same s3) (mQ (vg.same s3) jc ft)
theorem Mc{op:CmpOp}(ho:uV X (compareOp op) h)(h1:PE X a (tE X F))(h2:PE X b (tE X G))(hm:behindInMarks op b=false:=by first|exact mF _|rfl|with_unfolding_all rfl):PE X (.Compare a [op] [b] pos) (tE X fun ρ A=>z5 h (F ρ A) (G ρ)):=(xI ho h1 h2 hm).weak fun _ _ _ q=>z6 q
def vl(h:List Tr->Rs Tr)(l:Rz (List Tr)):Rz Tr:=l.bind fun ts A=>uk (h (ts.map (bq 1 A))) A
theorem xf{h:List Tr->Rs Tr}{σ:St}{H:Hp}{Q:VK}(q:tE X (fun ρ A=>vl h (L ρ A)) σ H Q):NI (rC X h) (Eo X L) σ H Q:=by
 obtain⟨B,A,ρ,ha,r,n,q⟩:=q;refine⟨B,A,ρ,ha,r,n,q.bind.mono fun ts A1 qt vs B1 H1 g1 iO rs=>?_⟩;exact⟨B1.un,ts.map (bq 1 A1),vc iO.hb,h_ (fun r=>dX iO 1 r) rs,(yn qt).mono fun t ⟨ft,k⟩ w H3 s3 jc=>k w B1 H3 (g1.trans ha.hb (.of s3)) (iO.same s3) (mQ (iO.same s3) jc ft)⟩
theorem BX{T:String}{x:Str}{h:List Tr->Rs Tr}(hc:hW X (.type T) h)(hm:X.mg x=none)(ha:PA X (e::es) (Eo X L))(hv:bootBuiltins x=some (.type T):=by rfl) (hg:Gl X x:=by rfl) (hn:x≠"__name__":=by decide) (iu:(x==("__debug__":Str))=false:=by decide)
  (cS:aY (e::es)=true:=by rfl):PE X (.Call (.Name x p) (e::es) [] pos) (tE X fun ρ A=>vl h (L ρ A)):=
 (g_ hc hg hm hv ha hn iu (aU _ _ (aG cS).1) (bZ (aG cS).2)).weak fun _ _ _ q=>xf q
theorem zB.length {K:PySem.W.Frag}{W:Vw}{ar:List (Key×V)}{aC:List (Key×Tr)}(h:zB K W ar aC):ar.length=aC.length:=by
 have e:=bH List.length h.keys;rw[ai,ai]at e;exact e
end
end L2
namespace L2
open PySem PySem.Spec PyProof.Rows
theorem a7.none {K:PySem.W.Frag}{B:bD}{H:Hp}{σ:St}:a7 K B H σ (List.replicate σ.length .no):=by
 have no:∀(i:Nat) (c:Cell),(List.replicate σ.length Cell.no)[i]?=some c->c=.no:=fun i c e=>by
  rw[kQ]at e;split at e
  ·exact(Option.some.inj e).symm
  ·cases e
 exact⟨kY,(fun i t e=>by cases no i _ e),(fun i ts e=>by cases no i _ e),(fun i j ts us D _ e=>by cases no i _ e)⟩
end L2
namespace L2
open PySem PySem.Spec PyProof.Rows
structure yo(K:PySem.W.Frag)(mg:Str->Option Value)(c:Str)(xs:List Str):Prop where
 mg:mg c=some (.ref (clsAt K c))
 all:∀x∈xs,PySem.W.exmOne K (.ref (clsAt K x)) (.ref (clsAt K c))=some true
section
variable {X:Cx}{c n:Str}{tp hp pos:Pos}{xs:List Str}{i:Nat}{body FF:List Stmt}{Md:Stmt}{G G2:ax->Ab->Rz Out}
end
end L2
namespace L2
open PySem PySem.Spec PyProof.Rows
section
variable {X:Cx}{a b e:Expr}{es:List Expr}{pos:Pos}{F G:ax->Rs Tr}{L:ax->Rs (List Tr)}{A:ax->Rs Bool}{scope:Scope}{N':List Str}{ix:List (Option Nat)}{elt iter tg:Expr}{ifs:List Expr}{T:kn}{W:ax->Rs (List Tr)}
theorem xg{σ:St}{H:Hp}{Q:VK}(hT:h8 T)(q:tF X (fun ρ=>iF ix T A F (W ρ) ρ) σ H Q):JD (tJ X W) ix (Fq X.K T) (Fp X.K A) (Fo X.K F) σ H (fun v H'=>fk X H' (Q v)):=by
 obtain⟨B,ρ,hb,r,q⟩:=q;refine⟨B,ρ,hb,r,q.bind.mono fun ts qt J H1 tf gt D hD=>?_⟩;by_cases hz:ts.length<=iE
 ·rw[ab hz]at qt;exact n5 hT (nZ ix ρ) (tf.hb hb) gt hz ((tf.wW r).comp ix (hX hD)) hD (Fi.bind qt) fun ys H' k s' rp=>by
   obtain⟨Hu,su,ru,ku⟩:=tf.Fs hb s';exact ku _ (k _ Hu su (ru rp) fun p e=>by cases e;exact .lst (tf.free hD) (ru rp))
 ·rw[ae hz]at qt;exact qt.elim
theorem BY{i:Nat}{x:Str}{px lU:Pos}(Lk:fN X N' ix scope)(hit:PI X tg iter (tJ X W))(lT:Hs X scope N' tg elt ifs T A F)(hT:h8 T)(hN:X.N.Nodup:=by assumption) (hc:X.calm=true:=by rfl) (hi:X.N[i]?=some x:=by rfl) (hx:Loc X.env.scope x:=by first|exact Or.inl rfl|exact Or.inr rfl)
  (DT:swapsWith (.ListComp elt [⟨tg,iter,ifs,0⟩] scope pos) (some (.Name x px)) lU.line X.env=pure true:=by rfl) (hs:isSet iter=false:=by rfl) (hf:X.fn x=true\/X.env.scope.names.lookup x=some .local:=by first|exact .inl rfl|exact .inr rfl|assumption):
  PS X (.Assign [.Name x px] (.ListComp elt [⟨tg,iter,ifs,0⟩] scope pos) lU) (tZ X fun ρ A'=>dj i (eD (iF ix T A F (W (aZ A' ρ)) (aZ A' ρ)) A') ρ):=
 (uR Lk hc hN hi hx hit lT.NV DT (dA hs) hf).Hz.weak fun D σ H ⟨B0,H0,B,A',ρ,hb,g,ha,r,n,q⟩=>xg (Q:=fun v H'=>D.nx (σ.set i (some v)) H') hT (kr (F:=fun ρ=>iF ix T A F (W ρ) ρ) (iI (F:=fun ρ A'=>eD (iF ix T A F (W (aZ A' ρ)) (aZ A' ρ)) A') hb g ha r n q.bind fun t A2 v B' H' qt g' dF r' rv _=>qt _ B' H' g' dF (r'.set i rv) (n.set i t)))
end
end L2
namespace L2
open PySem PySem.Spec PyProof.Rows
section
variable {X:Cx}{a b e:Expr}{es:List Expr}{pos:Pos}{F:ax->Ab->Rz Tr}{P:ax->Ab->Rz Bool}{c n:Str}{tp hp:Pos}{xs:List Str}{i:Nat}{body FF:List Stmt}{Md:Stmt}{G G2:ax->Ab->Rz Out}
def BZ(r:Rz Tr):Rz Bool:=r.bind fun t A=>aw (mL t) A
theorem HX(h:PE X a (tE X F))(he:hU a=true:=by rfl):PT X a (Dq X fun ρ A=>BZ (F ρ A)):=
 (uF h (pL he)).weak fun σ H Q ⟨B,A,ρ,ha,r,n,q⟩=>⟨B,A,ρ,ha,r,n,q.bind.mono fun t A1 qt v B1 H1 g1 iO rv=>by
  obtain⟨b,h1,h2⟩:=pN (rv.same nX) (gg (X:=X) (H:=H1) qt);exact⟨b,h1,h2 B1 H1 g1 iO⟩⟩
def B5(r:Rz Bool):Rz Bool:=r.bind fun b A=>.ok (!b) A
theorem eq_not(h:PT X a (Dq X P)):PT X (.UnaryOp .Not a pos) (Dq X fun ρ A=>B5 (P ρ A)):=
 (AU h).weak fun σ H Q ⟨B,A,ρ,ha,r,n,q⟩=>⟨B,A,ρ,ha,r,n,q.bind⟩
variable {st:Stmt}
end
end L2
namespace L2
open PySem PySem.Spec PySem.Calls PyProof.Rows PySem.W
structure Me(K:Frag)(D:Addr):Prop where
 ga:findIn K (.ref D) "__getattribute__"=some (some (.builtin "BaseException.__getattribute__"))
 gh:findIn K (.ref D) "__getattr__"=some none
 cl:findIn K (.ref D) "__class__"=some (some (.builtin "object.__class__"))
 ob:mroIn K D (.type "object")=some true
 be:mroIn K D (.type "BaseException")=some true
structure FG(K:Frag)(u:Value)(tab:List (Str×Bool)):Prop where
 all:∀x b,tab.lookup x=some b->kitOne K (.ref (clsAt K x)) u=some b/\Me K (clsAt K x)/\(clsIn K (clsAt K x)).isSome=true
end L2
namespace L2
open PySem PySem.Spec PySem.Calls PyProof.Rows
theorem z7:typeLookup (.type "list") "keys"=pure none:=by rw[lG,lb];kernel_rfl
section
variable {prog:Program}{w:World}{A:Around}{E:Value->Shared->Prop}{s:Shared}{a:Addr}{xs:Array Value}{k:Nat}{sl:Array (Option Value)}
theorem xh{Q:Option Value->Shared->Prop}(hx:s.heap.get? a=some {cls:=.type "list",dict:=none,data:=.seq xs k,slots:=sl}) (hA:A.handled=none)
  (h:∀h' tk,(∀b o,s.heap.get? b=some o->h'.get? b=some o)->Q none {s with heap:=h',toks:=tk}):wpAny (model prog w) A (getAttr? (.ref a) "keys") Q E s:=by
 obtain⟨hp,g,d,tk,os⟩:=s;have hT:∀nM,(⟨hp,g,d,nM,os⟩:Shared).TypeIs (.ref a) "list":=fun _=>⟨_,hx,rfl⟩;have f1:=sub_AttributeError;have f3:=oF.lookup;have f4:=oF.bind (.ref a);have f5:=am_list_getattr_none;unfold getAttr? getAttrBy? getAttrBy
 repeat(any_goals (first|assumption|exact hT _|((with_reducible show wpAny _ _ (call (Value.builtin "list.__getattribute__") _ _) _ _ _);refine g7 oF (hT _) am_entry_list_getattribute (F.args_list_getattribute_2 _ _) (meets_getattribute_miss_list a xs k sl "keys" _ z7 (by decide+kernel) (by size_fits)) ⟨hx,hA,fun h' nM e zJ=>?_⟩)|wp_step))
 obtain⟨t',u',he⟩:=zJ.there;have PZ:∀nM,(⟨h',g,d,nM,os⟩:Shared).TypeIs (.ref e) "AttributeError":=fun _=>⟨_,he,rfl⟩;show wpAny _ _ (getattributeRaised _ _ _ _ _ _ _) _ _ _;unfold getattributeRaised
 repeat(any_goals (first|assumption|exact PZ _|wp_step))
 exact h h' nM zJ.of.keeps
theorem r9:entryFor table "dict.update.loop"=some Builtin.«dict.update.loop»:=entryFor_of_tree (by kernel_rfl)
theorem ib:plainId "dict.update.loop"=true:=by decide+kernel
end
end L2
namespace L2
open PySem PySem.Spec PySem.Calls PyProof.Rows Builtin Builtin.ObjectAttr
structure Mf(K:PySem.W.Frag)(f:Addr):Prop where
 get:PySem.W.specialIn K (.ref f) "__get__"=some (some (.builtin "function.__get__"))
 tk:PySem.W.takesIn K (.ref f)=some false
end L2
namespace L2
open PySem PySem.Spec PySem.Calls PyProof.Rows
def cv{α:Type}(n:Nat)(lt:Nat->Nat->Bool):PySem.W.KasT α->Option α
 |.ret a=>some a
 |.ask i j k=>if i<n/\j<n/\i≠j then cv n lt (k (lt i j))else none
theorem mU{α:Type}{n:Nat}{lt:Nat->Nat->Bool}{cmp:Nat->Nat->(Bool->Shared->Prop)->Shared->Prop}{Q:α->Shared->Prop}{s:Shared}(hc:∀i j C,i<n->j<n->i≠j->C (lt i j) s->cmp i j C s):∀(t:PySem.W.KasT α) {a:α},cv n lt t=some a->Q a s->t.kasWp cmp Q s
 |.ret b,a,e,h=>by cases e;exact h
 |.ask i j k,a,e,h=>by
  unfold cv at e;by_cases z:i<n/\j<n/\i≠j
  ·rw[ab z]at e;exact hc i j _ z.1 z.2.1 z.2.2 (mU hc (k (lt i j)) e h)
  ·rw[ae z]at e;cases e
theorem Inv.adopt {X:Cx}{pins:List (Addr×Obj)}{σ:St}{H:Hp}{s:Shared}{b:Addr}{o:HO}(I:Inv X pins σ H s)(h0:X.dS.heap.objs.size<=b)(f:iL X pins H b)(new:bg X.prog X.w (upd H b o) s.heap b o):Inv X pins σ (upd H b o) s:=by
 obtain⟨hn,hL,_,_,hC,hP⟩:=f;refine⟨I.ok,I.os,I.bare,⟨I.base.keep,I.base.slot,fun c u e n hx=>?_,I.base.there,fun c xs e=>?_,fun c u v e=>?_,fun c ps e=>?_⟩,I.loc,I.cell,?_,fun x c e=>?_,fun p hp=>?_,fun c u e=>?_,I.len⟩
 ·rw[ah (aP (bj (aA e) h0))];exact I.base.free c u e n hx
 ·have q:=I.base.jX c xs e;rw[ah (aJ q hn)];exact q
 ·have q:=I.base.iK c u v e;rw[ah (aJ q hn)];exact q
 ·obtain⟨more,q⟩:=I.base.i_ c ps e;exact⟨more,by rw[ah (aJ q hn)];exact q⟩
 ·rw[ah hL.symm];exact I.free
 ·rw[ah (hC x c e)];exact I.fH x c e
 ·obtain⟨e,n,r⟩:=I.pin p hp;exact⟨e,by rw[ah (hP p hp)];exact n,r⟩
 ·by_cases z:c=b
  ·subst z;rw[aF]at e;cases e;exact new
  ·rw[ah z]at e;exact(I.bC c u e).j_ (fun _ _ _ q=>q) (fun d q=>by rw[ah (aJ q hn)];exact q) fun d xs q=>by rw[ah (aJ q hn)];exact q
end L2
namespace L2
open PySem PySem.Spec PySem.Calls PyProof.Rows
section
variable {prog:Program}{w:World}{A:Around}{E:Value->Shared->Prop}{s:Shared}
theorem nN{a:Addr}{vs:List Value}{n:Nat}{P:PySem.Fin->Shared->Prop}(ho:s.heap.get? a=some (seqObj "list" vs.toArray n))(h2:vs.length<2)
  (h:∀h' c,(∀b o,b≠a->s.heap.get? b=some o->h'.get? b=some o)->h'.get? a=some (seqObj "list" vs.toArray c)->P (.done (.ret .none)) {s with heap:=h'}):
  wpAny (model prog w) A (Builtin.«list.sort» ⟨[.ref a],[]⟩) P E s:=by
 rw[list_sort_plain];have ha:a<s.heap.objs.size:=aA ho;refine aa (listItems_at ho rfl ?_);refine aa (g0 ho rfl ?_ (by rw[a6,bG];omega) (bx _));obtain⟨e1,FH⟩:∃e1,(s.heap.update a (Obj.mapSeq fun _=>#[])).get? a=some (seqObj "list" #[] e1):=⟨_,i7 ho (fun _=>#[])⟩;refine aa (seqEpoch_at FH rfl ?_);refine aa (lK ?_ (by rw[bG];simp;omega));refine aa (i8 ?_ (bx _));refine cn ?_
 have RN:(((s.heap.update a (Obj.mapSeq fun _=>#[])).push (seqObj "tuple" vs.toArray 0)).push (seqObj "list" #[] 0)).get? a=some (seqObj "list" #[] e1):=by
  rw[Heap.get?_push_ne _ _ _ (by rw[size_push',Heap.size_update];exact aP (gO ha)),Heap.get?_push_ne _ _ _ (by rw[Heap.size_update];exact aP ha)];exact FH
 show wpAny (model prog w) A _ P E {s with heap:=((s.heap.update a (Obj.mapSeq fun _=>#[])).push (seqObj "tuple" vs.toArray 0)).push (seqObj "list" #[] 0)};dsimp only;have HY:vs.toArray.size<2:=by simpa using h2
 rw[ab HY,ab HY];refine aa (af ?_);rw[StateT.run_pure];refine aa (af ?_);dsimp only;refine aa (seqEpoch_at RN rfl ?_);refine aa (g0 RN rfl ?_ (bx _) (by rw[Array.size_map];show(pairsOf vs).size<=_;rw[pairsOf_size,bG];omega));simp only[gL,bK,bp];refine af ?_
 have eo:(vs.toArray.zip vs.toArray).map (·.2)=vs.toArray:=by
  apply Array.toList_inj.mp;simp only[Array.toList_map,Array.toList_zip];exact List.map_snd_zip (ak _)
 obtain⟨e,he⟩:=sortedHeap_at (out:=(vs.toArray.zip vs.toArray).map (·.2)) ho;refine h (sortedHeap s.heap a vs ((vs.toArray.zip vs.toArray).map (·.2))) e (fun b o hb q=>(sortedHeap_old hb (aA q)).trans q) ?_
 rw[he,eo]
end
def tR(h:Heap)(L D:Addr):List (Addr×Obj):=(w_ h L).filter fun p=>decide (p.1≠D)
theorem fm{h:Heap}{L D b:Addr}{o:Obj}:(b,o)∈tR h L D↔b≠L/\b≠D/\h.get? b=some o:=by
 unfold tR;rw[bN,xa,cA];exact⟨fun z=>⟨z.1.1,z.2,z.1.2⟩,fun z=>⟨⟨z.1,z.2.2⟩,z.2.1⟩⟩
section
variable {X:Cx}
variable {o:Expr}{p1 apos dE pos:Pos}{F:ax->Rs Tr}
theorem tT{K:PySem.W.Frag}{W:Vw}{f:Nat->V}{g:Nat->Tr}:∀{p:List Nat},(∀i∈p,Rep K W (f i) (g i))->aI K W (p.map f) (p.map g)
 |[],_=>.nil
 |i::p,h=>.cons (h i (aK ..)) (tT fun j m=>h j (aR _ m))
end
end L2
namespace L2
open PySem PySem.Spec PyProof.Rows PySem.W
theorem dB{α β:Type}{n:Nat}{lt:Nat->Nat->Bool}{f:α->KasT β}:∀(t:KasT α),cv n lt (t.bind f)=(cv n lt t).bind fun a=>cv n lt (f a)
 |.ret a=>rfl
 |.ask i j k=>by
  show(if i<n/\j<n/\i≠j then cv n lt ((k (lt i j)).bind f)else none)=_;show _=Option.bind (if i<n/\j<n/\i≠j then cv n lt (k (lt i j))else none) _;by_cases z:i<n/\j<n/\i≠j
  ·rw[ab z,ab z];exact dB _
  ·rw[ae z,ae z];rfl
structure z8(n:Nat)(lt:Nat->Nat->Bool):Prop where
 as:∀i j,i<n->j<n->i≠j->lt i j=!lt j i
 tr:∀i j k,i<n->j<n->k<n->lt i j=true->lt j k=true->lt i k=true
def Pn(n:Nat)(p:Array Nat):Prop:=p.toList.Perm (List.range n)
def uo(lt:Nat->Nat->Bool)(p:Array Nat)(a b:Nat):Prop:=lt (p.getD a 0) (p.getD b 0)=true
def dy(lt:Nat->Nat->Bool)(p:Array Nat)(k:Nat):Prop:=∀a b,a<b->b<k->uo lt p a b
def vm(lt:Nat->Nat->Bool)(p:Array Nat)(k:Nat):Prop:=∀a b,a<b->b<k->uo lt p b a
section
variable {n:Nat}{lt:Nat->Nat->Bool}{p:Array Nat}
theorem r_:∀{l:List Nat} {i j x:Nat},l.Nodup->l[i]?=some x->l[j]?=some x->i=j
 |[],_,_,_,_,h,_=>by simp at h
 |a::l,0,0,_,_,_,_=>rfl
 |a::l,0,j+1,x,nd,h1,h2=>by
  rw[cU]at nd;cases h1;exact absurd (bu (show l[j]?=some a from h2)) nd.1
 |a::l,i+1,0,x,nd,h1,h2=>by
  rw[cU]at nd;cases h2;exact absurd (bu (show l[i]?=some a from h1)) nd.1
 |a::l,i+1,j+1,x,nd,h1,h2=>by
  rw[cU]at nd;rw[r_ nd.2 (show l[i]?=some x from h1) (show l[j]?=some x from h2)]
theorem Pn.size (h:Pn n p):p.size=n:=by
 have q:=List.Perm.length_eq h;rw[bw,fK]at q;exact q
theorem Pn.getD (h:Pn n p){a:Nat}(ha:a<n):p[a]?=some (p.getD a 0):=by
 rw[bV,cK (by rw[h.size];exact ha)];rfl
theorem Pn.lo (h:Pn n p){a:Nat}(ha:a<n):p.getD a 0<n:=by
 have e:=h.getD ha;rw[<-cy]at e;exact cD.mp ((List.Perm.mem_iff h).mp (bu e))
theorem Pn.ne (h:Pn n p){a b:Nat}(ha:a<n)(hb:b<n)(rb:a≠b):p.getD a 0≠p.getD b 0:=by
 intro e;have e1:=h.getD ha;have e2:=h.getD hb;rw[<-cy]at e1 e2;have nd:p.toList.Nodup:=(List.Perm.nodup_iff h).mpr oZ;rw[<-e]at e2;exact rb (r_ nd e1 e2)
theorem z8.no (L:z8 n lt)(h:Pn n p){a b:Nat}(ha:a<n)(hb:b<n)(rb:a≠b)(e:lt (p.getD a 0) (p.getD b 0)=false):uo lt p b a:=by
 have q:=L.as _ _ (h.lo ha) (h.lo hb) (h.ne ha hb rb);rw[e]at q;unfold uo;cases z:lt (p.getD b 0) (p.getD a 0)with
 |true=>rfl
 |false=>rw[z]at q;cases q
theorem z8.trans (L:z8 n lt)(h:Pn n p){a b c:Nat}(ha:a<n)(hb:b<n)(hc:c<n)(e1:uo lt p a b)(e2:uo lt p b c):uo lt p a c:=L.tr _ _ _ (h.lo ha) (h.lo hb) (h.lo hc) e1 e2
theorem l6{α:Type}(h:Pn n p){a b:Nat}(ha:a<n)(hb:b<n)(rb:a≠b){k:Bool->KasT α}:cv n lt (.ask (p.getD a 0) (p.getD b 0) k)=cv n lt (k (lt (p.getD a 0) (p.getD b 0))):=ab ⟨h.lo ha,h.lo hb,h.ne ha hb rb⟩
theorem dy.succ (L:z8 n lt)(h:Pn n p){m:Nat}(h1:1<=m)(hm:m<n)(s:dy lt p m)(e:uo lt p (m - 1) m):dy lt p (m+1):=by
 intro a b rb hb;by_cases z:b<m
 ·exact s a b rb z
 ·have:b=m:=by omega
  subst this;by_cases za:a=b - 1
  ·rw[za];exact e
  ·exact L.trans h (by omega) (by omega) hm (s a (b - 1) (by omega) (by omega)) e
theorem vm.succ (L:z8 n lt)(h:Pn n p){m:Nat}(h1:1<=m)(hm:m<n)(s:vm lt p m)(e:uo lt p m (m - 1)):vm lt p (m+1):=by
 intro a b rb hb;by_cases z:b<m
 ·exact s a b rb z
 ·have:b=m:=by omega
  subst this;by_cases za:a=b - 1
  ·rw[za];exact e
  ·exact L.trans h hm (by omega) (by omega) e (s a (b - 1) (by omega) (by omega))
theorem tU(L:z8 n lt)(h:Pn n p):∀(f m:Nat),1<=m->m+f<=n->dy lt p m->∃m',cv n lt (kas_asc p f m)=some m'/\m<=m'/\m'<=m+f/\dy lt p m'/\(m'<m+f->uo lt p m' (m' - 1))
 |0,m,h1,_,s=>⟨m,rfl,ak _,ak _,s,fun z=>absurd z (ck _)⟩
 |f+1,m,h1,hf,s=>by
  unfold kas_asc;rw[l6 h (by omega) (by omega) (by omega)];cases e:lt (p.getD m 0) (p.getD (m - 1) 0)with
  |true=>exact⟨m,rfl,ak _,by omega,s,fun _=>e⟩
  |false=>
   obtain⟨m',q1,q2,q3,q4,q5⟩:=tU L h f (m+1) (by omega) (by omega) (s.succ L h h1 (by omega) (L.no h (by omega) (by omega) (by omega) e));exact⟨m',q1,by omega,by omega,q4,fun z=>q5 (by omega)⟩
theorem vn(L:z8 n lt)(h:Pn n p):∀(f m:Nat),1<=m->m+f<=n->vm lt p m->∃m',cv n lt (kas_desc f p m 0)=some (p,m',0)/\m<=m'/\m'<=m+f/\vm lt p m'
 |0,m,h1,_,s=>⟨m,rfl,ak _,ak _,s⟩
 |f+1,m,h1,hf,s=>by
  unfold kas_desc;rw[l6 h (by omega) (by omega) (by omega)];cases e:lt (p.getD m 0) (p.getD (m - 1) 0)with
  |true=>
   obtain⟨m',q1,q2,q3,q4⟩:=vn L h f (m+1) (by omega) (by omega) (s.succ L h h1 (by omega) e);exact⟨m',q1,by omega,by omega,q4⟩
  |false=>
   refine⟨m,?_,ak _,by omega,s⟩;show cv n lt (.ask (p.getD (m - 1) 0) (p.getD m 0) _)=_;rw[l6 h (by omega) (by omega) (by omega),show lt (p.getD (m - 1) 0) (p.getD m 0)=true from L.no h (by omega) (by omega) (by omega) e]
   rfl
theorem rev_getD(h:Pn n p){m:Nat}(hm:m<=n)(k:Nat):(kas_rev p 0 m).getD k 0=if k<m then p.getD (m - 1 - k) 0 else p.getD k 0:=by
 unfold kas_rev;have e:=getElem?_mirror_all (xs:=p) (i:=0) (j:=m) (by rw[h.size];exact hm) k;rw[Nat.sub_zero]at e;rw[bV,Nat.sub_zero,e];by_cases z:k<m
 ·rw[ab ⟨bx _,z⟩,ab z,bV];congr 3;omega
 ·rw[ae (fun q=>z q.2),ae z,bV]
theorem HZ(h:Pn n p){m:Nat}:Pn n (kas_rev p 0 m):=by
 unfold kas_rev;exact(uw.mp (mirror_perm p 0 m _)).trans h
theorem z9(L:z8 n lt)(h:Pn n p)(h2:2<=n):∃m p',cv n lt (kas_count n p)=some (m,p')/\Pn n p'/\1<=m/\m<=n/\dy lt p' m:=by
 unfold kas_count;rw[dB];obtain⟨m,q1,q2,q3,q4,q5⟩:=tU L h (n - 1) 1 (ak _) (by omega) (fun a b _ hb=>by omega);rw[q1];show∃m' p',cv n lt (if(m==n)=true then _ else if m>1 then _ else _)=_/\_;by_cases z:m=n
 ·rw[ab (by rw[z];exact br n)];exact⟨m,p,rfl,h,q2,by omega,q4⟩
 ·rw[ae (by simpa using z)];by_cases z1:m>1
  ·rw[ab z1,l6 h (by omega) (by omega) (by omega),show lt (p.getD 0 0) (p.getD (m - 1) 0)=true from q4 0 (m - 1) (by omega) (by omega),ab rfl];exact⟨m,p,rfl,h,q2,by omega,q4⟩
  ·rw[ae z1];have hm:m=1:=by omega
   subst hm;have T2:uo lt p 1 0:=q5 (by omega);unfold kas_descPart;rw[dB];obtain⟨m',r1,r2,r3,r4⟩:=vn L h (n - (1+1)) (1+1) (by omega) (by omega) (fun a b rb hb=>by
    have jQ:b=1:=by omega
    have dF:a=0:=by omega
    rw[jQ,dF];exact T2)
   rw[r1];show∃VS VT,cv n lt (if 0>0 then _ else kas_tail3 m' n p)=_/\_;rw[ae (by omega)];unfold kas_tail3;rw[dB];have hr:=HZ h (m:=m');obtain⟨m2,s1,s2,s3,s4,_⟩:=tU L hr (n - m') m' (by omega) (by omega) (fun a b rb hb=>by
    unfold uo;rw[rev_getD h (by omega),rev_getD h (by omega),ab (by omega),ab hb];exact r4 (m' - 1 - b) (m' - 1 - a) (by omega) (by omega))
   rw[s1];exact⟨m2,_,rfl,hr,by omega,by omega,s4⟩
theorem mV(L:z8 n lt)(h:Pn n p){k:Nat}(hk:k<n):∀(f l r:Nat),l<=r->r<=k->r - l<=f->(∀a,a<l->uo lt p a k)->(∀a,r<=a->a<k->uo lt p k a)->dy lt p k->∃l',cv n lt (kas_place p k f l r)=some l'/\l'<=k/\(∀a,a<l'->uo lt p a k)/\∀a,l'<=a->a<k->uo lt p k a
 |0,l,r,T3,RO,hf,h1,h2,s=>⟨l,rfl,by omega,h1,fun a ha JL=>h2 a (by omega) JL⟩
 |f+1,l,r,T3,RO,hf,h1,h2,s=>by
  unfold kas_place;by_cases z:l>=r
  ·rw[ab z];exact⟨l,rfl,by omega,h1,fun a ha JL=>h2 a (by omega) JL⟩
  ·rw[ae z,l6 h hk (by omega) (by omega)];cases e:lt (p.getD k 0) (p.getD ((l+r)/2) 0)with
   |true=>
    refine mV L h hk f l ((l+r)/2) (by omega) (by omega) (by omega) h1 (fun a ha JL=>?_) s;by_cases za:a=(l+r)/2
    ·rw[za];exact e
    ·exact L.trans h hk (by omega) (by omega) e (s _ a (by omega) JL)
   |false=>
    have e':=L.no h hk (show(l+r)/2<n by omega) (by omega) e;refine mV L h hk f ((l+r)/2+1) r (by omega) RO (by omega) (fun a ha=>?_) h2 s;by_cases za:a=(l+r)/2
    ·rw[za];exact e'
    ·exact L.trans h (by omega) (by omega) hk (s a _ (by omega) (by omega)) e'
theorem vo(h:Pn n p){k l:Nat}(hk:k<n)(hl:l<=k)(c:Nat):(bubble p k (k - l)).getD c 0=if c=l then p.getD k 0 else if l<c/\c<=k then p.getD (c - 1) 0 else p.getD c 0:=by
 have e:=getElem?_bubble (xs:=p) (src:=k) (by rw[h.size];exact hk) (k - l) (by omega) c;rw[bV,e];have JM:k - (k - l)=l:=by omega
 rw[JM];by_cases z:c=l
 ·rw[ab z,ab z,bV]
 ·rw[ae z,ae z];by_cases z2:l<c/\c<=k
  ·rw[ab z2,ab z2,bV]
  ·rw[ae z2,ae z2,bV]
theorem yp(L:z8 n lt):∀(f:Nat) (p:Array Nat) (k:Nat),Pn n p->1<=k->k+f=n->dy lt p k->∃p',cv n lt (kas_bin f p k)=some p'/\Pn n p'/\dy lt p' n
 |0,p,k,h,h1,hf,s=>⟨p,rfl,h,by rw[<-show k=n from hf];exact s⟩
 |f+1,p,k,h,h1,hf,s=>by
  unfold kas_bin;rw[dB];have hk:k<n:=by omega
  obtain⟨l,q1,q2,q3,q4⟩:=mV L h hk k 0 k (by omega) (ak _) (by omega) (fun a ha=>by omega) (fun a ha JL=>by omega) s;rw[q1];have Mg:Pn n (bubble p k (k - l)):=(uw.mp (bubble_perm p k (k - l))).trans h;refine yp L f _ (k+1) Mg (by omega) (by omega) fun a b rb hb=>?_
  unfold uo;rw[vo h hk q2,vo h hk q2];by_cases zb:b=l
  ·rw[ab zb,ae (by omega),ae (by omega)];exact q3 a (by omega)
  ·rw[ae zb];by_cases za:a=l
   ·rw[ab za,ab (by omega)];exact q4 (b - 1) (by omega) (by omega)
   ·rw[ae za];by_cases z1:l<a/\a<=k
    ·rw[ab z1,ab (by omega)];exact s (a - 1) (b - 1) (by omega) (by omega)
    ·rw[ae z1];by_cases z2:l<b/\b<=k
     ·rw[ab z2];exact s a (b - 1) (by omega) (by omega)
     ·rw[ae z2];exact s a b rb (by omega)
theorem vp(L:z8 n lt)(h2:2<=n):∃p,cv n lt (kas_sort n)=some p/\Pn n p/\dy lt p n:=by
 unfold kas_sort;rw[dB];have h:Pn n (List.toArray (List.range n)):=List.Perm.refl _;obtain⟨m,p',q1,q2,q3,q4,q5⟩:=z9 L h h2;rw[q1];show∃p,cv n lt (if m<n then _ else _)=_/\_;by_cases z:m<n
 ·rw[ab z,o8 q3];exact yp L (n - m) p' m q2 q3 (by omega) q5
 ·rw[ae z];have:m=n:=by omega
  exact⟨p',rfl,q2,by rw[<-this];exact q5⟩
theorem z_(h:Pn n p)(s:dy lt p n):p.toList.Pairwise fun i j=>lt i j=true:=by
 rw[List.pairwise_iff_getElem];intro i j hi hj qR;have tj:i<n:=by rw[bw,h.size]at hi;exact hi
 have vq:j<n:=by rw[bw,h.size]at hj;exact hj
 have e:=s i j qR vq;unfold uo at e;have e1:=h.getD tj;have e2:=h.getD vq;rw[<-cy,aH hi]at e1;rw[<-cy,aH hj]at e2;rw[Option.some.inj e1,Option.some.inj e2];exact e
end
end L2
namespace L2
open PySem PySem.Spec PyProof.Rows
structure QE(X:Cx)(e:Expr)(F:ax->Rs Tr):Prop where
 h:PE X e (tP X F)
structure QT(X:Cx)(e:Expr)(F:ax->Rs Bool):Prop where
 h:PT X e (tQ X F)
structure QW(X:Cx)(e:Expr)(F:ax->Rs Bool):Prop where
 h:PW X e (tQ X F)
structure QA(X:Cx)(e:List Expr)(F:ax->Rs (List Tr)):Prop where
 h:PA X e (xV X F)
structure QS(X:Cx)(e:Stmt)(F:ax->Rs Out):Prop where
 h:PS X e (tS X F)
structure QB(X:Cx)(e:List Stmt)(F:ax->Rs Out):Prop where
 h:ja X e (tS X F)
structure QG(X:Cx)(e:Expr)(F:kn):Prop where
 h:PG X e (tG X F)
structure N_(X:Cx)(e:List Expr)(F:List Tr->ax->Rs ax):Prop where
 h:Dx X e (JE X F)
structure QI(X:Cx)(tg e:Expr)(F:ax->Rs (List Tr)):Prop where
 h:PI X tg e (tI X F)
structure QJ(X:Cx)(tg e:Expr)(F:ax->Rs (List Tr)):Prop where
 h:PI X tg e (tJ X F)
structure QF(X:Cx)(e:List Expr)(F:ax->Rs Bool):Prop where
 h:PF X e (tQ X F)
structure ZE(X:Cx)(e:Expr)(F:ax->Ab->Rz Tr):Prop where
 h:PE X e (tE X F)
structure ZO(X:Cx)(e:Expr)(F:ax->Ab->Rz Tr):Prop where
 h:PE X e (tE X F)
theorem Ex{X:Cx}{e:Expr}{F:ax->Ab->Rz Tr}(h:ZE X e F):ZO X e F:=⟨h.h⟩
structure NE(X:Cx)(e:Expr)(F:ax->Rs Tr):Prop where
 h:PE X e (tF X F)
structure ZT(X:Cx)(e:Expr)(F:ax->Ab->Rz Bool):Prop where
 h:PT X e (Dq X F)
structure ZL(X:Cx)(e:List Expr)(F:ax->Ab->Rz (List Tr)):Prop where
 h:PA X e (Eo X F)
structure ZS(X:Cx)(e:Stmt)(F:ax->Ab->Rz Out):Prop where
 h:PS X e (tZ X F)
structure ZB(X:Cx)(e:List Stmt)(F:ax->Ab->Rz Out):Prop where
 h:ja X e (tZ X F)
structure Aa(X:Cx)(scope:Scope)(N':List Str)(tg elt:Expr)(ifs:List Expr)(T:kn)(A:ax->Rs Bool)(F:ax->Rs Tr):Prop where
 all:∀s H ex,QG (kE X scope N' s H ex) tg T/\QF (kE X scope N' s H ex) ifs A/\QE (kE X scope N' s H ex) elt F
theorem Aa.to {X:Cx}{scope:Scope}{N':List Str}{tg elt:Expr}{ifs:List Expr}{T:kn}{A:ax->Rs Bool}{F:ax->Rs Tr}(b:Aa X scope N' tg elt ifs T A F):Hs X scope N' tg elt ifs T A F:=
 ⟨fun s H ex=>⟨(b.all s H ex).1.h,(b.all s H ex).2.1.h,(b.all s H ex).2.2.h⟩⟩
section
variable {X:Cx}{a b c:Expr}{pos:Pos}{F G E:ax->Rs Tr}
theorem aj(i:Nat){x:Str}{pos:Pos}(hN:X.N[i]?=some x:=by rfl) (hv:Gg X.env.scope x:=by first|exact Or.inl rfl|exact Or.inr (Or.inl rfl)|exact Or.inr (Or.inr rfl)) (hd:(x==("__debug__":Str))=false:=by decide) (nC:(x==("__classdict__":Str))=false:=by decide):QE X (.Name x pos) (fun ρ=>az ρ i):=⟨KZ i hN hv hd nC⟩
theorem bP{i:Int}{j pos}:QE X (.Constant (.int i) j pos) (fun _=>.ok (.int i)):=⟨K2⟩
theorem H_{b:Bool}{j pos}:QE X (.Constant (.bool b) j pos) (fun _=>.ok (.bl b)):=⟨Pr⟩
theorem FI{j pos}:QE X (.Constant .none j pos) (fun _=>.ok .bU):=⟨K3⟩
theorem vt{x:Str}{n:String}(hm:X.mg x=none)(hv:bootBuiltins x=some (.type n):=by rfl) (hg:Gl X x:=by rfl) (hn:x≠"__name__":=by decide) (hd:(x==("__debug__":Str))=false:=by decide):QE X (.Name x pos) (fun _=>.ok (.ty n)):=⟨Pt hm hv hg hn hd⟩
theorem fo{op:Operator}{h:Tr->Tr->Rs Tr}(ho:uV X (binaryOp op) h)(ha:QE X a F)(hb:QE X b G):QE X (.BinOp a op b pos) (fun ρ=>cG h (F ρ) (G ρ)):=⟨K4 ho ha.h hb.h⟩
theorem B6{op:CmpOp}{h:Tr->Tr->Rs Tr}(ho:uV X (compareOp op) h)(ha:QE X a F)(hb:QE X b G)(hm:behindInMarks op b=false:=by first|exact mF _|rfl|with_unfolding_all rfl):QE X (.Compare a [op] [b] pos) (fun ρ=>cG h (F ρ) (G ρ)):=⟨K5 ho ha.h hb.h hm⟩
theorem jz{op:CmpOp}{h:Tr->Tr->Rs Tr}(ho:uV X (compareOp op) h)(ha:QE X a F)(hb:QE X b G)(hm:behindInMarks op b=false:=by first|exact mF _|rfl|with_unfolding_all rfl):QT X (.Compare a [op] [b] pos) (fun ρ=>kG (cG h (F ρ) (G ρ))):=⟨K6 ho ha.h hb.h hm⟩
theorem se(ha:QE X a F)(he:hU a=true:=by rfl):QT X a (fun ρ=>(F ρ).bind mL):=⟨K7 ha.h he⟩
end
section
variable {X:Cx}{a b c:Expr}{pos:Pos}{F G E:ax->Rs Tr}{A B:ax->Rs Bool}{rest:List Expr}
theorem FJ(ha:QT X a A):QT X (.UnaryOp .Not a pos) (fun ρ=>Bt (A ρ)):=⟨K8 ha.h⟩
theorem FK(ha:QT X a A):QW X (.BoolOp .Or [a] pos) A:=⟨K9 ha.h⟩
theorem Mh(ha:QT X a A)(hb:QW X (.BoolOp .Or (b::rest) pos) B):QW X (.BoolOp .Or (a::b::rest) pos) (fun ρ=>NT (A ρ) (B ρ)):=⟨w_or ha.h hb.h⟩
theorem B7{op}{es:List Expr}(h:QW X (.BoolOp op es pos) A):QT X (.BoolOp op es pos) A:=⟨Hg h.h⟩
theorem B8(ha:QE X a F)(hb:QE X (.BoolOp .And (b::rest) pos) G):QE X (.BoolOp .And (a::b::rest) pos) (fun ρ=>Hh (F ρ) (G ρ)):=⟨K_ ha.h hb.h⟩
theorem FL{op}(h:QE X a F):QE X (.BoolOp op [a] pos) F:=⟨K' h.h⟩
end
section
variable {X:Cx}{a b c:Expr}{pos:Pos}{F G E:ax->Rs Tr}{A B:ax->Rs Bool}{rest:List Expr}{es:List Expr}{L:ax->Rs (List Tr)}
theorem aW:QA X [] (fun _=>.ok []):=⟨La⟩
theorem aq(ha:QE X a F)(hr:QA X es L)(hs:isStar a=false:=by rfl):QA X (a::es) (fun ρ=>ag (F ρ) (L ρ)):=⟨Hi ha.h hr.h hs⟩
theorem nu{x1}(h:QA X es L):QE X (.Tuple es x1 pos) (fun ρ=>gc (L ρ)):=⟨Lb h.h⟩
theorem cp{id:String}{x:Str}{p:Pos}{e:Expr}{h:List Tr->Rs Tr}(hc:hW X (.builtin id) h)(hm:X.mg x=none)(ha:QA X (e::es) L)(hv:bootBuiltins x=some (.builtin id):=by rfl) (hg:Gl X x:=by rfl) (hn:x≠"__name__":=by decide) (iu:(x==("__debug__":Str))=false:=by decide) (cS:aY (e::es)=true:=by rfl):QE X (.Call (.Name x p) (e::es) [] pos) (fun ρ=>aL h (L ρ)):=⟨DZ hc hm ha.h hv hg hn iu cS⟩
theorem pZ{T:String}{x:Str}{p:Pos}{e:Expr}{h:List Tr->Rs Tr}(hc:hW X (.type T) h)(hm:X.mg x=none)(ha:QA X (e::es) L)(hv:bootBuiltins x=some (.type T):=by rfl) (hg:Gl X x:=by rfl) (hn:x≠"__name__":=by decide) (iu:(x==("__debug__":Str))=false:=by decide) (cS:aY (e::es)=true:=by rfl):QE X (.Call (.Name x p) (e::es) [] pos) (fun ρ=>aL h (L ρ)):=⟨Bu hc hm ha.h hv hg hn iu cS⟩
theorem Mi{x:Str}{st:Stmt}{ps:List Str}{f:Addr}{fd:FuncData}{k:Nat}{h:List Tr->Rs Tr}{e:Expr}{p:Pos}(D:rK X.K X.mg x st ps f fd)(G:fg X.prog X.w X.K X.mg X.base kc k f fd ps (spT X.K h))(hr:cM k X.A)(ha:QA X (e::es) L)(hg:Gl X x:=by rfl) (iu:(x==("__debug__":Str))=false:=by decide) (cS:aY (e::es)=true:=by rfl):QE X (.Call (.Name x p) (e::es) [] pos) (fun ρ=>aL h (L ρ)):=⟨Lc D G hr ha.h hg iu cS⟩
end
section
variable {X:Cx}{a b c e:Expr}{pos:Pos}{F:ax->Rs Tr}{G G':ax->Rs Out}{A:ax->Rs Bool}{st:Stmt}{rest Ld:List Stmt}
theorem vu:QB X [] (fun ρ=>.ok (.nx ρ)):=⟨Le⟩
theorem kA(h1:QS X st G)(h2:QB X rest G'):QB X (st::rest) (fun ρ=>sV (G ρ) G'):=⟨Hj h1.h h2.h⟩
theorem j7(h1:QS X st G):QB X [st] G:=⟨Lf h1.h⟩
theorem FN{i:Nat}{x:Str}{pos':Pos}(he:QE X e F)(hN:X.N.Nodup:=by assumption) (hi:X.N[i]?=some x:=by rfl) (hx:Loc X.env.scope x:=by first|exact Or.inl rfl|exact Or.inr rfl) (hs:kh e=false:=by rfl) (hf:X.fn x=true\/X.env.scope.names.lookup x=some .local:=by first|exact .inl rfl|exact .inr rfl|assumption):QS X (.Assign [.Name x pos'] e pos) (fun ρ=>D0 i (F ρ) ρ):=⟨Lh he.h hN hi hx hs hf⟩
theorem j8(he:QE X e F):QS X (.Return (some e) pos) (fun ρ=>jl (F ρ)):=⟨Li he.h⟩
theorem B9{ys ns:List Stmt}(hc:QT X c A)(ha:QB X ys G)(hb:QB X ns G'):QS X (.If c ys ns pos) (fun ρ=>Lj (A ρ) (G ρ) (G' ρ)):=⟨Pw hc.h ha.h hb.h⟩
theorem fF(i:Nat){x:Str}(hN:X.N.Nodup:=by assumption) (hi:X.N[i]?=some x:=by rfl) (hx:Loc X.env.scope x:=by first|exact Or.inl rfl|exact Or.inr rfl) (hf:X.fn x=true\/X.env.scope.names.lookup x=some .local:=by first|exact .inl rfl|exact .inr rfl|assumption):QG X (.Name x pos) (gN i):=⟨Hl i hN hi hx hf⟩
theorem B_:N_ X [] (wM []):=⟨Ll⟩
theorem mW{es:List Expr}{i:Nat}{is:List Nat}{x:Str}(h2:N_ X es (wM is))(hN:X.N.Nodup:=by assumption) (hi:X.N[i]?=some x:=by rfl) (hx:Loc X.env.scope x:=by first|exact Or.inl rfl|exact Or.inr rfl) (hf:X.fn x=true\/X.env.scope.names.lookup x=some .local:=by first|exact .inl rfl|exact .inr rfl|assumption) (hs:(assignEach (.Name x pos::es) X.env).map (·.2)=assign (.Name x pos) X.env::(assignEach es X.env).map (·.2):=by rfl):N_ X (.Name x pos::es) (wM (i::is)):=⟨Hm h2.h hN hi hx hf hs⟩
theorem Ca{es:List Expr}{k:Nat}{is:List Nat}(h:N_ X es (wM is))(hc:X.calm=true:=by rfl) (hn:(assignEach es X.env).length=is.length:=by rfl) (cS:(assignEach es X.env).findIdx? (·.1)=none:=by rfl):QG X (.Tuple es k pos) (gT is):=⟨Lm h.h hc hn cS⟩
theorem p7{tg l:Expr}(hl:QE X l F):QI X tg l (fun ρ=>jn (F ρ)):=⟨Ln hl.h⟩
end
section
variable {X:Cx}{a b c e:Expr}{pos:Pos}{F:ax->Rs Tr}{G G':ax->Rs Out}{A:ax->Rs Bool}{st:Stmt}{rest Ld:List Stmt}{L:ax->Rs (List Tr)}{tg:Expr}{p:Pos}
theorem vw(hm:X.mg "range"=none)(ha:QA X [a] L)(hg:Gl X "range":=by rfl) (hs:aY [a]=true:=by rfl):QI X tg (.Call (.Name "range" p) [a] [] pos) (fun ρ=>pO (L ρ)):=⟨Bv hm ha.h hg hs⟩
end
section
variable {X:Cx}{a b c e:Expr}{pos:Pos}{F:ax->Rs Tr}{G G':ax->Rs Out}{A:ax->Rs Bool}{st:Stmt}{rest Ld:List Stmt}{L:ax->Rs (List Tr)}{tg:Expr}{p:Pos}{scope:Scope}{N':List Str}{ix:List (Option Nat)}{elt iter:Expr}{ifs:List Expr}{T:kn}{W:ax->Rs (List Tr)}
theorem yq{X:Cx}:QF X [] (fun _=>.ok true):=⟨Lq⟩
theorem yr{X:Cx}{c:Expr}{A:ax->Rs Bool}(h:QT X c A):QF X [c] A:=⟨Lr h.h⟩
theorem Cb(Lk:fN X N' ix scope)(hi:QI X tg iter W)(lT:Aa X scope N' tg elt ifs T A F)(hT:h8 T)(hc:X.calm=true:=by rfl) (hs:isSet iter=false:=by rfl):QE X (.ListComp elt [⟨tg,iter,ifs,0⟩] scope pos) (fun ρ=>iF ix T A F (W ρ) ρ):=⟨Pz Lk hi.h lT.to hT hc hs⟩
end
section
variable {X:Cx}{a b e:Expr}{pos:Pos}{F G:ax->Rs Tr}
theorem Ia(hu:X.A.units+1<cLine)(ha:QE X a F)(hb:QE X b G)(hs:nV b:=by exact fun _ _=>rfl):QE X (.Subscript a b pos) (fun ρ=>cG Hw (F ρ) (G ρ)):=⟨PK hu ha.h hb.h hs⟩
end
section
variable {X:Cx}{a b e:Expr}{pos p uG:Pos}{L:ax->Rs (List Tr)}{es:List Expr}{x1:Nat}
theorem Mj(hm:X.mg "zip"=none)(ha:QA X [a,b] L)(hg:Gl X "zip":=by rfl) (hs:aY [a,b]=true:=by rfl):QI X (.Tuple es x1 uG) (.Call (.Name "zip" p) [a,b] [] pos) (fun ρ=>PQ (L ρ)):=⟨LS hm ha.h hg hs⟩
end
section
variable {X:Cx}{pins:List (Addr×Obj)}{σ:St}{a b e:Expr}{es:List Expr}{pos:Pos}{F G:ax->Rs Tr}{A:ax->Rs Bool}{scope:Scope}{N':List Str}{ix:List (Option Nat)}{elt iter tg:Expr}{ifs:List Expr}{T:kn}{W:ax->Rs (List Tr)}
theorem Ml(Lk:fN X N' ix scope)(hi:QJ X tg iter W)(lT:Aa X scope N' tg elt ifs T A F)(hT:h8 T)(hc:X.calm=true:=by rfl) (hs:isSet iter=false:=by rfl):QE X (.ListComp elt [⟨tg,iter,ifs,0⟩] scope pos) (fun ρ=>iF ix T A F (W ρ) ρ):=⟨LB Lk hi.h lT.to hT hc hs⟩
end
section
variable {X:Cx}{e:Expr}{es:List Expr}{F:ax->Rs Tr}{P:ax->Rs Bool}{L:ax->Rs (List Tr)}{FZ GZ:ax->Ab->Rz Tr}{LZ:ax->Ab->Rz (List Tr)}
theorem RP(h:NE X e F):QE X e F:=⟨TU h.h⟩
theorem a8(h:QE X e F):ZE X e (fun ρ A=>aw (F ρ) A):=⟨HM h.h⟩
theorem tV(h:QT X e P):ZT X e (fun ρ A=>aw (P ρ) A):=⟨Ep h.h⟩
theorem xi(h:QE X e F):ZE X e (fun ρ A=>uk (F (aZ A ρ)) A):=⟨HN h.h⟩
theorem tW(h:QT X e P):ZT X e (fun ρ A=>aw (P (aZ A ρ)) A):=⟨Er h.h⟩
theorem p8(h:NE X e F):ZE X e (fun ρ A=>eD (F (aZ A ρ)) A):=⟨L1 h.h⟩
end
section
variable {X:Cx}{a b c e:Expr}{pos:Pos}{F:ax->Ab->Rz Tr}{G G':ax->Ab->Rz Out}{P:ax->Ab->Rz Bool}{st:Stmt}{rest Ld:List Stmt}
theorem vx:ZB X [] (fun ρ A=>.ok (.nx ρ) A):=⟨L3⟩
theorem bB(h1:ZS X st G)(h2:ZB X rest G'):ZB X (st::rest) (fun ρ A=>bR (G ρ A) G'):=⟨HQ h1.h h2.h⟩
theorem dC(h1:ZS X st G):ZB X [st] G:=⟨L4 h1.h⟩
theorem fq{i:Nat}{x:Str}{pos':Pos}(he:ZE X e F)(hN:X.N.Nodup:=by assumption) (hi:X.N[i]?=some x:=by rfl) (hx:Loc X.env.scope x:=by first|exact Or.inl rfl|exact Or.inr rfl) (hs:kh e=false:=by rfl) (hf:X.fn x=true\/X.env.scope.names.lookup x=some .local:=by first|exact .inl rfl|exact .inr rfl|assumption):ZS X (.Assign [.Name x pos'] e pos) (fun ρ A=>dj i (F ρ A) ρ):=⟨L5 he.h hN hi hx hs hf⟩
theorem nv(he:ZE X e F):ZS X (.Return (some e) pos) (fun ρ A=>jx (F ρ A)):=⟨L6 he.h⟩
theorem mX(he:ZE X e F)(hs:kh e=false:=by rfl):ZS X (.Expr e pos) (fun ρ A=>eJ (F ρ A) ρ):=⟨HR he.h hs⟩
theorem Cc{ys ns:List Stmt}(hc:ZT X c P)(h1:ZB X ys G)(h2:ZB X ns G'):ZS X (.If c ys ns pos) (fun ρ A=>um (P ρ A) (G ρ) (G' ρ)):=⟨PX hc.h h1.h h2.h⟩
theorem yt{tg iter:Expr}{body:List Stmt}{W:ax->Rs (List Tr)}{T:kn}(hi:QI X tg iter W)(hg:QG X tg T)(hT:h8 T)(hb:ZB X body G)(hp:PassesOwn (model X.prog X.w) X.A X.env X.xe:=by first|exact gV|exact gU) (hc:X.calm=true:=by rfl) (hs:isSet iter=false:=by rfl):ZS X (.For tg iter body [] pos) (fun ρ A=>jy T G (aw (W ρ) A) ρ):=⟨L7 hi.h hg.h hT hb.h hp hc hs⟩
theorem yu(m:Nat){body:List Stmt}(hc:ZT X c P)(hb:ZB X body G)(hp:PassesOwn (model X.prog X.w) X.A X.env X.xe:=by first|exact gV|exact gU):ZS X (.While c body [] pos) (fun ρ A=>dY P G m ρ A):=⟨Es m hc.h hb.h hp⟩
end
section
variable {X:Cx}{a e o:Expr}{es:List Expr}{F:ax->Ab->Rz Tr}{L:ax->Ab->Rz (List Tr)}{name:Str}{apos dE:Pos}{id:String}
theorem fG:ZL X [] (fun _ A=>.ok [] A):=⟨BU⟩
theorem dh(h1:ZE X a F)(hr:ZL X es L)(hs:isStar a=false:=by rfl):ZL X (a::es) (fun ρ A=>b_ (F ρ A) (L ρ)):=⟨yl h1.h hr.h hs⟩
end
section
variable {X:Cx}{a e o:Expr}{es:List Expr}{F:ax->Ab->Rz Tr}{L:ax->Ab->Rz (List Tr)}{name:Str}{apos dE:Pos}{id:String}{r:V->List V->Hp->VK->Prop}{h:Nat->List Tr->Ab->Rz Tr}
theorem p9(slot:Slot "list" name id)(Kt:typeOf (.builtin id)=pure (.type "method_descriptor"))(hm:NK X id r)(hz:N8 X r h)(ho:ZO X o F)(ha:ZL X (e::es) L)(pa:PlainAttrs "list":=by exact PySem.F.plainAttrs_list) (uK:isCall o=false:=by rfl) (cS:aY (e::es)=true:=by rfl) (hn:(e::es).length<30:=by decide) (uL:(apos.endLine==dE.line)=true:=by rfl):ZE X (.Call (.Attribute o name apos) (e::es) [] dE) (fun ρ A=>vh h (F ρ A) (L ρ)):=⟨L8 slot Kt hm hz ho.h ha.h pa uK cS hn uL⟩
end
section
variable {X:Cx}{a b e:Expr}{es:List Expr}{pos:Pos}{F G:ax->Rs Tr}{L:ax->Rs (List Tr)}{A:ax->Rs Bool}
theorem yv(h:QA X es L):NE X (.List es pos) (fun ρ=>wL (L ρ)):=⟨L9 h.h⟩
theorem Ib:NE X (.Dict [] [] pos) (fun _=>.ok (.aX [])):=⟨HV⟩
end
section
variable {X:Cx}{a b e:Expr}{es:List Expr}{pos:Pos}{F G:ax->Rs Tr}{L:ax->Rs (List Tr)}{A:ax->Rs Bool}{scope:Scope}{N':List Str}{ix:List (Option Nat)}{elt iter tg:Expr}{ifs:List Expr}{T:kn}{W:ax->Rs (List Tr)}
theorem Ey{i:Nat}{x:Str}{px lU:Pos}(Lk:fN X N' ix scope)(hit:QI X tg iter W)(lT:Aa X scope N' tg elt ifs T A F)(hT:h8 T)(hN:X.N.Nodup:=by assumption) (hc:X.calm=true:=by rfl) (hi:X.N[i]?=some x:=by rfl) (hx:Loc X.env.scope x:=by first|exact Or.inl rfl|exact Or.inr rfl) (DT:swapsWith (.ListComp elt [⟨tg,iter,ifs,0⟩] scope pos) (some (.Name x px)) lU.line X.env=pure true:=by rfl) (hs:isSet iter=false:=by rfl) (hf:X.fn x=true\/X.env.scope.names.lookup x=some .local:=by first|exact .inl rfl|exact .inr rfl|assumption):ZS X (.Assign [.Name x px] (.ListComp elt [⟨tg,iter,ifs,0⟩] scope pos) lU) (fun ρ A'=>dj i (eD (iF ix T A F (W (aZ A' ρ)) (aZ A' ρ)) A') ρ):=⟨Eu Lk hit.h lT.to hT hN hc hi hx DT hs hf⟩
theorem l7{T:String}{x:Str}{p:Pos}{e:Expr}{h:List Tr->Rs Tr}(hc:f_ X (.type T) (rF X h))(hm:X.mg x=none)(ha:QA X (e::es) L)(hv:bootBuiltins x=some (.type T):=by rfl) (hg:Gl X x:=by rfl) (hn:x≠"__name__":=by decide) (iu:(x==("__debug__":Str))=false:=by decide) (cS:aY (e::es)=true:=by rfl):NE X (.Call (.Name x p) (e::es) [] pos) (fun ρ=>aL h (L ρ)):=⟨BW hc hm ha.h hv hg hn iu cS⟩
end
section
variable {X:Cx}{o e:Expr}{es:List Expr}{p pos apos:Pos}{F:ax->Ab->Rz Tr}{L:ax->Ab->Rz (List Tr)}{h:List Tr->Ab->Rz Tr}{x:Str}{st:Stmt}{ps:List Str}{f:Addr}{fd:FuncData}{k:Nat}
theorem Mm(D:rK X.K X.mg x st ps f fd)(G:fg X.prog X.w X.K X.mg X.base (n_ X.prog X.w) k f fd ps (tO X.K h))(hr:cM k X.A)(ha:ZL X (e::es) L)(hx:X.ex=[]:=by rfl) (hg:Gl X x:=by rfl) (iu:(x==("__debug__":Str))=false:=by decide) (cS:aY (e::es)=true:=by rfl):ZE X (.Call (.Name x p) (e::es) [] pos) (fun ρ A=>(L ρ A).bind h):=⟨L_ D G hr ha.h hx hg iu cS⟩
end
section
variable {X:Cx}{a b o i e value:Expr}{es:List Expr}{pos pos' p apos dE:Pos}{F G E:ax->Ab->Rz Tr}{L:ax->Ab->Rz (List Tr)}{h:Tr->Tr->Rs Tr}
theorem Mn{op:CmpOp}(ho:uV X (compareOp op) h)(h1:ZE X a F)(h2:ZE X b G)(hm:behindInMarks op b=false:=by first|exact mF _|rfl|with_unfolding_all rfl):ZE X (.Compare a [op] [b] pos) (fun ρ A=>z5 h (F ρ A) (G ρ)):=⟨Mc ho h1.h h2.h hm⟩
theorem Cd{T:String}{x:Str}{h:List Tr->Rs Tr}(hc:hW X (.type T) h)(hm:X.mg x=none)(ha:ZL X (e::es) L)(hv:bootBuiltins x=some (.type T):=by rfl) (hg:Gl X x:=by rfl) (hn:x≠"__name__":=by decide) (iu:(x==("__debug__":Str))=false:=by decide) (cS:aY (e::es)=true:=by rfl):ZE X (.Call (.Name x p) (e::es) [] pos) (fun ρ A=>vl h (L ρ A)):=⟨BX hc hm ha.h hv hg hn iu cS⟩
end
section
variable {X:Cx}{a b e:Expr}{es:List Expr}{pos:Pos}{F G:ax->Rs Tr}{L:ax->Rs (List Tr)}{A:ax->Rs Bool}{scope:Scope}{N':List Str}{ix:List (Option Nat)}{elt iter tg:Expr}{ifs:List Expr}{T:kn}{W:ax->Rs (List Tr)}
theorem Ce{i:Nat}{x:Str}{px lU:Pos}(Lk:fN X N' ix scope)(hit:QJ X tg iter W)(lT:Aa X scope N' tg elt ifs T A F)(hT:h8 T)(hN:X.N.Nodup:=by assumption) (hc:X.calm=true:=by rfl) (hi:X.N[i]?=some x:=by rfl) (hx:Loc X.env.scope x:=by first|exact Or.inl rfl|exact Or.inr rfl) (DT:swapsWith (.ListComp elt [⟨tg,iter,ifs,0⟩] scope pos) (some (.Name x px)) lU.line X.env=pure true:=by rfl) (hs:isSet iter=false:=by rfl) (hf:X.fn x=true\/X.env.scope.names.lookup x=some .local:=by first|exact .inl rfl|exact .inr rfl|assumption):ZS X (.Assign [.Name x px] (.ListComp elt [⟨tg,iter,ifs,0⟩] scope pos) lU) (fun ρ A'=>dj i (eD (iF ix T A F (W (aZ A' ρ)) (aZ A' ρ)) A') ρ):=⟨BY Lk hit.h lT.to hT hN hc hi hx DT hs hf⟩
end
section
variable {X:Cx}{a b e:Expr}{es:List Expr}{pos:Pos}{F:ax->Ab->Rz Tr}{P:ax->Ab->Rz Bool}{c n:Str}{tp hp:Pos}{xs:List Str}{i:Nat}{body FF:List Stmt}{Md:Stmt}{G G2:ax->Ab->Rz Out}
theorem Ic(h:ZE X a F)(he:hU a=true:=by rfl):ZT X a (fun ρ A=>BZ (F ρ A)):=⟨HX h.h he⟩
theorem Ie(h:ZT X a P):ZT X (.UnaryOp .Not a pos) (fun ρ A=>B5 (P ρ A)):=⟨eq_not h.h⟩
end
theorem q_.T4 {P:Program}{w:World}{K:PySem.W.Frag}{mg:Str->Option Value}{base:Heap}{x qual:Str}{st:Stmt}{f:Addr}{fd:FuncData}{N ps:List Str}{k:Nat}{h:List Tr->Rs Tr}(Fn:q_ K x qual st f fd)(S:c_ N ps (aE st))(len:∀ts t,h ts=.ok t->ts.length=ps.length)
  (f':∀(cE:Value) (A:Around) (outer:List Env) (s:Shared) (H:Hp) (E:XK),cM k (A.deeper (envOfC qual (aE st) s.heap.objs.size f cE))->
   ∃G,QB (iM kc P w K mg base N qual (aE st) f cE A outer s H E).AE (cF st) G/\∀ts t,h ts=.ok t->fh (G (startT N.length ts))=.ok t):fg P w K mg base kc (k+1) f fd ps (spT K h):=
 Fn.Ti S len fun cE A outer s H E hr=>let⟨G,h,q⟩:=f' cE A outer s H E hr;⟨G,h.h,q⟩
theorem q_.P0 {P:Program}{w:World}{K:PySem.W.Frag}{mg:Str->Option Value}{base:Heap}{x qual:Str}{st:Stmt}{f:Addr}{fd:FuncData}{N ps:List Str}{k:Nat}{h:List Tr->Rs Tr}(Fn:q_ K x qual st f fd)(S:c_ N ps (aE st))(len:∀ts t,h ts=.ok t->ts.length=ps.length)
  (f':∀(cE:Value) (A:Around) (outer:List Env) (s:Shared) (H:Hp) (E:XK),cM k (A.deeper (envOfC qual (aE st) s.heap.objs.size f cE))->
   ∃G,ZB (iM kc P w K mg base N qual (aE st) f cE A outer s H E).AE (cF st) G/\∀ts t,h ts=.ok t->cu ts=true/\eK (G (startT N.length ts) [])=.ok t):fg P w K mg base kc (k+1) f fd ps (spT K h):=
 Fn.TZ S len fun cE A outer s H E hr=>let⟨G,h,q⟩:=f' cE A outer s H E hr;⟨G,h.h,q⟩
theorem q_.P4 {P:Program}{w:World}{K:PySem.W.Frag}{mg:Str->Option Value}{base:Heap}{x qual:Str}{st:Stmt}{f:Addr}{fd:FuncData}{N ps:List Str}{k:Nat}{h:List Tr->Ab->Rz Tr}(Fn:q_ K x qual st f fd)(S:c_ N ps (aE st))(len:∀ts A,h ts A≠ .bad->ts.length=ps.length)
  (f':∀(cE:Value) (A:Around) (outer:List Env) (s:Shared) (H:Hp) (E:XK),cM k (A.deeper (envOfC qual (aE st) s.heap.objs.size f cE))->
   ∃G,ZB (iM (n_ P w) P w K mg base N qual (aE st) f cE A outer s H E) (cF st) G/\∀ts A,h ts A≠ .bad->h ts A=gj (G (startT N.length ts) A)):fg P w K mg base (n_ P w) (k+1) f fd ps (tO K h):=
 Fn.qT S len fun cE A outer s H E hr=>let⟨G,h,q⟩:=f' cE A outer s H E hr;⟨G,h.h,q⟩
end L2
namespace L2
open PySem PySem.Spec PyProof.Rows
def yw:List Tr->Option (List Key)
 |[]=>some []
 |t::ts=>match Eb t,yw ts with
  |some k,some ks=>some (k::ks)
  |_,_=>none
def l8:Tr->Option (List Key)
 |.tup ts=>yw ts
 |_=>none
def gI(aC:List (List Key×Tr))(k:List Key):Option Tr:=(aC.find? fun kv=>decide (kv.1=k)).map (·.2)
section
variable {K:PySem.W.Frag}
theorem sf{H:Vw}:∀{ts:List Tr} {vs:List V} {ks:List Key},aI K H vs ts->yw ts=some ks->vs=ks.map kV
 |[],_,_,r,e=>by cases e;cases r;rfl
 |t::ts,_,ks,r,e=>by
  cases r with
  |cons h r=>
   unfold yw at e;split at e
   ·rename_i e1 e2;cases e;rw[ya h e1,sf r e2];rfl
   ·cases e
theorem jA{B:bD}{H:Hp}{v:V}{t:Tr}{ks:List Key}(r:Rep K (aN B H) v t)(e:l8 t=some ks):∃b,v=.ref b/\H b=some (.tup (ks.map kV)):=by
 unfold l8 at e;split at e
 ·obtain⟨a,vs,rfl,h,rr⟩:=r.jk;have:=sf rr e;subst this;exact⟨a,rfl,aD _ _ h⟩
 ·cases e
theorem p_{H:Vw}(k:List Key):∀{ar:List (List Key×V)} {aC:List (List Key×Tr)},ar.map (·.1)=aC.map (·.1)->aI K H (ar.map (·.2)) (aC.map (·.2))->(gI aC k=none/\jY ar k=none)\/∃t v,gI aC k=some t/\jY ar k=some v/\Rep K H v t
 |[],[],_,_=>.inl ⟨rfl,rfl⟩
 |[],_::_,e,_=>by cases e
 |_::_,[],e,_=>by cases e
 |(k1,v1)::ar,(k2,t2)::aC,e,r=>by
  rw[aB,aB]at e;injection e with e1 e2
  have Dp:k1=k2:=e1;subst Dp;cases r with
  |cons h r=>
   by_cases q:k1=k
   ·refine .inr ⟨t2,v1,?_,jd q,h⟩;unfold gI;rw[cV,bF (show(k1,t2).1=k from q)]
    rfl
   ·rw[je q];have e3:gI ((k1,t2)::aC) k=gI aC k:=by
     unfold gI;rw[cV,a_ (show¬(k1,t2).1=k from q)]
    rw[e3];exact p_ k e2 r
theorem Rep.oa {H:Vw}{v:V}{aC:List (List Key×Tr)}(h:Rep K H v (.aX aC)):∃a ar,v=.ref a/\Rd H.H a (.dT ar)/\ar.map (·.1)=aC.map (·.1)/\aI K H (ar.map (·.2)) (aC.map (·.2)):=by
 cases h;exact⟨_,_,rfl,by assumption,by assumption,by assumption⟩
theorem Cf{B:bD}{H:Hp}{x y:V}{ty:Tr}{aC:List (List Key×Tr)}{k:List Key}(r:Rep K (aN B H) x (.aX aC))(r2:Rep K (aN B H) y ty)(ek:l8 ty=some k):
  ∃a o,x=.ref a/\mH H a y o/\((gI aC k=none/\o=none)\/∃t v,gI aC k=some t/\o=some v/\Rep K (aN B H) v t):=by
 obtain⟨a,ar,rfl,h,e,rr⟩:=r.oa;obtain⟨b,rfl,hb⟩:=jA r2 ek;refine⟨a,_,rfl,.inr ⟨ar,k,b,h.same aD,rfl,hb,rfl⟩,?_⟩;rcases p_ k e rr with⟨h1,h2⟩|⟨t,v,h1,h2,h3⟩
 ·exact .inl ⟨h1,h2⟩
 ·exact .inr ⟨t,v,h1,h2,h3⟩
end
section
variable {X:Cx}{a b:Expr}{pos:Pos}{F G:ax->Rs Tr}
def sg:Tr->Tr->Rs Tr
 |.aX aC,t=>(zA (l8 t)).bind fun k=>zA (gI aC k)
 |_,_=>.bad
theorem Mo(hu:X.A.units+1<cLine):JB X (rT X sg):=by
 intro value slice pins s σ H x y v u Q I rx ry ⟨B,tx,ty,hb,r1,r2,q⟩ hs;unfold sg at q;split at q
 ·obtain⟨k,ek,qk⟩:=eX (Fi.bind q);obtain⟨t,et,qt⟩:=eX qk;obtain⟨a,o,rfl,g,ho⟩:=Cf r1 r2 ek;rcases ho with⟨h1,_⟩|⟨t',w,h1,rfl,jc⟩
  ·cases et.symm.trans h1
  ·cases et.symm.trans h1;cases(show v=Value.ref a from rx);exact tail_any (nh I g) ox.lookup (mI hu I g ry fun w' s' I' rv=>⟨w,H,I',rv,qt w H (au.refl H) jc⟩) hs
 ·exact(show False from q).elim
theorem qa(hu:X.A.units+1<cLine)(ha:QE X a F)(hb:QE X b G)(hs:nV b:=by exact fun _ _=>rfl):QE X (.Subscript a b pos) (fun ρ=>cG sg (F ρ) (G ρ)):=
 ⟨(Ff (Mo hu) ha.h hb.h hs).weak fun _ _ _ q=>jj q⟩
def AJ:Tr->Tr->Rs Tr
 |x,.aX aC=>(zA (l8 x)).bind fun k=>.ok (.bl (gI aC k).isSome)
 |_,_=>.bad
theorem Cg(hu:X.A.units+1<cLine):uV X (compareOp .In) AJ:=by
 intro pins s σ H x y v u Q I rx ry ⟨B,tx,ty,hb,r1,r2,q⟩;unfold AJ at q;split at q
 ·obtain⟨k,ek,qk⟩:=eX (Fi.bind q);obtain⟨a,o,rfl,g,ho⟩:=Cf r2 r1 ek;cases(show u=Value.ref a from ry);refine Pe hu I g rx fun s' I'=>⟨.bl _,H,I',rfl,?_⟩;rcases ho with⟨h1,rfl⟩|⟨t',w,h1,rfl,_⟩<;>rw[h1]at qk<;>exact qk _ H (au.refl H) (.bl _)
 ·exact(show False from q).elim
end
end L2
namespace L2
open PySem PySem.Spec PyProof.Rows
def jB(aC:List (List Key×Tr))(k:List Key)(t:Tr):List (List Key×Tr):=
 if(aC.any fun kv=>decide (kv.1=k))=true then aC.map (fun kv=>if kv.1=k then(kv.1,t)else kv)else aC++[(k,t)]
def jC(aC more:List (List Key×Tr)):List (List Key×Tr):=more.foldl (fun acc kv=>jB acc kv.1 kv.2) aC
structure cI(K:PySem.W.Frag)(H:Vw)(ar:List (List Key×V))(aC:List (List Key×Tr)):Prop where
 keys:ar.map (·.1)=aC.map (·.1)
 vals:aI K H (ar.map (·.2)) (aC.map (·.2))
section
variable {K:PySem.W.Frag}{H H':Vw}
theorem cI.nil:cI K H [] []:=⟨rfl,.nil⟩
theorem cI.cons {k:List Key}{v:V}{t:Tr}{ar:List (List Key×V)}{aC:List (List Key×Tr)}(r:Rep K H v t)(h:cI K H ar aC):cI K H ((k,v)::ar) ((k,t)::aC):=⟨by rw[aB,aB,h.keys],.cons r h.vals⟩
theorem cI.inv {k:List Key}{v:V}{ar:List (List Key×V)}{aC:List (List Key×Tr)}(h:cI K H ((k,v)::ar) aC):∃t r,aC=(k,t)::r/\Rep K H v t/\cI K H ar r:=by
 obtain⟨e,r⟩:=h
 match aC,e,r with
 |(k2,t)::rest,e,r=>
  rw[aB,aB]at e;injection e with e1 e2
  have Dp:k=k2:=e1;subst Dp;cases r with
  |cons h1 h2=>exact⟨t,rest,rfl,h1,e2,h2⟩
theorem cI.any (k:List Key):∀{ar:List (List Key×V)} {aC:List (List Key×Tr)},cI K H ar aC->(ar.any fun kv=>decide (kv.1=k))=aC.any fun kv=>decide (kv.1=k)
 |[],aC,h=>by
  have e:=h.keys;cases aC with
  |nil=>rfl
  |cons a b=>cases e
 |(j,v)::ar,aC,h=>by
  obtain⟨t,r,rfl,_,h2⟩:=h.inv;rw[fV,fV,cI.any k h2]
theorem cI.map (k:List Key){y:V}{u:Tr}(ry:Rep K H y u):∀{ar:List (List Key×V)} {aC:List (List Key×Tr)},cI K H ar aC->cI K H (ar.map fun kv=>if kv.1=k then(kv.1,y)else kv) (aC.map fun kv=>if kv.1=k then(kv.1,u)else kv)
 |[],aC,h=>by
  have e:=h.keys;cases aC with
  |nil=>exact .nil
  |cons a b=>cases e
 |(j,v)::ar,aC,h=>by
  obtain⟨t,r,rfl,h1,h2⟩:=h.inv;rw[aB,aB];by_cases e:j=k
  ·rw[ab (show(j,v).1=k from e),ab (show(j,t).1=k from e)];exact .cons ry (cI.map k ry h2)
  ·rw[ae (show¬(j,v).1=k from e),ae (show¬(j,t).1=k from e)];exact .cons h1 (cI.map k ry h2)
theorem cI.snoc (k:List Key){y:V}{u:Tr}(ry:Rep K H y u):∀{ar:List (List Key×V)} {aC:List (List Key×Tr)},cI K H ar aC->cI K H (ar++[(k,y)]) (aC++[(k,u)])
 |[],aC,h=>by
  have e:=h.keys;cases aC with
  |nil=>exact .cons ry .nil
  |cons a b=>cases e
 |(j,v)::ar,aC,h=>by
  obtain⟨t,r,rfl,h1,h2⟩:=h.inv;exact .cons h1 (cI.snoc k ry h2)
theorem cI.put (k:List Key){y:V}{u:Tr}(ry:Rep K H y u){ar:List (List Key×V)}{aC:List (List Key×Tr)}(h:cI K H ar aC):cI K H (putK ar k y) (jB aC k u):=by
 unfold putK jB;rw[h.any k];by_cases e:(aC.any fun kv=>decide (kv.1=k))=true
 ·rw[ab e,ab e];exact h.map k ry
 ·rw[ae e,ae e];exact h.snoc k ry
theorem cI.length {ar:List (List Key×V)}{aC:List (List Key×Tr)}(h:cI K H ar aC):ar.length=aC.length:=by
 have e:=bH List.length h.keys;rw[ai,ai]at e;exact e
end
def ny(A:Ab)(t tk tv:Tr):Option Ab:=match t,l8 tk with
 |.at i,some k=>match A[i]? with
  |some (.aX aC)=>if aC.length<iE then some (A.set i (.aX (jB aC k tv)))else none
  |_=>none
 |_,_=>none
def FP(v:Rz Tr)(o k:Ab->Rz Tr)(ρ:ax):Rz Out:=v.bind fun tv A=>(o A).bind fun t A=>(k A).bind fun tk A=>match ny A t tk tv with
 |some A'=>.ok (.nx ρ) A'
 |none=>.bad
theorem qd{A A':Ab}{t tk tv:Tr}(e:ny A t tk tv=some A'):∃j aC key,t=.at j/\l8 tk=some key/\A[j]?=some (.aX aC)/\aC.length<iE/\A'=A.set j (.aX (jB aC key tv)):=by
 unfold ny at e;split at e
 ·rename_i ek;split at e
  ·rename_i eo;split at e
   ·rename_i hl;cases e;exact⟨_,_,_,rfl,ek,eo,hl,rfl⟩
   ·cases e
  ·cases e
 ·cases e
section
variable {X:Cx}{o i value:Expr}{pos pos':Pos}{F G E:ax->Ab->Rz Tr}
theorem Ez(hu:X.A.units+1<cLine)(ho:ZO X o F)(hi:ZE X i G)(hv:ZE X value E):
  ZS X (.Assign [.Subscript o i pos'] value pos) (fun ρ A=>FP (E ρ A) (F ρ) (G ρ) ρ):=
 ⟨(DL hu ho.h hi.h hv.h zZ).weak fun D σ H ⟨B0,H0,B,A,ρ,hb,g,ha,r,n,q⟩=>iI hb g ha r n q.bind fun tv A1 v B1 H1 q1 g1 iO r1 rv _=>iI hb g1 iO r1 n (dg.bind q1) fun t A2 w B2 H2 q2 g2 vg r2 jc P5=>iI hb g2 vg r2 n (dg.bind q2) fun tk A3 y B3 H3 q3 g3 zU r3 ry Mp=>by
   have T5:=jc.same Mp.fy;have T6:=(rv.same P5.fy).same Mp.fy;split at q3
   ·rename_i ed;obtain⟨j,aC,key,rfl,ek,eo,hl,rfl⟩:=qd ed;obtain⟨c,rfl,r8⟩:=T5.sU;obtain⟨hd,ar,h1,h2,h3⟩:=zU.get r8 eo;have h2:cI X.K (aN B3 H3) ar aC:=⟨h2,h3⟩;obtain⟨b,rfl,eb⟩:=jA ry ek;have hp:=h2.put key T6;obtain⟨g4,h6⟩:=zU.write (o:=.aX (jB aC key tv)) (u:=.dT (putK ar key v)) r8 ⟨hd,_,aF,hp.keys,by rw[jT hd];exact hp.vals⟩;exact⟨c,_,rfl,sP.t h1 eb (by rw[h2.length,<-gE];exact hl),q3 σ B3 _ (g3.trans hb g4) h6 (r3.grow n g4) n⟩
   ·exact q3.elim⟩
end
end L2
namespace L2
open PySem PySem.Spec PyProof.Rows
def Ci(A:Ab)(t tk:Tr):Option Int:=match t,l8 tk with
 |.at i,some k=>match A[i]? with
  |some (.aX aC)=>match gI aC k with
   |some (.int n)=>some n
   |_=>none
  |_=>none
 |_,_=>none
theorem Ac{A:Ab}{t tk:Tr}{n:Int}(e:Ci A t tk=some n):∃j aC key,t=.at j/\l8 tk=some key/\A[j]?=some (.aX aC)/\gI aC key=some (.int n):=by
 unfold Ci at e;split at e
 ·rename_i ek;split at e
  ·rename_i eo;split at e
   ·rename_i ev;cases e;exact⟨_,_,_,rfl,ek,eo,ev⟩
   ·cases e
  ·cases e
 ·cases e
def Cj(o k v:Ab->Rz Tr)(ρ:ax)(A:Ab):Rz Out:=(o A).bind fun t A=>(k A).bind fun tk A=>match Ci A t tk with
 |some n=>(v A).bind fun tv A=>match tv with
  |.int c=>match ny A t tk (.int (n - c))with
   |some A'=>.ok (.nx ρ) A'
   |none=>.bad
  |_=>.bad
 |none=>.bad
section
variable {X:Cx}{o i value:Expr}{pos pos':Pos}{F G E:ax->Ab->Rz Tr}
theorem EA(hu:X.A.units+1<cLine)(ho:ZO X o F)(hi:ZE X i G)(hv:ZE X value E)(ha:∀ov iv new,augStore i ov iv new=(do holding [new,ov,iv] (setItem ov iv new);release [new,ov,iv] [];pure .next):=by intros;rfl):
  ZS X (.AugAssign (.Subscript o i pos') .Sub value pos) (fun ρ A=>Cj (F ρ) (G ρ) (E ρ) ρ A):=
 ⟨(DM hu ho.h hi.h hv.h GB ha).weak fun D σ H ⟨B0,H0,B,A,ρ,hb,g,ha,r,n,q⟩=>iI hb g ha r n q.bind fun t A1 w B1 H1 q1 g1 iO r1 jc _=>iI hb g1 iO r1 n (dg.bind q1) fun tk A2 y B2 H2 q2 g2 vg r2 ry P5=>by
   have T7:=jc.same P5.fy;split at q2
   ·rename_i m em;obtain⟨j,aC,key,rfl,ek,eo,ev⟩:=Ac em;obtain⟨c,rfl,r8⟩:=T7.sU;obtain⟨hd,ar,h1,h2,h3⟩:=vg.get r8 eo;obtain⟨b,rfl,eb⟩:=jA ry ek;rcases p_ key h2 h3 with⟨z1,_⟩|⟨t',v,z1,z2,rv⟩
    ·cases ev.symm.trans z1
    ·cases ev.symm.trans z1;cases rv.int_inv;refine⟨c,_,rfl,by have:=mH.t h1 eb;rw[z2]at this;exact this,iI hb g2 vg r2 n (dg.bind q2) fun tv A3 u B3 H3 q3 g3 zU r3 ru Mp=>?_⟩;split at q3
     ·rename_i cc;refine⟨m,cc,rfl,ru.int_inv,?_⟩;split at q3
      ·rename_i ed;obtain⟨j',Mq,T8,ej,T9,T_,hl,rfl⟩:=qd ed;cases ej;cases ek.symm.trans T9;have Mr:=Mp.fy.x _ _ r8;obtain⟨RQ,Ms,f1,f2,f3⟩:=zU.get Mr T_;have f2:cI X.K (aN B3 H3) Ms Mq:=⟨f2,f3⟩;have hp:=f2.put key (.int (m - cc));obtain⟨b',T',Ua⟩:=jA (ry.same Mp.fy) ek;cases T';obtain⟨g4,h6⟩:=zU.write (o:=.aX (jB Mq key (.int (m - cc)))) (u:=.dT (putK Ms key (.int (m - cc)))) Mr ⟨RQ,_,aF,hp.keys,by rw[jT RQ];exact hp.vals⟩;exact⟨_,sP.t f1 Ua (by rw[f2.length,<-gE];exact hl),q3 σ B3 _ (g3.trans hb g4) h6 (r3.grow n g4) n⟩
      ·exact q3.elim
     ·exact q3.elim
   ·exact q2.elim⟩
end
end L2
namespace L2
open PySem PySem.Spec PyProof.Rows
def Ig(i:Nat)(r:Ab->Rz Tr)(ρ:ax)(A:Ab):Rz Out:=match az ρ i with
 |.ok (.int n)=>(r A).bind fun t A=>match t with
  |.int c=>.ok (.nx (ρ.set i (.sh (.int (n+c))))) A
  |_=>.bad
 |_=>.bad
section
variable {X:Cx}{e:Expr}{pos pos':Pos}{F:ax->Ab->Rz Tr}
theorem Ih(i:Nat){x:Str}(he:ZE X e F)(hN:X.N.Nodup:=by assumption) (hi:X.N[i]?=some x:=by rfl) (hx:Loc X.env.scope x:=by first|exact Or.inl rfl|exact Or.inr rfl) (hf:X.fn x=true\/X.env.scope.names.lookup x=some .local:=by first|exact .inl rfl|exact .inr rfl|assumption):
  ZS X (.AugAssign (.Name x pos') .Add e pos) (fun ρ A=>Ig i (F ρ) ρ A):=
 ⟨(Gp hN hi hx he.h GA hf).weak fun D σ H ⟨B0,H0,B,A,ρ,hb,g,ha,r,n,q⟩=>by
   unfold Ig at q;split at q
   ·rename_i m em;have e1:ρ[i]?=some (.sh (.int m)):=by
     unfold az at em;split at em
     ·rename_i h;cases em;exact h
     ·cases em
    obtain⟨v,ev,rv⟩:=r.sh i _ e1;cases rv.int_inv;refine⟨_,ev,iI hb g ha r n q.bind fun t A1 w B1 H1 q1 g1 iO r1 jc _=>?_⟩;split at q1
    ·rename_i c;exact⟨m,c,rfl,jc.int_inv,q1 _ B1 H1 g1 iO (r1.set i (.int (m+c))) (n.set i _)⟩
    ·exact q1.elim
   ·exact q.elim⟩
end
end L2
namespace L2
open PySem PySem.Spec PyProof.Rows
section
variable {prog:Program}{w:World}{A:Around}{E:Value->Shared->Prop}{s:Shared}{d it:Addr}{o:Obj}{es:Array DictEntry}{ep i:Nat}
theorem vy{Q:Value->Shared->Prop}(T:s.TypeIs (.ref d) "dict")(nd:(d==sysModules)=false)(e1:s.heap.get? d=some o)(e2:o.data=.dict es ep)
  (q:Q (.ref s.heap.objs.size) {s with heap:=s.heap.push {cls:=.type "dict_keyiterator",data:=.fields #[.ref d,.int 0 0,.int es.size 0,.int ep 0]}}):wpAny (model prog w) A (pyIter (.ref d)) Q E s:=by
 refine ph T F.slot_dict_iter (cT F.slot_dict_iter T F.entry_dict_iter ?G (F.args_dict_iter_1 _))
 case G=>
  unfold Builtin.«dict.__iter__»;refine aa ?G2
  case G2=>
   unfold Builtin.Dict.dictSlotNone;refine aa (wpAny_notOrdered_dict T (show wpAny _ _ (pure (Value.ref d)) _ _ s from af ?G3))
   case G3=>
    show wpAny _ _ (Builtin.Dict.showsAll d>>=_) _ _ s;unfold Builtin.Dict.showsAll;rw[ae (fun z=>by rw[nd]at z;cases z)];refine aa (af (aa (pj e1 e2 (aa (wpAny_dictEpoch e1 e2 (aa (dO (af ⟨_,rfl,"dict_keyiterator",_,⟨_,aQ _ rfl,rfl⟩,kI.lookup,?_⟩))))))));simpa[rawInt]using q
theorem vz{Q:Option Value->Shared->Prop}(st:s.heap.IsKeyIter it d i es.size ep)(e1:s.heap.get? d=some o)(e2:o.data=.dict es ep)(hi:i<es.size)
  (q:∀h',h'.IsKeyIter it d (i+1) es.size ep->Heap.SameBut it s.heap h'->Q (some es[i].key) {s with heap:=h'}):wpAny (model prog w) A (pyNext (.ref it)) Q E s:=by
 have T:=st.typeIs;obtain⟨oi,f1,f2,f3⟩:=id st;unfold pyNext;refine aa (fX (gs (name:=Str.ofString "__next__") T kI (cT kI T F.entry_dict_keyiterator_next ?G (F.args_dict_keyiterator_next_1 _))))
 case G=>
  refine aa (af (aa (aa ?G2)))
  case G2=>
   first|refine aa (kK T (af (aa (gX f1 f3 ?G3))))|refine aa (kX T (af (aa (gX f1 f3 ?G3))))
   case G3=>
    simp only[show Builtin.Dict_items.ownsTuple "dict_keyiterator"=false by decide,bK,bp];show wpAny _ _ (if(Value.ref d==Value.none)=true then _ else _) _ _ s;rw[ae (fun z=>by cases z)];refine aa (af (aa (pj e1 e2 ?G4)))
    case G4=>
     rw[ae (by simp)];refine aa (af (aa (wpAny_dictEpoch e1 e2 ?G5)))
     case G5=>
      rw[ae (by simp)];refine af ?G6
      case G6=>
       have n0:¬((i:Int)<0):=by omega
       simp only[n0,bp,dN,cK hi];have qV:(s.heap.update it (Obj.mapFields (·.setIfInBounds 1 (rawInt ((i:Int)+1))))).IsKeyIter it d (i+1) es.size ep:=
        ⟨_,jM _ f1 (Obj.isFreed_of_fields (lq f3 _)),(Obj.cls_mapFields ..).trans f2,by rw[lq f3];simp[rawInt]⟩
       refine aa ?G7
       case G7=>
        first|refine aa (kK T (af (aa (oO T ?G8))))|refine aa (kX T (af (aa (oO T ?G8))))
        case G8=>
         show wpAny _ _ (setField (.ref it) 1 (rawInt ((i:Int)+1))>>=_) _ _ s;refine aa (i4 f1 f3 (by simp) (aa (cn (aa (oO (s:={s with heap:=s.heap.update it (Obj.mapFields (·.setIfInBounds 1 (rawInt ((i:Int)+1))))}) qV.typeIs ?G9)))))
         case G9=>
          show wpAny _ _ (pure es[i].key) _ _ _;exact af (af ⟨_,rfl,af (q _ qV (dM ..))⟩)
theorem yx{Q:Option Value->Shared->Prop}(hh:A.handled=none)(st:s.heap.IsKeyIter it d i es.size ep)(e1:s.heap.get? d=some o)(e2:o.data=.dict es ep)(hi:es.size<=i)
  (q:∀h',Heap.ExtBut it s.heap h'->Q none {s with heap:=h'}):wpAny (model prog w) A (pyNext (.ref it)) Q E s:=by
 have T:=st.typeIs;obtain⟨oi,f1,f2,f3⟩:=id st;unfold pyNext;refine aa (fX (gs (name:=Str.ofString "__next__") T kI (cT kI T F.entry_dict_keyiterator_next ?G (F.args_dict_keyiterator_next_1 _))))
 case G=>
  refine aa (af (aa (aa ?G2)))
  case G2=>
   first|refine aa (kK T (af (aa (gX f1 f3 ?G3))))|refine aa (kX T (af (aa (gX f1 f3 ?G3))))
   case G3=>
    simp only[show Builtin.Dict_items.ownsTuple "dict_keyiterator"=false by decide,bK,bp];show wpAny _ _ (if(Value.ref d==Value.none)=true then _ else _) _ _ s;rw[ae (fun z=>by cases z)];refine aa (af (aa (pj e1 e2 ?G4)))
    case G4=>
     rw[ae (by simp)];refine aa (af (aa (wpAny_dictEpoch e1 e2 ?G5)))
     case G5=>
      rw[ae (by simp)];refine af ?G6
      case G6=>
       have n0:¬((i:Int)<0):=by omega
       simp only[n0,bp,dN,Array.getElem?_eq_none hi];refine aa ?G7
       case G7=>
        first|refine aa (kK T (af ?G8))|refine aa (kX T (af ?G8))
        case G8=>
         show wpAny _ _ (setField (.ref it) 0 .none>>=_) _ _ s;refine aa (i4 f1 f3 (by simp) (show wpAny _ _ (newExc (.type "StopIteration") []>>=_) _ _ _ from aa ?G9))
         case G9=>
          simp only[newExc,newTuple];refine aa (dO (aa (m:=firstArgMember _ _) (wpAny_of_eq (a:=Value.none) (by first|rfl|(simp only[firstArgMember];rfl)) (dO ?Ub (by size_fits)))) (by size_fits))
          case Ub=>
           simp only[raiseNew];refine aa (wpAny_handled ?Uc)
           case Uc=>
            rw[show A.in1.handled=none from hh];refine aa (af (wpAny_throw ?Ud))
            case Ud=>
             refine aa (i0 (T:="StopIteration") (b:=true) ⟨_,aQ _ rfl,rfl⟩ lJ (af (q _ (((dM ..).extBut.push _).push _))))
end
end L2
namespace L2
open PySem PySem.Spec PyProof.Rows
def P6(a:Addr)(o:Obj)(ar:List (List Key×V)):It:=
 ⟨fun i H=>H a=some (.ff o (.dT ar))/\i<ar.length,fun i H x H'=>H'=H/\∃k v b,ar[i]?=some (k,v)/\x=.ref b/\H b=some (.tup (k.map kV)),fun i H=>H a=some (.ff o (.dT ar))/\ar.length<=i⟩
theorem xk{H:Hp}:∀{ar:List (List Key×V)} {xs:List (List Key×Addr×Value)},KT H ar xs->∀{i:Nat} {x:List Key×Addr×Value},xs[i]?=some x->∃v,ar[i]?=some (x.1,v)/\H x.2.1=some (.tup (x.1.map kV))
 |_,_,.nil,_,_,e=>by simp at e
 |(k,v)::_,_,.cons h t,i,x,e=>by
  cases i with
  |zero=>
   simp at e;subst e;obtain⟨h1,h2,_⟩:=h;have Ii:k=_:=h1;subst Ii;exact⟨v,rfl,h2⟩
  |succ j=>exact xk t (by simpa using e)
theorem Ck{P:Program}{w:World}{K:PySem.W.Frag}{tg:Expr}(a it:Addr)(o:Obj)(ar:List (List Key×V))(es:Array DictEntry)(ep:Nat)(hd:o.data=.dict es ep):Turn P w K tg (P6 a o ar) [it] it (fun i h=>h.IsKeyIter it a i es.size ep) where
 mem:=by simp
 obj:=fun i h st b hb=>by
  have e:b=it:=by simpa using hb
  subst e;obtain⟨o,e,c,d⟩:=st;exact⟨o,e,fun v z=>by rw[d]at z;cases z⟩
 keep:=fun i h h' st k=>by
  obtain⟨o,e,c⟩:=st;exact⟨o,k it (by simp) o e,c⟩
 item:=by
  intro X hP hw hK hc i pins s σ H E I hf st ⟨hg,hi⟩;subst hP hw hK;obtain⟨ho,hz,hs,xs,rel,o',Gh,xC,h1,h2,h3,h4,h5⟩:=(show bg X.prog X.w H s.heap a (.ff o (.dT ar))from I.bC a _ hg);rw[ho]at h1;cases h1;rw[hd]at h3;cases h3;obtain⟨f0,f1,f2,f3,f4,f5⟩:=hf it (by simp);have hl:ar.length=xs.length:=Paired.length rel;have hsz:es.size=xs.length:=by rw[<-bw,h4,ai]
  have tj:i<es.size:=by rw[hsz,<-hl];exact hi
  have hx:xs[i]?=some xs[i]:=aH (by rw[<-hl];exact hi)
  obtain⟨v,ek,eb⟩:=xk rel hx;have key:es[i].key=Value.ref xs[i].2.1:=by
   have:es.toList[i]?=some (entryOfKey (tupleKind (av X.prog X.w)) xs[i]):=by rw[h4,aS,hx];rfl
   rw[cy,cK tj]at this;rw[Option.some.inj this];rfl
  refine vz st ho hd tj fun h' qV sb=>?_
  have I1:Inv X pins σ H {s with heap:=h'}:=I.turned (t':=s.toks) (fun b o hb e=>(sb.2 b hb).trans e) f0 f1 f3 f4 f5;obtain⟨oi,e,c,d⟩:=id qV;exact⟨_,rfl,uE (s:={s with heap:=h'}) e c d (by decide) ⟨.ref xs[i].2.1,H,I1,key,⟨rfl,_,_,_,ek,rfl,eb⟩,qV,fun b hb=>(hf b hb).1⟩⟩
 done:=by
  intro X hP hw hK hc i pins s σ H E I hf st ⟨hg,hi⟩;subst hP hw hK;obtain⟨ho,hz,hs,xs,rel,o',Gh,xC,h1,h2,h3,h4,h5⟩:=(show bg X.prog X.w H s.heap a (.ff o (.dT ar))from I.bC a _ hg);rw[ho]at h1;cases h1;rw[hd]at h3;cases h3;obtain⟨f0,f1,f2,f3,f4,f5⟩:=hf it (by simp);have hl:ar.length=xs.length:=Paired.length rel;have hsz:es.size=xs.length:=by rw[<-bw,h4,ai]
  exact yx (I.ok.hd hc) st ho hd (by rw[hsz,<-hl];exact hi) fun h' eb=>⟨rfl,I.turned (t':=s.toks) (fun b o hb e=>eb b o hb e) f0 f1 f3 f4 f5⟩
 self:=fun _ _ _ _ _ st h=>wpAny_pyIter_keyiter st h
def Cm(aC:List (List Key×Tr)):Rs (List Tr):=if aC.all (fun p=>p.1.all keyOk)=true then .ok (aC.map fun p=>.tup (p.1.map lY))else .bad
def nO(r:Rs Tr):Rs (List Tr):=r.bind fun t=>match t with
 |.aX aC=>Cm aC
 |_=>.bad
theorem sj{K:PySem.W.Frag}{W:Vw}:∀{k:List Key},k.all keyOk=true->aI K W (k.map kV) (k.map lY)
 |[],_=>.nil
 |a::k,h=>by
  rw[fW,aM]at h;exact .cons (zF h.1) (sj h.2)
theorem Ad{K:PySem.W.Frag}{B:bD}{H:Hp}{a:Addr}{o:Obj}{ar:List (List Key×V)}{aC:List (List Key×Tr)}(h:(aN B H).H a=some (.ff o (.dT ar)))(e:ar.map (·.1)=aC.map (·.1))(hk:aC.all (fun p=>p.1.all keyOk)=true):jm K B (P6 a o ar) H (aC.map fun p=>.tup (p.1.map lY)):=by
 have hl:ar.length=aC.length:=by have q:=bH List.length e;rw[ai,ai]at q;exact q
 refine⟨fun i B' H' hi s hb=>⟨aD _ _ (s.h _ _ h),by rw[ai]at hi;rw[hl];exact hi⟩,fun i B' H' x D1 hi s hb ⟨eh,k,v,b,ek,ex,eb⟩=>?_,fun B' H' s=>⟨aD _ _ (s.h _ _ h),by rw[ai,hl];exact ak _⟩⟩;subst eh ex;have e1:(ar.map (·.1))[i]?=some k:=by rw[aS,ek];rfl
 rw[e,aS]at e1;cases e2:aC[i]? with
 |none=>rw[e2]at e1;cases e1
 |some p=>
  rw[e2]at e1;have e3:p.1=k:=Option.some.inj e1;refine⟨au.refl _,.tup (k.map lY),by rw[aS,e2,<-e3];rfl,.tup (hb.tup eb) (sj ?_)⟩;rw[<-e3];exact bM.mp hk p (bu e2)
section
variable {X:Cx}{pins:List (Addr×Obj)}{σ:St}
theorem Mt{tg l:Expr}{F:ax->Rs Tr}(hl:PE X l (tP X F)):PI X tg l (tJ X fun ρ=>nO (F ρ)):=by
 intro pins s σ H R I ⟨B,ρ,hb,r,q⟩;refine dq (hl pins s σ H (fun x H1=>∃(a:Addr) (ar:List (List Key×V)) (aC:List (List Key×Tr)),x=.ref a/\au H H1/\Rd (aN B H1).H a (.dT ar)/\ar.map (·.1)=aC.map (·.1)/\aC.all (fun p=>p.1.all keyOk)=true/\∀J H',s_ X B H H'->jm X.K B J H' (aC.map fun p=>.tup (p.1.map lY))->R J H') I ⟨B,ρ,hb,r,q.bind.mono fun t qt v H1 s1 r1=>?_⟩) fun v s1 ⟨x,H1,I1,r1,a,ar,aC,ex,sm,rd,ek,hk,k⟩=>?_
 ·skip
  split at qt
  ·obtain⟨a,ar,e0,h,e,rr⟩:=r1.oa;obtain⟨z,q1⟩:=fj qt;exact⟨a,ar,_,e0,s1,h,e,z,q1⟩
  ·exact qt.elim
 ·subst ex;cases r1;have RR:Rd H1 a (.dT ar):=rd.same aD;have hv:B.hd a=false:=by
   cases z:B.hd a with
   |false=>rfl
   |true=>
    have n:(aN B H1).H a=none:=by show(if B.hd a=true then none else H1 a)=none;rw[ab z]
    rcases rd with h|⟨o,h⟩<;>(rw[n]at h;cases h)
  obtain⟨hz,hs,xs,rel,o,es,ep,h1,h2,h3,h4,h5⟩:=(show bg X.prog X.w H1 s1.heap a (.dT ar)from RR.ok I1.bC);refine vy ⟨o,h1,h2.1⟩ hs h1 h3 ?_
  have fin:∀{H2:Hp},Inv X pins σ H2 s1->H2 a=some (.ff o (.dT ar))->s_ X B H H2->NC X pins σ tg R (.ref s1.heap.objs.size) {s1 with heap:=s1.heap.push {cls:=.type "dict_keyiterator",data:=.fields #[.ref a,.int 0 0,.int es.size 0,.int ep 0]}}:=fun{H2} I2 e2 tf=>
   ⟨s1.heap.objs.size,[s1.heap.objs.size],_,P6 a o ar,H2,rfl,I2.kept (t':=s1.toks) fun b o e=>ay _ e,Ck a _ o ar es ep h3,⟨_,aQ _ rfl,rfl,rfl⟩,fun b hb=>by
    have e:b=s1.heap.objs.size:=by simpa using hb
    subst e;exact I2.uD (ak _) (I2.bC.fresh (ak _)),k _ H2 tf (Ad (by rw[cq hv];exact e2) ek hk)⟩
  rcases RR with e1|⟨o',e1⟩
  ·refine fin (I1.frozen e1 (.t _) h1) aF (.inr ⟨H1,a,o,_,.t ar,sm,hv,e1,rfl,fun o' u e0=>?_⟩);have q:=I1.base.iK a o' u e0;rw[e1]at q;cases q
  ·have eo:o'=o:=by
    have q:=(show bg X.prog X.w H1 s1.heap a (.ff o' (.dT ar))from I1.bC a _ e1).1;rw[h1]at q;cases q;rfl
   subst eo;exact fin I1 e1 (.inl sm)
theorem yy{tg l:Expr}{F:ax->Rs Tr}(hl:QE X l F):QJ X tg l (fun ρ=>nO (F ρ)):=⟨Mt hl.h⟩
end
end L2
namespace L2
open PySem PySem.Spec PyProof.Rows
def FQ(a b:Rs Tr):Rs Tr:=a.bind fun x=>match x with
 |.aX aC=>b.bind fun y=>(zA (l8 y)).bind fun k=>.ok ((gI aC k).getD .bU)
 |_=>.bad
section
variable {X:Cx}{o e:Expr}{F G:ax->Rs Tr}{apos dE:Pos}
theorem Ij(hu:X.A.units+1<cLine)(ho:QE X o F)(he:QE X e G)(hb:attributeBase o "get" X.env (eval o X.env)=eval o X.env:=by first|exact xU rfl|rfl) (cS:aY [e]=true:=by rfl) (hl:(apos.endLine==dE.line)=true:=by rfl):QE X (.Call (.Attribute o "get" apos) [e] [] dE) (fun ρ=>FQ (F ρ) (G ρ)):=
 ⟨(Bn hu ho.h he.h ⟨hb,by rw[pJ cS];rfl,hl,by rw[aU _ _ (aG cS).1,starEach];rfl⟩).weak fun σ H Q ⟨B,ρ,hb,r,q⟩=>⟨B,ρ,hb,r,q.bind.mono fun x qx v H1 s1 r1=>by
   split at qx
   ·obtain⟨a,ar,rfl,h,e,rr⟩:=id r1.oa;refine⟨_,rfl,.inr ⟨_,h.same aD⟩,B,ρ,hb.same s1,r.same s1,(Fi.bind qx|>.same s1).mono fun y qy w H2 s2 r2=>?_⟩;obtain⟨k,ek,qk⟩:=eX (Fi.bind qy);obtain⟨a',ov,ea,g,ho⟩:=Cf (r1.same (aV s2)) r2 ek;cases ea;refine⟨ov,g,qk _ H2 (s1.trans s2) ?_⟩;rcases ho with⟨h1,rfl⟩|⟨t,w',h1,rfl,h3⟩
    ·rw[h1];exact .bU
    ·rw[h1];exact h3
   ·exact qx.elim⟩⟩
end
end L2
namespace L2
open PySem PySem.Spec PySem.Calls PyProof.Rows
theorem xl:typeLookup (.type "tuple") "keys"=pure none:=by rw[lG,lb];kernel_rfl
def iz(xs more:List (List Key×Addr×Value)):List (List Key×Addr×Value):=more.foldl (fun acc p=>storedH acc p.1 p.2.1 p.2.2) xs
theorem vA(xs:List (List Key×Addr×Value))(k:List Key)(b:Addr)(u:Value):(storedH xs k b u).length<=xs.length+1:=by
 unfold storedH;split
 ·rw[ai];omega
 ·rw[ba];exact ak _
section
variable {prog:Program}{w:World}{A:Around}{E:Value->Shared->Prop}{s:Shared}
theorem vB{a:Addr}{xs:Array Value}{k:Nat}{sl:Array (Option Value)}{Q:Option Value->Shared->Prop}(hx:s.heap.get? a=some {cls:=.type "tuple",dict:=none,data:=.seq xs k,slots:=sl}) (hA:A.handled=none)
  (h:∀h' tk,(∀b o,s.heap.get? b=some o->h'.get? b=some o)->Q none {s with heap:=h',toks:=tk}):wpAny (model prog w) A (getAttr? (.ref a) "keys") Q E s:=by
 obtain⟨hp,g,d,tk,os⟩:=s;have hT:∀nM,(⟨hp,g,d,nM,os⟩:Shared).TypeIs (.ref a) "tuple":=fun _=>⟨_,hx,rfl⟩;have f1:=sub_AttributeError;have f3:=oC.lookup;have f4:=oC.bind (.ref a);have f5:=am_tuple_getattr_none;unfold getAttr? getAttrBy? getAttrBy
 repeat(any_goals (first|assumption|exact hT _|((with_reducible show wpAny _ _ (call (Value.builtin "tuple.__getattribute__") _ _) _ _ _);refine g7 oC (hT _) am_entry_tuple_getattribute (F.args_tuple_getattribute_2 _ _) (meets_getattribute_miss_tuple a xs k sl "keys" _ xl (by decide+kernel) (by size_fits)) ⟨hx,hA,fun h' nM e zJ=>?_⟩)|wp_step))
 obtain⟨t',u',he⟩:=zJ.there;have PZ:∀nM,(⟨h',g,d,nM,os⟩:Shared).TypeIs (.ref e) "AttributeError":=fun _=>⟨_,he,rfl⟩;show wpAny _ _ (getattributeRaised _ _ _ _ _ _ _) _ _ _;unfold getattributeRaised
 repeat(any_goals (first|assumption|exact PZ _|wp_step))
 exact h h' nM zJ.of.keeps
structure Mu(prog:Program)(w:World)(A:Around)(h0:Heap)(I:Addr)(items:List Value)(It:Nat->Heap->Prop):Prop where
 keep:∀{i h h'},It i h->(∀o,h.get? I=some o->h'.get? I=some o)->It i h'
 item:∀{i:Nat} {s:Shared} {x:Value} {E:Value->Shared->Prop} {Q:Option Value->Shared->Prop},It i s.heap->(∀b o,h0.get? b=some o->s.heap.get? b=some o)->items[i]?=some x->(∀h',It (i+1) h'->Heap.SameBut I s.heap h'->Q (some x) {s with heap:=h'})->wpAny (model prog w) A (pyNext (.ref I)) Q E s
 stop:∀{i:Nat} {s:Shared} {E:Value->Shared->Prop} {Q:Option Value->Shared->Prop},A.handled=none->It i s.heap->(∀b o,h0.get? b=some o->s.heap.get? b=some o)->items.length<=i->(∀h',(∀b o,b≠I->s.heap.get? b=some o->h'.get? b=some o)->Q none {s with heap:=h'})->wpAny (model prog w) A (pyNext (.ref I)) Q E s
theorem yz{h0:Heap}{l I:Addr}{items:List Value}(hl:h0.IsList l items.toArray):Mu prog w A h0 I items (fun i h=>h.IsListIter I l i):=by
 have Mv:∀{h:Heap},(∀b o,h0.get? b=some o->h.get? b=some o)->h.IsList l items.toArray:=fun{h} k=>by obtain⟨o,e,x⟩:=hl;exact⟨o,k _ _ e,x⟩
 exact⟨fun⟨o,e,x⟩ k=>⟨o,k _ e,x⟩,fun it kp e h=>wpAny_pyNext_list_item it (Mv kp) (by simpa using e) h,fun hh it kp e h=>wpAny_pyNext_list_end hh it (Mv kp) (by simpa using e) h⟩
theorem Ik{h0:Heap}{l I:Addr}{items:List Value}(hl:h0.IsTuple l items.toArray):Mu prog w A h0 I items (fun i h=>h.IsTupleIter I l i):=by
 have Mv:∀{h:Heap},(∀b o,h0.get? b=some o->h.get? b=some o)->h.IsTuple l items.toArray:=fun{h} k=>by obtain⟨o,e,x⟩:=hl;exact⟨o,k _ _ e,x⟩
 exact⟨fun⟨o,e,x⟩ k=>⟨o,k _ e,x⟩,fun it kp e h=>oH it (Mv kp) (by simpa using e) h,fun hh it kp e h=>wpAny_pyNext_tuple_end hh it (Mv kp) (by simpa using e) h⟩
theorem Ae{h0:Heap}{d I:Addr}{items:List Value}{It:Nat->Heap->Prop}{pairs:List (List Key×Addr×Value)}{R:Result->Shared->Prop}(hu:A.units+1<cLine)(hh:A.handled=none)(W:Mu prog w A.in1 h0 I items It)(hlen:items.length=pairs.length)
  (hp:∀(j:Nat) (t:Value),items[j]?=some t->∃ad b k v,t=.ref ad/\h0.IsTuple ad #[.ref b,v]/\(∀h':Heap,(∀b o,h0.get? b=some o->h'.get? b=some o)->(tupleKind (av prog w)).is h' k b)/\pairs[j]?=some (k,b,v))
  (Ue:h0.get? d=none) (Mw:h0.get? I=none) (P7:d≠I) (hz:pairs.length<=100000)
  (hR:∀h' nM,(∀b o,h0.get? b=some o->h'.get? b=some o)->h'.DictOfH (tupleKind (av prog w)) d (iz [] pairs)->R (.ok (.ret .none)) {s with heap:=h',toks:=nM}):
  ∀(r i:Nat) (h:Heap) (tk:Nat) (ar:List (List Key×Addr×Value)),pairs.length - i=r->i<=pairs.length->ar.length<=i->iz ar (pairs.drop i)=iz [] pairs->(∀b o,h0.get? b=some o->h.get? b=some o)->It i h->h.DictOfH (tupleKind (av prog w)) d ar->(∀x∈ar,∀h':Heap,(∀b o,h0.get? b=some o->h'.get? b=some o)->(tupleKind (av prog w)).is h' x.1 x.2.1)->
   codeAny (model prog w) A (.builtin "dict.update.loop" ⟨[.ref d,.ref I,rawInt i,.none],[]⟩) R {s with heap:=h,toks:=tk}:=by
 have nd:∀{b:Addr} {o:Obj},h0.get? b=some o->b≠d:=fun{b o} e z=>by rw[z,Ue]at e;cases e
 have nI:∀{b:Addr} {o:Obj},h0.get? b=some o->b≠I:=fun{b o} e z=>by rw[z,Mw]at e;cases e
 have mv:∀{h h':Heap} {ar:List (List Key×Addr×Value)},(∀b o,h0.get? b=some o->h'.get? b=some o)->(∀o,h.get? d=some o->h'.get? d=some o)->(∀x∈ar,∀h':Heap,(∀b o,h0.get? b=some o->h'.get? b=some o)->(tupleKind (av prog w)).is h' x.1 x.2.1)->h.DictOfH (tupleKind (av prog w)) d ar->h'.DictOfH (tupleKind (av prog w)) d ar:=by
  intro h h' ar kp kd ki ⟨o,es,ep,e1,e2,e3,e4,e5,e6⟩;exact⟨o,es,ep,kd _ e1,e2,e3,e4,fun x hx=>ki x hx h' kp,e6⟩
 intro r
 induction r with
 |zero=>
  intro i h tk ar hr hi hk hm kp it dd ki;have e:i=pairs.length:=by omega
  subst e;refine dv r9 ?_
  rw[dJ ib _];show wpAny _ A.in1 (pyNext (.ref I)>>=_) _ _ _;refine aa (W.stop (s:={s with heap:=h,toks:=tk}) hh it kp (by rw[hlen];exact ak _) fun h' eb=>?_);rw[iW]at hm;have yA:∀b o,h0.get? b=some o->h'.get? b=some o:=fun b o e=>eb b o (nI e) (kp b o e);have Fh:=mv (h':=h') yA (fun o e=>eb d o P7 e) ki dd;show wpAny _ A.in1 (Builtin.Dict.addKeywords d []>>=_) _ _ _;refine aa (af (af ?_));exact hR h' tk yA (by rw[<-hm];exact Fh)
 |succ r ih=>
  intro i h tk ar hr hi hk hm kp it dd ki;have eB:i<pairs.length:=by omega
  have JN:i<items.length:=by omega
  obtain⟨ad,b,k,v,et,tp,DC,ep⟩:=hp i items[i] (by simp[JN]);have xC:pairs[i]=(k,b,v):=by rw[aH eB]at ep;exact Option.some.inj ep
  refine dv r9 ?_
  rw[dJ ib _];show wpAny _ A.in1 (pyNext (.ref I)>>=_) _ _ _;refine aa (W.item (s:={s with heap:=h,toks:=tk}) it kp (x:=.ref ad) (by rw[aH JN,et]) fun h' JO sb=>?_);have yA:∀b o,h0.get? b=some o->h'.get? b=some o:=fun b o e=>(sb.2 b (nI e)).trans (kp b o e);have Fh:=mv (h':=h') yA (fun o e=>(sb.2 d P7).trans e) ki dd;obtain⟨ot,e1,e2,n,e3⟩:=tp;have hT:Shared.TypeIs {s with heap:=h',toks:=tk} (.ref ad) "tuple":=⟨ot,yA _ _ e1,e2⟩;refine aa ?_
  refine cn ?_
  refine aa (lL ?_);unfold Builtin.Dict.pairItems;refine aa (gY hT ?_);rw[ab (by decide)];refine aa (cY (yA _ _ e1) e3 ?_);refine af ?_
  show wpAny _ A.in1 (holding [.ref b,v] (dictSet d (.ref b) v)) _ _ _;refine cn (wpAny_dictSet_heap (knd:=tupleKind (av prog w)) (hsz:=by rw[bG];omega) (ik hu) (DC _ yA) Fh fun h2 Dm Oa=>?_);show wpAny _ A.in1 (pure _) _ _ _;refine af ⟨cZ ib _,?_⟩;have hc:rawInt ((i:Int)+1)=rawInt ((i+1:Nat):Int):=by push_cast;rfl
  rw[hc];refine ih (i+1) h2 _ (storedH ar k b v) (by omega) eB ?_ ?_ (fun b o e=>(Oa.2 b (nd e)).trans (yA b o e)) ?_ Dm ?_
  ·exact bo (vA ar k b v) (by omega)
  ·rw[kJ eB,xC]at hm;exact hm
  ·exact W.keep JO fun o e=>(Oa.2 I (bS P7)).trans e
  ·intro x hx;unfold storedH at hx;split at hx
   ·obtain⟨y,hy,rfl⟩:=a9.mp hx;unfold putAt;split
    ·exact ki y hy
    ·exact ki y hy
   ·rcases fM.mp hx with hx|hx
    ·exact ki x hx
    ·rw[cz.mp hx];exact DC
theorem xm{l:Addr}{items:List Value}{pairs:List (List Key×Addr×Value)}{Q:Value->Shared->Prop}{k0:Nat}{Ob:Array (Option Value)}{tn:String}(hu:A.units+4<cLine)(hh:A.handled=none)(Mx:tn="list"\/tn="tuple")(hx:s.heap.get? l=some {cls:=.type tn,dict:=none,data:=.seq items.toArray k0,slots:=Ob}) (hlen:items.length=pairs.length)
  (hp:∀(j:Nat) (t:Value),items[j]?=some t->∃ad b k v,t=.ref ad/\s.heap.IsTuple ad #[.ref b,v]/\(∀h':Heap,(∀b o,s.heap.get? b=some o->h'.get? b=some o)->(tupleKind (av prog w)).is h' k b)/\pairs[j]?=some (k,b,v)) (hz:pairs.length<=100000)
  (h:∀h' nM,(∀b o,s.heap.get? b=some o->h'.get? b=some o)->h'.DictOfH (tupleKind (av prog w)) s.heap.objs.size (iz [] pairs)->Q (.ref s.heap.objs.size) {s with heap:=h',toks:=nM}):
  wpAny (model prog w) A (call (.type "dict") [.ref l]) Q E s:=by
 refine callType_codes (Q₁:=fun obj bJ=>obj=.ref s.heap.objs.size/\bJ={s with heap:=s.heap.push {cls:=.type "dict",data:=.dict #[]}}) F.kt_called_dict (F.kt_typeCall_dict_1 _) F.entry_dict_init (kt_code_dict_new _ ⟨rfl,rfl⟩) ?_
 rintro obj bJ ⟨rfl,rfl⟩
 have DK:(s.heap.push {cls:=.type "dict",data:=.dict #[]}).DictOf (av prog w) s.heap.objs.size []:=Heap.DictOf.new s.heap;have My:(s.heap.push {cls:=.type "dict",data:=.dict #[]}).DictOfH (tupleKind (av prog w)) s.heap.objs.size []:=Heap.DictOfH.new s.heap;have FR:=ay {cls:=.type "dict",data:=.dict #[]} hx;refine⟨DK.typeIs,F.args_dict_init_2 _ _,?_⟩;unfold Builtin.«dict.__init__»;refine aa ?_
 unfold Builtin.Dict.selfAndRest;refine aa (wpAny_notOrdered_dict DK.typeIs ?_);show wpAny _ _ (pure (s.heap.objs.size,[Value.ref l])) _ _ _;refine af ?_
 show wpAny _ _ (Builtin.Dict.updateFrom "dict.__init__" s.heap.objs.size (.ref l) [] .none) _ _ _;unfold Builtin.Dict.updateFrom;have tail:∀(h1:Heap) (nQ:Nat),(∀b o,(s.heap.push {cls:=.type "dict",data:=.dict #[]}).get? b=some o->h1.get? b=some o)->∀(I:Addr) (It:Nat->Heap->Prop) (oI:Obj),I=h1.objs.size->Mu prog w A.in1.in1 s.heap I items It->It 0 (h1.push oI)->
   codeAny (model prog w) A.in1 (.builtin "dict.update.loop" ⟨[.ref s.heap.objs.size,.ref I,rawInt 0,.none],[]⟩) (wants (fun r mE=>r=.none/\Q (.ref s.heap.objs.size) mE) E) {s with heap:=h1.push oI,toks:=nQ}:=by
  intro h1 nQ k1 I It oI eI W Ug;subst eI;have k2:∀b o,s.heap.get? b=some o->h1.get? b=some o:=fun b o e=>k1 b o (ay _ e);have Uh:h1.get? s.heap.objs.size=some {cls:=.type "dict",data:=.dict #[]}:=k1 _ _ (aQ _ rfl);have eB:s.heap.objs.size<h1.objs.size:=aA Uh;refine Ae (s:=s) (h0:=s.heap) (A:=A.in1) (by show A.units+1+1<cLine;omega) hh W hlen hp (by
   cases e:s.heap.get? s.heap.objs.size with
   |none=>rfl
   |some o=>exact absurd (aA e) (ck _)) (by
   cases e:s.heap.get? h1.objs.size with
   |none=>rfl
   |some o=>exact absurd (aA (k2 _ _ e)) (ck _)) (aP eB) hz (fun h' nM kp dd=>⟨rfl,h h' nM kp dd⟩) _ 0 _ _ [] rfl (bx _) (ak _) rfl (fun b o e=>ay _ (k2 b o e)) Ug ?_ (fun x hx=>by cases hx)
  obtain⟨o,es,ep,e,x1,x2,x3,x4,x5⟩:=My;exact⟨o,es,ep,ay _ (k1 _ _ e),x1,x2,x3,(fun x hx=>by cases hx),x5⟩
 rcases Mx with rfl|rfl
 ·have hT:Shared.TypeIs {s with heap:=s.heap.push {cls:=.type "dict",data:=.dict #[]}} (.ref l) "list":=⟨_,FR,rfl⟩;refine aa (gY hT ?_);rw[ab (by decide)];refine aa (xh FR hh fun h1 nQ k1=>?_);rw[ab (show(none:Option Value).isNone=true from rfl)];have hl:s.heap.IsList l items.toArray:=⟨_,hx,rfl,_,rfl⟩;refine aa (dR ?_);refine aa (gS (show h1.IsList l items.toArray from⟨_,k1 _ _ FR,rfl,_,rfl⟩) ?_);refine af ⟨cZ ib _,?_⟩;exact tail h1 nQ k1 _ _ {cls:=.type "list_iterator",data:=.fields #[.ref l,.int 0 0]} rfl (yz hl) (by exact⟨_,aQ _ rfl,rfl,rfl⟩)
 ·have hT:Shared.TypeIs {s with heap:=s.heap.push {cls:=.type "dict",data:=.dict #[]}} (.ref l) "tuple":=⟨_,FR,rfl⟩;refine aa (gY hT ?_);rw[ab (by decide)];refine aa (vB FR hh fun h1 nQ k1=>?_);rw[ab (show(none:Option Value).isNone=true from rfl)];have hl:s.heap.IsTuple l items.toArray:=⟨_,hx,rfl,_,rfl⟩;refine aa (dR ?_);refine aa (lp (show h1.IsTuple l items.toArray from⟨_,k1 _ _ FR,rfl,_,rfl⟩) ?_);refine af ⟨cZ ib _,?_⟩;exact tail h1 nQ k1 _ _ {cls:=.type "tuple_iterator",data:=.fields #[.ref l,.int 0 0]} rfl (Ik hl) (by exact⟨_,aQ _ rfl,rfl,rfl⟩)
end
def l9:List Tr->Option (List (List Key×Tr))
 |[]=>some []
 |.tup [k,v]::r=>match l8 k,l9 r with
  |some key,some l=>some ((key,v)::l)
  |_,_=>none
 |_=>none
def dn:List Tr->Rs Tr
 |[.lst ts]=>match l9 ts with
  |some aC=>if aC.length<=100000 then .ok (.aX (jC [] aC))else .bad
  |none=>.bad
 |[.tup ts]=>match l9 ts with
  |some aC=>if aC.length<=100000 then .ok (.aX (jC [] aC))else .bad
  |none=>.bad
 |_=>.bad
def fO(ar more:List (List Key×V)):List (List Key×V):=more.foldl (fun acc kv=>putK acc kv.1 kv.2) ar
theorem jD:∀(more ar:List (List Key×V)),(fO ar more).length<=ar.length+more.length
 |[],ar=>by show ar.length<=ar.length+0;omega
 |p::r,ar=>by
  have h1:=jD r (putK ar p.1 p.2);have h2:=jf ar p.1 p.2;show(fO (putK ar p.1 p.2) r).length<=_;rw[bb];omega
theorem cI.merge {K:PySem.W.Frag}{H:Vw}:∀{more:List (List Key×V)} {JP:List (List Key×Tr)} {ar:List (List Key×V)} {aC:List (List Key×Tr)},cI K H more JP->cI K H ar aC->cI K H (fO ar more) (jC aC JP)
 |[],JP,ar,aC,h,h0=>by
  have e:=h.keys;cases JP with
  |nil=>exact h0
  |cons a b=>cases e
 |(j,v)::more,JP,ar,aC,h,h0=>by
  obtain⟨t,r,rfl,h1,h2⟩:=h.inv;exact cI.merge (more:=more) (JP:=r) (aC:=jB aC j t) h2 (h0.put j h1)
theorem KT.merge {H:Hp}:∀{more:List (List Key×V)} {ms:List (List Key×Addr×Value)} {ar:List (List Key×V)} {xs:List (List Key×Addr×Value)},KT H more ms->KT H ar xs->KT H (fO ar more) (iz xs ms):=by
 intro more ms ar xs r;unfold KT at r
 induction r generalizing ar xs with
 |nil=>intro q;exact q
 |@cons p q ps qs h t ih=>
  intro r0;obtain⟨h1,h2,h3⟩:=h;have:=ih (KT.put r0 p.1 (b:=q.2.1) (y:=p.2) (u:=q.2.2) h2 h3);rw[h1]at this;show KT H (fO (putK ar p.1 p.2) ps) (iz (storedH xs q.1 q.2.1 q.2.2) qs);rw[h1];exact this
section
variable {X:Cx}{pins:List (Addr×Obj)}{σ:St}{H:Hp}{s:Shared}{B:bD}
theorem Af{t:Tr}{ts:List Tr}{aC:List (List Key×Tr)}(h:l9 (t::ts)=some aC):∃k v key l,t=.tup [k,v]/\l8 k=some key/\l9 ts=some l/\aC=(key,v)::l:=by
 unfold l9 at h;split at h
 ·cases‹t::ts=[]›
 ·rename_i k v r e;cases e;cases e1:l8 k with
  |none=>rw[e1]at h;cases h
  |some key=>
   cases e2:l9 ts with
   |none=>rw[e1,e2]at h;cases h
   |some l=>rw[e1,e2]at h;cases h;exact⟨k,v,key,l,rfl,e1,rfl,rfl⟩
 ·cases h
theorem fv{h0:Heap}{b:Addr}{k:List Key}{P:Program}{w:World}(e:(tupleKind (av P w)).is h0 k b):∀h':Heap,(∀b o,h0.get? b=some o->h'.get? b=some o)->(tupleKind (av P w)).is h' k b:=by
 intro h' kp;obtain⟨o,aT,n,h1,h2,h3,h4⟩:=e;exact⟨o,aT,n,kp _ _ h1,h2,h3,h4⟩
theorem vC(I:Inv X pins σ H s):∀{vs:List V} {ts:List Tr} {aC:List (List Key×Tr)} {aT:List Value},aI X.K (aN B H) vs ts->l9 ts=some aC->Vals vs aT->
  ∃(ar:List (List Key×V)) (ps:List (List Key×Addr×Value)),cI X.K (aN B H) ar aC/\KT H ar ps/\aT.length=ps.length/\∀(j:Nat) (t:Value),aT[j]?=some t->∃ad b k v,t=.ref ad/\s.heap.IsTuple ad #[.ref b,v]/\(∀h':Heap,(∀b o,s.heap.get? b=some o->h'.get? b=some o)->(tupleKind (av X.prog X.w)).is h' k b)/\ps[j]?=some (k,b,v)
 |[],[],_,_,_,e,rv=>by cases e;cases rv;exact⟨[],[],.nil,.nil,rfl,fun j t e=>by simp at e⟩
 |[],_::_,_,_,h,_,_=>by cases h
 |v::vs,ts,aC,aT,h,e,rv=>by
  cases h with
  |cons h r=>
   obtain⟨k,w',key,l,rfl,ek,el,rfl⟩:=Af e;cases rv with
   |cons h1 rv=>
    obtain⟨ar,ps,q1,q2,q3,q4⟩:=vC I r el rv;obtain⟨ad,us,rfl,hq,rr⟩:=h.jk;cases h1;obtain⟨x1,x2,rfl,rk,jc⟩:=pM rr;obtain⟨uJ,AI,pl,_⟩:=I.tuple (.inl (.inl (aD _ _ hq)));obtain⟨u1,u2,rfl,r1,r2⟩:=vals2 AI;obtain⟨b,rfl,hb⟩:=jA rk ek;cases(show u1=Value.ref b from r1);refine⟨(key,_)::ar,(key,b,u2)::ps,.cons jc q1,.cons ⟨rfl,hb,r2⟩ q2,by rw[bb,bb,q3],fun j t et=>?_⟩;cases j with
    |zero=>cases et;exact⟨ad,b,key,u2,rfl,pl,fv (jg I.bC hb),rfl⟩
    |succ j=>exact q4 j t et
theorem l_(hu:X.A.units+4<cLine)(hc:X.calm=true):f_ X (.type "dict") (rF X dn):=by
 intro pins s σ H xs us Q I rv ⟨B,ts,hb,r,q⟩;have key:∃tr mN aC,ts=[tr]/\(tr=.lst mN\/tr=.tup mN)/\l9 mN=some aC/\aC.length<=100000/\∀v H',au H H'->Rep X.K (aN B H') v (.aX (jC [] aC))->(∀p,v=.ref p->HL H H' p)->Q v H':=by
  unfold dn at q;split at q
  ·rename_i mN;cases e:l9 mN with
   |none=>rw[e]at q;exact(show False from q).elim
   |some aC=>
    rw[e]at q;obtain⟨h0,z⟩:=fj q;exact⟨_,mN,aC,rfl,.inl rfl,e,h0,z⟩
  ·rename_i mN;cases e:l9 mN with
   |none=>rw[e]at q;exact(show False from q).elim
   |some aC=>
    rw[e]at q;obtain⟨h0,z⟩:=fj q;exact⟨_,mN,aC,rfl,.inr rfl,e,h0,z⟩
  ·exact(show False from q).elim
 obtain⟨tr,mN,aC,rfl,P8,ep,hz,k⟩:=key;obtain⟨x,rfl,h⟩:=gb r;obtain⟨u,rfl,ru⟩:=vals1 rv;have src:∃(a:Addr) (vs:List V) (tn:String) (aT:List Value) (n0:Nat) (Ob:Array (Option Value)),x=.ref a/\(tn="list"\/tn="tuple")/\aI X.K (aN B H) vs mN/\Vals vs aT/\s.heap.get? a=some {cls:=.type tn,dict:=none,data:=.seq aT.toArray n0,slots:=Ob}:=by
  rcases P8 with rfl|rfl
  ·obtain⟨a,vs,rfl,h,rr⟩:=h.lst_inv;obtain⟨z0,aT,n0,wk,hx⟩:=(show bg X.prog X.w H s.heap a (.lst vs)from I.bC a _ (eO h));exact⟨a,vs,"list",aT,n0,_,rfl,.inl rfl,rr,wk,hx⟩
  ·obtain⟨a,vs,rfl,h,rr⟩:=h.jk;obtain⟨_,aT,wk,o,hx,c1,n0,c2,c3⟩:=(show bg X.prog X.w H s.heap a (.tup vs)from I.bC a _ (aD _ _ h));obtain⟨oc,od,VU,xK⟩:=o;simp only at c1 c2 c3;subst c1 c2 c3;exact⟨a,vs,"tuple",aT,n0,xK,rfl,.inr rfl,rr,wk,hx⟩
 obtain⟨a,vs,tn,aT,n0,Ob,rfl,Mx,rr,wk,hx⟩:=src;cases(show u=Value.ref a from ru);obtain⟨ar,ps,q1,q2,q3,q4⟩:=vC I rr ep wk;have hl:ar.length=aC.length:=q1.length;have Ui:ps.length<=100000:=by rw[<-Paired.length q2,hl];exact hz
 refine xm hu (I.ok.hd hc) Mx hx q3 q4 Ui fun h' nM kp dd=>?_
 have hf:H s.heap.objs.size=none:=I.fresh;have Uj:(fO [] ar).length<=sizeLine:=by have:=jD ar [];rw[dt]at this;rw[bG];omega
 have P9:(s.heap.objs.size==sysModules)=false:=by
  have:=I.big;exact du (bY this)
 have km:KT (upd H s.heap.objs.size (.dT (fO [] ar))) (fO [] ar) (iz [] ps):=(KT.merge q2 (show KT H [] []from .nil)).keeps fun b ys e=>(ah fun z=>by rw[z,hf]at e;cases e).trans e;obtain⟨o,es,xC,e1,e2,e3,e4,_,e6⟩:=dd;refine⟨.ref s.heap.objs.size,_,I.laid (t':=nM) (o:=.dT (fO [] ar)) kp (ak _) ⟨Uj,P9,_,km,o,es,xC,e1,e2,e3,e4,e6⟩,rfl,k _ _ (au.upd hf) (.aX (.inl (hb.new hf)) ?_ ?_) fun p' e=>by cases e;exact .upd hf (fun _ _ z=>by cases z)⟩
 ·exact(cI.merge q1 cI.nil).keys
 ·exact(cI.merge q1 cI.nil).vals.same (aV (au.upd hf))
end
end L2
namespace L2
open PySem PySem.Spec PyProof.Rows
section
variable {X:Cx}{K:PySem.W.Frag}{B:bD}{H H':Hp}{A:Ab}{a:Addr}{u u' u0:HO}
theorem nG.ha (w:nG H H' a u u' u0)(hv:B.hd a=false)(h:HA K B A H):HA K B A H':=by
 refine⟨w.hb h.hb,fun i o e=>?_,h.inj,h.lt⟩;obtain⟨c,h1,h2⟩:=h.ob i o e;refine⟨c,h1,?_⟩;have eC:c≠a:=fun z=>by have q:=h2.hd;rw[z,hv]at q;cases q
 have eq:H' c=H c:=by rw[w.to,ah eC]
 cases o with
 |lst ts=>obtain⟨h0,vs,h1,h2⟩:=h2;exact⟨h0,vs,eq.trans h1,w.zE h2⟩
 |ji aC=>obtain⟨h0,vs,h1,h2⟩:=h2;exact⟨h0,vs,eq.trans h1,h2.keys,w.zE h2.vals⟩
 |aX aC=>obtain⟨h0,vs,h1,h2,h3⟩:=h2;exact⟨h0,vs,eq.trans h1,h2,w.zE h3⟩
 |En x=>obtain⟨h0,oe,h1,h2⟩:=h2;exact⟨h0,oe,eq.trans h1,h2⟩
 |tb x q=>obtain⟨h0,h1,h2⟩:=h2;exact⟨h0,h1,eq.trans h2⟩
 |ins c fs=>
  obtain⟨h0,dx,ui,h1,h2,h3,h4,h5⟩:=h2;exact⟨h0,dx,ui,eq.trans h1,w.j4 h2 (fun z=>by cases z) (fun _ _ d z=>by cases z<;>cases d),h3,h4,w.zE h5⟩
theorem s_.ha (h:s_ X B H H')(r:HA K B A H):HA K B A H':=by
 rcases h with s|⟨H1,a,o,u0,hk,s,hv,ha,rfl,h0⟩
 ·exact r.same s
 ·exact nG.ha (u:=u0) ⟨ha,rfl,.inl ⟨rfl,o,rfl⟩,hk⟩ hv (r.same s)
theorem s_.Cn {B2:bD}{H2:Hp}{A2:Ab}(h:s_ X B H H')(hb:HB B H)(g:Grows B H' B2 H2)(r:HA K B2 A2 H2):
  ∃Hu,Grows B H B2 Hu/\HA K B2 A2 Hu/\(∀{B3:bD} {v:V} {t:Tr},Rep K (aN B3 H2) v t->Rep K (aN B3 Hu) v t)/\(∀{σ:St} {ρ:ax},a7 K B2 H2 σ ρ->a7 K B2 Hu σ ρ)/\∀k:Hp->Prop,k Hu->fk X H2 k:=by
 rcases h with s|⟨H1,a,o,u0,hk,s,hv,ha,rfl,h0⟩
 ·exact⟨H2,(Grows.of s).trans hb g,r,fun r=>r,fun r=>r,fun k q=>.inl q⟩
 ·have e1:(aN B (upd H1 a (.ff o u0))).H a=some (.ff o u0):=by rw[cq hv];exact aF
  have e2:=g.fy.h _ _ e1;have e3:H2 a=some (.ff o u0):=aD _ _ e2;have w:nG H2 (upd H2 a u0) a (.ff o u0) u0 u0:=⟨e3,rfl,.inr ⟨rfl,o,rfl⟩,hk⟩;have NY:B2.hd a=false:=by
   cases q:B2.hd a with
   |false=>rfl
   |true=>
    have n:(aN B2 H2).H a=none:=by show(if B2.hd a=true then none else H2 a)=none;rw[ab q]
    rw[n]at e2;cases e2
  refine⟨upd H2 a u0,⟨⟨fun b ob e=>?_,fun b i e=>g.fy.x b i e⟩,fun b ob c e=>?_,g.hd,fun b i e n=>?_⟩,w.ha NY r,fun r=>w.rep r,fun r=>w.wW r,fun k q=>.inr ⟨a,o,u0,hk,e3,h0,q⟩⟩
  ·by_cases z:b=a
   ·subst z;have q:=s _ _ (aD _ _ e);rw[ha]at q;cases q;rw[cq NY];exact aF
   ·have q:(aN B (upd H1 a (.ff o u0))).H b=some ob:=fB e fun e=>by rw[ah z];exact s _ _ e
    exact fB (g.fy.h _ _ q) fun e=>by rw[ah z];exact e
  ·have q:=s _ _ e;by_cases z:b=a
   ·subst z;rw[ha]at q;cases q;exact aF
   ·rw[ah z];exact g.kp b ob c (by rw[ah z];exact q)
  ·have q:=g.nw b i e n;refine s.free ?_
   by_cases z:b=a
   ·subst z;rw[aF]at q;cases q
   ·rw[ah z]at q;exact q
end
def Mz(r:Rz Out):Rz Out:=match r with
 |.ok o A=>.ok o A
 |_=>.bad
theorem EB{xc:Tr->Ab->Prop}{r:Rz Out}{k:Out->Ab->Prop}(q:dg xc (Mz r) k):dg (fun _ _=>False) r k:=by
 cases r with
 |ok o A=>exact q
 |exc c A=>exact(show False from q).elim
 |bad=>exact q
section
variable {X:Cx}{tg iter:Expr}{body:List Stmt}{W:ax->Rs (List Tr)}{T:kn}{G:ax->Ab->Rz Out}{pos:Pos}
theorem Il(hi:QJ X tg iter W)(hg:QG X tg T)(hT:h8 T)(hb:ZB X body G)(hp:PassesOwn (model X.prog X.w) X.A X.env X.xe:=by first|exact gV|exact gU) (hc:X.calm=true:=by rfl)
  (hs:isSet iter=false:=by rfl):ZS X (.For tg iter body [] pos) (fun ρ A=>Mz (jy T G (aw (W ρ) A) ρ)):=
 ⟨(wx hp hc hi.h hg.h hb.h (dA hs)).Hz.weak fun D σ H ⟨B0,H0,B,A,ρ,qS,g,ha,r,n,q⟩=>⟨B,ρ,ha.hb,r,(gg (dg.bind (EB q))).mono fun ts qt J H1 tf gt=>by
   have iO:=tf.ha ha;have xb:HB B H1:=iO.hb;refine⟨fun i m bA H'=>m=ts.length - i/\i<=ts.length/\∃B' A' eG,Grows B H1 B' H'/\HA X.K B' A' H'/\a7 X.K B' H' bA eG/\de eG/\dg (fun _ _=>False) (iN T G (ts.drop i) eG A') (j6 X D B0 H0),⟨_,rfl,bx _,B,A,ρ,.refl,iO,tf.wW r,n,qt⟩,?_⟩
   rintro i m bA H' ⟨rfl,hi,B',A',eG,g',dF,r',n',q'⟩
   by_cases eB:i<ts.length
   ·rw[kJ eB]at q';refine .inr ⟨gt.go i B' H' eB g'.fy dF.hb,fun qW H2=>∃B2 A2 ρ2,Grows B H1 B2 H2/\HA X.K B2 A2 H2/\a7 X.K B2 H2 qW ρ2/\de ρ2/\dg (fun _ _=>False) (iN T G (ts.drop (i+1)) ρ2 A2) (j6 X D B0 H0),
     fun qW H2 x=>⟨ts.length - (i+1),by omega,rfl,eB,x⟩,fun x H2 hx=>?_⟩
    obtain⟨s2,t,et,rt⟩:=gt.xH i B' H' x H2 eB g'.fy dF.hb hx;have Lo:ts[i]=t:=by rw[aH eB]at et;exact Option.some.inj et
    rw[Lo]at q';have g2:Grows B H1 B' H2:=g'.trans xb (.of s2);refine BS hT xb g2 (dF.same s2) (r'.same s2) n' rt (dg.bind q') fun ρ1 wq H3 q1 g3 zU r3 n3 _=>?_
    refine⟨B,H1,B',A',ρ1,xb,g3,zU,r3,n3,((dg.bind q1).imp fun c RL x=>x.elim).mono fun o A4 qo=>?_⟩;cases o with
    |nx ρ2=>exact fun zV B4 H4 g4 mR r4 n4=>⟨B4,A4,ρ2,g4,mR,r4,n4,qo⟩
    |ct ρ2=>exact fun zV B4 H4 g4 mR r4 n4=>⟨B4,A4,ρ2,g4,mR,r4,n4,qo⟩
    |bk ρ2=>
     intro zV B4 H4 g4 mR r4 n4;obtain⟨Hu,gu,MA,ru,rs,ku⟩:=tf.Cn ha.hb g4 mR;exact ku _ (qo zV B4 Hu (g.trans qS gu) MA (rs r4) n4)
    |ret t=>
     intro v B4 H4 g4 mR r4;obtain⟨Hu,gu,MA,ru,rs,ku⟩:=tf.Cn ha.hb g4 mR;exact ku _ (qo v B4 Hu (g.trans qS gu) MA (ru r4))
   ·have e:i=ts.length:=by omega
    subst e;rw[iW]at q';obtain⟨Hu,gu,MA,ru,rs,ku⟩:=tf.Cn ha.hb g' dF;exact .inl ⟨gt.stop B' H' g'.fy,ku _ (q' bA B' Hu (g.trans qS gu) MA (rs r') n')⟩⟩⟩
def fw(T:kn)(G:ax->Ab->Rz Out)(j:Nat):Nat->Nat->ax->Ab->Rz Out
 |0,_,_,_=>.bad
 |m+1,i,ρ,A=>match A[j]? with
  |some (.lst us)=>match us[i]? with
   |none=>.ok (.nx ρ) A
   |some t=>(aw (T t ρ) A).bind fun ρ1 A=>(G ρ1 A).bind fun o A=>match o with
    |.nx ρ2=>fw T G j m (i+1) ρ2 A
    |.ct ρ2=>fw T G j m (i+1) ρ2 A
    |.bk ρ2=>.ok (.nx ρ2) A
    |.ret t=>.ok (.ret t) A
  |_=>.bad
def loopAt(T:kn)(G:ax->Ab->Rz Out)(m:Nat)(r:Rz Tr)(ρ:ax):Rz Out:=r.bind fun t A=>match t with
 |.at j=>match A[j]? with
  |some (.lst _)=>fw T G j m 0 ρ A
  |_=>.bad
 |_=>.bad
inductive RS(X:Cx)(F:ax->Ab->Rz Tr)(σ:St)(H:Hp)(R:It->Hp->Prop):Prop
 |mk (B:bD) (A:Ab) (ρ:ax):HA X.K B A H->a7 X.K B H σ ρ->de ρ->(dg (XE X B H) (F ρ A) fun t A'=>∃j us,t=.at j/\A'[j]?=some (.lst us)/\∀a B' H',Grows B H B' H'->HA X.K B' A' H'->B'.ix a=some j->R (NF X.K a) H')->RS X F σ H R
theorem P_{F:ax->Ab->Rz Tr}(h:PE X iter (tE X F)):PI X tg iter (RS X F):=by
 intro pins s σ H R I ⟨B,A,ρ,ha,r,n,q⟩;refine dq (h pins s σ H (fun x H1=>∃a vs,x=.ref a/\H1 a=some (.lst vs)/\R (NF X.K a) H1) I ⟨B,A,ρ,ha,r,n,q.mono fun t A1 ⟨j,us,et,ej,k⟩ v B1 H1 g1 iO rv=>?_⟩) fun v s1 ⟨x,H1,I1,r1,a,vs,ex,e1,k⟩=>?_
 ·subst et;obtain⟨a,rfl,r8⟩:=rv.sU;obtain⟨hd,vs,h1,h2⟩:=iO.get r8 ej;exact⟨a,vs,rfl,h1,k a B1 H1 g1 iO r8⟩
 ·subst ex;cases r1;obtain⟨aT,rv,pl,hz⟩:=I1.list (g8.of e1);refine gS pl.isList ?_
  refine⟨s1.heap.objs.size,[s1.heap.objs.size],_,_,H1,rfl,I1.kept (t':=s1.toks) fun b o e=>ay _ e,rn a _,⟨_,aQ _ rfl,rfl,rfl⟩,fun b hb=>?_,k⟩;have e:b=s1.heap.objs.size:=by simpa using hb
  subst e;exact I1.uD (ak _) (I1.bC.fresh (ak _))
theorem Im{K:PySem.W.Frag}{B:bD}{A:Ab}{H:Hp}{a:Addr}{j:Nat}{us:List Tr}(ha:HA K B A H)(hx:B.ix a=some j)(ej:A[j]?=some (.lst us)):∃vs,H a=some (.lst vs)/\aI K (aN B H) vs us:=by
 obtain⟨hd,vs,h1,h2⟩:=ha.get hx ej;exact⟨vs,h1,h2⟩
theorem yB(m:Nat){F:ax->Ab->Rz Tr}(hi:ZE X iter F)(hg:QG X tg T)(hT:h8 T)(hb:ZB X body G)(hp:PassesOwn (model X.prog X.w) X.A X.env X.xe:=by first|exact gV|exact gU) (hc:X.calm=true:=by rfl)
  (hs:isSet iter=false:=by rfl):ZS X (.For tg iter body [] pos) (fun ρ A=>loopAt T G m (F ρ A) ρ):=
 ⟨(wx hp hc (P_ hi.h) hg.h hb.h (dA hs)).weak fun D σ H ⟨B0,H0,B,A,ρ,qS,g,ha,r,n,q⟩=>⟨B,A,ρ,ha,r,n,((dg.bind q).imp fun c A' x=>x.grow qS g).mono fun t A1 qt=>by
   have key:∃j us,t=.at j/\A1[j]?=some (.lst us)/\dg (XE X B0 H0) (fw T G j m 0 ρ A1) (j6 X D B0 H0):=by
    split at qt
    ·rename_i j;split at qt
     ·rename_i us ej;exact⟨j,us,rfl,ej,qt⟩
     ·exact qt.elim
    ·exact qt.elim
   obtain⟨j,us,et,ej,qt⟩:=key;refine⟨j,us,et,ej,fun a B1 H1 RT iO FR=>?_⟩;have g1:Grows B0 H0 B1 H1:=g.trans qS RT;have xb:HB B1 H1:=iO.hb;refine⟨fun i k bA H'=>∃B' A' eG,Grows B1 H1 B' H'/\HA X.K B' A' H'/\a7 X.K B' H' bA eG/\de eG/\dg (XE X B0 H0) (fw T G j k i eG A') (j6 X D B0 H0),⟨m,B1,A1,ρ,.refl,iO,r.grow n RT,n,qt⟩,?_⟩
   rintro i k bA H' ⟨B',A',eG,g',dF,r',n',q'⟩
   have zJ:B'.ix a=some j:=g'.fy.x a j FR;cases k with
   |zero=>exact(show False from q').elim
   |succ k=>
    unfold fw at q';split at q'
    ·rename_i mN Uk;obtain⟨vs,e1,rr⟩:=Im dF zJ Uk;have hl:=rr.length;split at q'
     ·rename_i eu;refine .inl ⟨⟨vs,g8.of e1,?_⟩,q' bA B' H' (g1.trans qS g') dF r' n'⟩;rw[hl];exact kN.mp eu
     ·rename_i t eu;obtain⟨v,ev,rv⟩:=rr.get eu;refine .inr ⟨⟨vs,v,g8.of e1,ev⟩,fun qW H2=>∃B2 A2 ρ2,Grows B1 H1 B2 H2/\HA X.K B2 A2 H2/\a7 X.K B2 H2 qW ρ2/\de ρ2/\dg (XE X B0 H0) (fw T G j k (i+1) ρ2 A2) (j6 X D B0 H0),
       fun qW H2 x=>⟨k,iX k,x⟩,fun x H2 hx=>?_⟩
      obtain⟨eh,hx⟩:=hx;subst eh;have ex:v=x:=by have z:=hx vs (g8.of e1);rw[ev]at z;exact Option.some.inj z
      subst ex;refine BS hT xb g' dF r' n' rv (dg.bind q') fun ρ1 wq H3 q1 g3 zU r3 n3 _=>?_
      refine⟨B1,H1,B',A',ρ1,xb,g3,zU,r3,n3,((dg.bind q1).imp fun c RL x=>x.grow qS g1).mono fun o A4 qo=>?_⟩;cases o with
      |nx ρ2=>exact fun zV B4 H4 g4 mR r4 n4=>⟨B4,A4,ρ2,g4,mR,r4,n4,qo⟩
      |ct ρ2=>exact fun zV B4 H4 g4 mR r4 n4=>⟨B4,A4,ρ2,g4,mR,r4,n4,qo⟩
      |bk ρ2=>exact fun zV B4 H4 g4 mR r4 n4=>qo zV B4 H4 (g1.trans qS g4) mR r4 n4
      |ret t=>exact fun v B4 H4 g4 mR r4=>qo v B4 H4 (g1.trans qS g4) mR r4
    ·exact(show False from q').elim⟩⟩
end
end L2
namespace L2
open PySem
def Oc(m:Nat):Nat->Nat->Nat
 |0,i=>i
 |k+1,i=>Oc m k ((i*5+1) % (m+1))
def yC(m:Nat):Bool:=(List.range (m+1)).all fun i=>(List.range (m+1)).all fun j=>(List.range (m+1)).any fun k=>Oc m k i==j
theorem Ul:yC 7=true:=by decide+kernel
theorem Qa:yC 31=true:=by decide+kernel
theorem Co{m i j:Nat}(hm:m=7\/m=31)(hi:i<=m)(hj:j<=m):∃k,k<=m/\Oc m k i=j:=by
 have h:yC m=true:=by rcases hm with rfl|rfl;exact Ul;exact Qa
 unfold yC at h;have h1:=bM.mp (bM.mp h i (cD.mpr (oS hi))) j (cD.mpr (oS hj));obtain⟨k,hk,e⟩:=List.any_eq_true.mp h1;exact⟨k,fL (cD.mp hk),eq_of_beq e⟩
def xn(m:Nat):Nat->Nat×Nat->Nat×Nat
 |0,p=>p
 |k+1,p=>xn m k (SetTable.leap m p.1 p.2)
theorem yD{m:Nat}:∀(a b:Nat) (p:Nat×Nat),xn m (a+b) p=xn m b (xn m a p)
 |0,b,p=>by rw[i5];rfl
 |a+1,b,p=>by rw[Nat.add_right_comm];exact yD a b _
theorem yE{m:Nat}:∀(k:Nat) (p:Nat×Nat),(xn m k p).2=p.2/32 ^k
 |0,p=>by rw[Nat.pow_zero,Nat.div_one];rfl
 |k+1,p=>by
  show(xn m k (SetTable.leap m p.1 p.2)).2=_;rw[yE k];show p.2/32/32 ^k=_;rw[Nat.div_div_eq_div_mul,Nat.pow_succ,Nat.mul_comm]
theorem Cp{m:Nat}:∀(k:Nat) (p:Nat×Nat),p.1<=m->(xn m k p).1<=m
 |0,p,h=>h
 |k+1,p,h=>Cp k _ (fL (f6 _ (i6 m)))
theorem vD{m:Nat}:∀(k i:Nat),xn m k (i,0)=(Oc m k i,0)
 |0,i=>rfl
 |k+1,i=>by
  show xn m k ((i*5+1+0/32) % (m+1),0/32)=_;rw[Nat.zero_div,Nat.add_zero,vD k];rfl
theorem reach{m i j pt:Nat}(hm:m=7\/m=31)(hi:i<=m)(hp:pt<2 ^64)(hj:j<=m):∃k,k<=m+13/\(xn m k (i,pt)).1=j:=by
 have h2:(xn m 13 (i,pt)).2=0:=by
  rw[yE];exact Nat.div_eq_of_lt (bj hp (by decide))
 have h1:=Cp (m:=m) 13 (i,pt) hi;obtain⟨k,hk,e⟩:=Co hm h1 hj;refine⟨13+k,by omega,?_⟩;rw[yD,show xn m 13 (i,pt)=((xn m 13 (i,pt)).1,0) by rw[<-h2],vD];exact e
theorem yF(h:Int):SetTable.bits h<2 ^64:=by
 unfold SetTable.bits;have h1:=o9 h (show(2 ^64:Int)≠0 by decide);have h2:=oP h (show(0:Int)<2 ^64 by decide);omega
theorem ic{m i:Nat}:i<=SetTable.runEnd m i/\SetTable.runEnd m i<=i+9/\(i<=m->SetTable.runEnd m i<=m):=by
 unfold SetTable.runEnd;split<;>exact⟨by omega,by omega,fun _=>by omega⟩
theorem yG{m j:Nat}{owner:Array (Option Nat)}(ho:owner.getD j (some 0)=none):∀(k fuel i pt:Nat),k<fuel->(xn m k (i,pt)).1=j->∃j',SetTable.layClean.free m owner fuel i pt=some j'/\owner.getD j' (some 0)=none
 |k,0,i,pt,h,_=>by omega
 |k,f+1,i,pt,h,e=>by
  unfold SetTable.layClean.free;cases q:(List.range (SetTable.runEnd m i+1 - i)).find? (fun k=>(owner.getD (i+k) (some 0)).isNone)with
  |some c=>
   have hc:=List.find?_some q;refine⟨i+c,rfl,?_⟩;cases z:owner.getD (i+c) (some 0)with
   |none=>rfl
   |some _=>rw[z]at hc;cases hc
  |none=>
   have h0:=List.find?_eq_none.mp q 0 (cD.mpr (by have:=(ic (m:=m) (i:=i)).1;omega));cases k with
   |zero=>
    have e':i=j:=e;subst e';rw[Nat.add_zero,ho]at h0;exact absurd rfl h0
   |succ k=>exact yG ho k f _ _ (by omega) e
structure LC(m:Nat)(L:List Nat)(owner:Array (Option Nat)):Prop where
 sz:owner.size=m+1
 nd:L.Nodup
 le:∀x∈L,x<=m
 at':∀(j c:Nat),owner[j]?=some (some c)↔L[c]?=some j
theorem Qb:∀(n:Nat) (L:List Nat),L.length<n->∃j,j<n/\j∉L
 |0,_,h=>by omega
 |n+1,L,h=>by
  by_cases q:n∈L
  ·obtain⟨j,hj,nj⟩:=Qb n (L.erase n) (by rw[List.length_erase_of_mem q];have:=List.length_pos_of_mem q;omega);exact⟨j,by omega,fun z=>nj ((List.mem_erase_of_ne (by omega)).mpr z)⟩
  ·exact⟨n,by omega,q⟩
theorem getD_none{owner:Array (Option Nat)}{j:Nat}(h:owner.getD j (some 0)=none):owner[j]?=some none:=by
 rw[bV]at h;cases e:owner[j]? with
 |none=>rw[e]at h;cases h
 |some x=>rw[e]at h;exact bH some h
theorem LC.free {m:Nat}{L:List Nat}{owner:Array (Option Nat)}(h:LC m L owner){j:Nat}(hj:j<=m)(n:j∉L):owner.getD j (some 0)=none:=by
 have eB:j<owner.size:=by rw[h.sz];omega
 rw[bV,cK eB];cases e:owner[j]with
 |none=>rfl
 |some c=>
  have:=(h.at' j c).mp (by rw[cK eB,e]);exact absurd (bu this) n
theorem LC.snoc {m:Nat}{L:List Nat}{owner:Array (Option Nat)}(h:LC m L owner){j:Nat}(hj:owner[j]?=some none):LC m (L++[j]) (owner.setIfInBounds j (some L.length)):=by
 have eB:j<owner.size:=(ux.mp hj).1;have nm:j∉L:=fun z=>by
  obtain⟨c,hc⟩:=iP z;have:=(h.at' j c).mpr hc;rw[hj]at this;cases this
 refine⟨by rw[Array.size_setIfInBounds];exact h.sz,?_,?_,fun i c=>?_⟩
 ·rw[iS];refine⟨h.nd,by simp,fun a ha b hb=>?_⟩;rw[cz.mp hb];exact fun z=>nm (z▸ha)
 ·intro x hx;rcases fM.mp hx with hx|hx
  ·exact h.le x hx
  ·rw[cz.mp hx];rw[h.sz]at eB;omega
 ·by_cases z:i=j
  ·subst z;rw[Array.getElem?_setIfInBounds_self_of_lt eB];constructor
   ·intro e;cases e;rw[dH (ak _),fY];rfl
   ·intro e;by_cases hc:c<L.length
    ·rw[bX hc]at e;exact absurd (bu e) nm
    ·have h1:=(cJ.mp e).1;rw[ba,jK]at h1;have:c=L.length:=by omega
     rw[this]
  ·rw[Array.getElem?_setIfInBounds_ne (bS z),h.at'];by_cases hc:c<L.length
   ·rw[bX hc]
   ·rw[dH (by omega),kN.mpr (by omega)];constructor
    ·intro e;cases e
    ·intro e;have h2:=bu e;exact absurd (cz.mp h2) z
def og(m:Nat)(acc:Option (Array (Option Nat)×Nat))(h:Int):Option (Array (Option Nat)×Nat):=do
    let(owner,k)<-acc
    let j<-SetTable.layClean.free m owner (SetTable.turns m) (SetTable.bits h % (m+1)) (SetTable.bits h)
    pure (owner.setIfInBounds j (some k),k+1)
theorem vE{m:Nat}(hm:m=7\/m=31):∀(hs:List Int) (L:List Nat) (owner:Array (Option Nat)),LC m L owner->L.length+hs.length<=m+1->∃L' tX,hs.foldl (og m) (some (owner,L.length))=some (tX,L'.length)/\LC m L' tX/\L'.length=L.length+hs.length
 |[],L,owner,h,_=>⟨L,owner,rfl,h,rfl⟩
 |x::hs,L,owner,h,hl=>by
  rw[bb]at hl;obtain⟨j,hj,nj⟩:=Qb (m+1) L (by omega);have hf:=h.free (fL hj) nj;obtain⟨k,hk,e⟩:=reach (pt:=SetTable.bits x) (i:=SetTable.bits x % (m+1)) hm (fL (f6 _ (i6 m))) (yF x) (fL hj);obtain⟨j',e1,e2⟩:=yG hf k (SetTable.turns m) _ _ (by unfold SetTable.turns;omega) e;have h':=h.snoc (getD_none e2);obtain⟨L',tX,q1,q2,q3⟩:=vE hm hs _ _ h' (by rw[ba,jK];omega);refine⟨L',tX,?_,q2,by rw[q3,ba,jK,bb];omega⟩;rw[List.foldl_cons];have es:og m (some (owner,L.length)) x=some (owner.setIfInBounds j' (some L.length),L.length+1):=by
   unfold og;show(SetTable.layClean.free m owner (SetTable.turns m) (SetTable.bits x % (m+1)) (SetTable.bits x)).bind _=_;rw[e1];rfl
  rw[es];rw[ba]at q1;exact q1
theorem iJ{α:Type}:∀(l:List α),(List.range l.length).filterMap (fun i=>l[i]?)=l
 |[]=>rfl
 |x::l=>by
  rw[bb,List.range_succ_eq_map,jN,List.filterMap_map];show x::(List.range l.length).filterMap (fun i=>l[i]?)=_;rw[iJ l]
theorem EC{m f mv:Nat}{ld pl:Bool}(hm:m=7\/m=31){es:Array (Int×Value)}(hn:es.size<=m):∃t' order,SetTable.laid m f mv ld pl (es.map (·.1))=some (t',order)/\t'.mask=m/\t'.dummies=#[]/\t'.led=ld/\t'.plain=pl/\ko t'.place/\(∀x∈t'.place.toList,x<=m)/\t'.place.size=es.size/\(order.filterMap (es[·]?)).toList.Perm es.toList:=by
 have h0:LC m [] (Array.replicate (m+1) none):=⟨by simp,fU,(fun x hx=>by cases hx),fun j c=>by
  constructor
  ·intro e;rw[Array.getElem?_replicate]at e;split at e<;>cases e
  ·intro e;simp at e⟩
 have Io:(es.map (·.1)).toList.length=es.size:=by simp
 obtain⟨L,owner,q1,q2,q3⟩:=vE hm (es.map (·.1)).toList [] _ h0 (by rw[Io];show 0+es.size<=_;omega);rw[Io]at q3;have q3:L.length=es.size:=q3.trans (i5 _);have ec:SetTable.layClean m (es.map (·.1))=some owner:=by
  unfold SetTable.layClean;rw[<-Array.foldl_toList];show Option.map _ ((es.map (·.1)).toList.foldl (og m) (some (Array.replicate (m+1) none,([]:List Nat).length)))=_;rw[q1];rfl
 have Od:∀j c,owner.getD j none=some c↔L[c]?=some j:=fun j c=>by
  rw[<-q2.at',bV];cases e:owner[j]? with
  |none=>simp
  |some x=>simp
 have MB:((List.range (m+1)).filterMap fun j=>(owner.getD j none).map (j,·)).Pairwise fun a b=>a.1<b.1:=by
  refine List.Pairwise.filterMap _ (fun a a' Qc b hb b' jQ=>?_) List.pairwise_lt_range;cases e:owner.getD a none with
  |none=>rw[e]at hb;cases hb
  |some c=>
   cases e':owner.getD a' none with
   |none=>rw[e']at jQ;cases jQ
   |some c'=>rw[e]at hb;rw[e']at jQ;cases hb;cases jQ;exact Qc
 have MC:((List.range (m+1)).filterMap fun j=>(owner.getD j none).map (j,·)).Pairwise fun a b=>a.2≠b.2:=by
  refine List.Pairwise.filterMap _ (fun a a' Qc b hb b' jQ=>?_) List.pairwise_lt_range;cases e:owner.getD a none with
  |none=>rw[e]at hb;cases hb
  |some c=>
   cases e':owner.getD a' none with
   |none=>rw[e']at jQ;cases jQ
   |some c'=>
    rw[e]at hb;rw[e']at jQ;cases hb;cases jQ;intro z;have z:c=c':=z;subst z;have h1:=(Od _ _).mp e;have h2:=(Od _ _).mp e';rw[h1]at h2;cases h2;exact absurd Qc (ck _)
 have mem:∀p:Nat×Nat,p∈((List.range (m+1)).filterMap fun j=>(owner.getD j none).map (j,·))↔L[p.2]?=some p.1:=fun p=>by
  rw[iR];constructor
  ·rintro ⟨j,_,e⟩
   cases q:owner.getD j none with
   |none=>rw[q]at e;cases e
   |some c=>rw[q]at e;cases e;exact(Od _ _).mp q
  ·intro e;refine⟨p.1,cD.mpr (oS (q2.le _ (bu e))),?_⟩;rw[(Od _ _).mpr e];rfl
 have FT:(((List.range (m+1)).filterMap fun j=>(owner.getD j none).map (j,·)).map (·.2)).Perm (List.range es.size):=by
  refine(ou ?_ oZ).mpr fun c=>?_
  ·exact List.Pairwise.map _ (fun a b h=>h) MC
  ·rw[a9,cD];constructor
   ·rintro ⟨p,hp,rfl⟩
    have:=(cJ.mp ((mem p).mp hp)).1;omega
   ·intro hc;exact⟨(L[c]'(by omega),c),(mem _).mpr (aH (by omega)),rfl⟩
 refine⟨_,_,by unfold SetTable.laid;rw[ec];rfl,rfl,rfl,rfl,rfl,?_,?_,?_,?_⟩
 ·show List.Pairwise _ ((List.map _ _).toArray).toList;exact List.Pairwise.map _ (fun a b h=>h) MB
 ·intro x hx;have zJ:x∈((List.range (m+1)).filterMap fun j=>(owner.getD j none).map (j,·)).map (·.1):=by simpa using hx
  obtain⟨p,hp,rfl⟩:=a9.mp zJ;exact q2.le _ (bu ((mem p).mp hp))
 ·have:=FT.length_eq;rw[ai,fK]at this;show((List.map _ _).toArray).size=_;rw[a6,ai];exact this
 ·rw[Array.toList_filterMap];have:=FT.filterMap (fun i=>es[i]?);refine(show List.Perm (List.filterMap _ _) _ from this).trans ?_
  have e:=iJ es.toList;rw[bw]at e;have e2:(fun i:Nat=>es.toList[i]?)=fun i=>es[i]? :=funext fun i=>by rw[cy]
  rw[e2]at e;rw[e]
section
variable {t:SetTable}
def eE(t:SetTable):Nat->SetTable.Probe->SetTable.Probe
 |0,p=>p
 |k+1,p=>eE t k (t.advance p)
theorem qe:∀(a b:Nat) (p:SetTable.Probe),eE t (a+b) p=eE t b (eE t a p)
 |0,b,p=>by rw[i5];rfl
 |a+1,b,p=>by rw[Nat.add_right_comm];exact qe a b _
theorem tY:∀(c:Nat) (p:SetTable.Probe),p.more=c->(eE t (c+1) p).j=(SetTable.leap t.mask p.i p.perturb).1/\(eE t (c+1) p).i=(SetTable.leap t.mask p.i p.perturb).1/\(eE t (c+1) p).perturb=(SetTable.leap t.mask p.i p.perturb).2/\(eE t (c+1) p).more<=9
 |0,p,h=>by
  show(t.advance p).j=_/\(t.advance p).i=_/\(t.advance p).perturb=_/\(t.advance p).more<=9;unfold SetTable.advance;rw[ae (by omega)];refine⟨rfl,rfl,rfl,?_⟩;show SetTable.runEnd t.mask _ - _<=9;have:=(ic (m:=t.mask) (i:=(SetTable.leap t.mask p.i p.perturb).1)).2.1;omega
 |c+1,p,h=>by
  have e:t.advance p={p with j:=p.j+1,more:=p.more - 1}:=by unfold SetTable.advance;rw[ab (by omega)]
  have:=tY c {p with j:=p.j+1,more:=p.more - 1} (by show p.more - 1=c;omega);show(eE t (c+1) (t.advance p)).j=_/\(eE t (c+1) (t.advance p)).i=_/\(eE t (c+1) (t.advance p)).perturb=_/\(eE t (c+1) (t.advance p)).more<=9;rw[e];exact this
theorem sk{j0:Nat}:∀(k:Nat) (p:SetTable.Probe),p.more<=9->(xn t.mask (k+1) (p.i,p.perturb)).1=j0->∃N,N<=10*(k+1)/\(eE t N p).j=j0
 |0,p,h,e=>⟨p.more+1,by omega,(tY p.more p rfl).1.trans e⟩
 |k+1,p,h,e=>by
  obtain⟨h1,h2,h3,h4⟩:=tY (t:=t) p.more p rfl;obtain⟨N,hN,q⟩:=sk (j0:=j0) k (eE t (p.more+1) p) h4 (by rw[h2,h3];exact e);exact⟨p.more+1+N,by omega,by rw[qe];exact q⟩
theorem vF(hm:t.mask=7\/t.mask=31)(h:Int){j0:Nat}(hj:j0<=t.mask):∃N,N<=10*(t.mask+13)/\(eE t N (t.probeStart h)).j=j0:=by
 obtain⟨k,hk,e⟩:=reach (pt:=SetTable.bits h) (i:=SetTable.bits h % (t.mask+1)) hm (fL (f6 _ (i6 _))) (yF h) hj;cases k with
 |zero=>exact⟨0,bx _,e⟩
 |succ k=>
  obtain⟨N,hN,q⟩:=sk k (t.probeStart h) (by
   show SetTable.runEnd t.mask _ - _<=9;have:=(ic (m:=t.mask) (i:=SetTable.bits h % (t.mask+1))).2.1;omega) e
  exact⟨N,by omega,q⟩
def PB(t:SetTable)(p:SetTable.Probe):Prop:=p.j+p.more<=t.mask/\p.dummy=none
theorem PB.RU {p:SetTable.Probe}(h:PB t p):PB t (t.advance p):=by
 unfold SetTable.advance;split
 ·exact⟨by have:=h.1;show p.j+1+(p.more - 1)<=_;omega,h.2⟩
 ·refine⟨?_,h.2⟩;show(SetTable.leap t.mask p.i p.perturb).1+(SetTable.runEnd t.mask (SetTable.leap t.mask p.i p.perturb).1 - (SetTable.leap t.mask p.i p.perturb).1)<=_;have hl:(SetTable.leap t.mask p.i p.perturb).1<=t.mask:=fL (f6 _ (i6 _));have:=ic (m:=t.mask) (i:=(SetTable.leap t.mask p.i p.perturb).1);have:=this.2.2 hl;omega
theorem PB.start (h:Int):PB t (t.probeStart h):=by
 refine⟨?_,rfl⟩;show SetTable.bits h % (t.mask+1)+(SetTable.runEnd t.mask _ - SetTable.bits h % (t.mask+1))<=_;have hl:SetTable.bits h % (t.mask+1)<=t.mask:=fL (f6 _ (i6 _));have:=ic (m:=t.mask) (i:=SetTable.bits h % (t.mask+1));have:=this.2.2 hl;omega
theorem ma(hd:t.dummies=#[]) (j:Nat):t.slot j=.empty\/∃i,t.slot j=.live i/\t.place[i]?=some j:=by
 unfold SetTable.slot;dsimp only;split
 ·rename_i e;exact .inr ⟨_,rfl,eq_of_beq e⟩
 ·rw[hd,ae (by unfold SetTable.has;simp)];exact .inl rfl
theorem xo(hd:t.dummies=#[]) {j:Nat} (h:j∉t.place.toList):t.slot j=.empty:=by
 rcases ma hd j with e|⟨i,_,e⟩
 ·exact e
 ·exact absurd (by rw[<-cy]at e;exact bu e) h
theorem yH(hd:t.dummies=#[]) {ha:Nat->Int} {h:Int}:∀(N fuel:Nat) (p:SetTable.Probe),N<fuel->PB t p->t.slot (eE t N p).j=.empty->
  (∃j,SetTable.probe.go t ha h fuel p=some (.empty j none)/\t.slot j=.empty/\j<=t.mask)\/∃j i n,SetTable.probe.go t ha h fuel p=some (.candidate j i (eE t (n+1) p))/\n<N/\t.slot j=.live i/\t.place[i]?=some j/\ha i=h
 |N,0,p,hf,_,_=>by omega
 |N,f+1,p,hf,pb,e=>by
  unfold SetTable.probe.go;rcases ma hd p.j with q|⟨i,q,qi⟩
  ·rw[q];refine .inl ⟨p.j,by rw[pb.2],q,?_⟩;have:=pb.1;omega
  ·rw[q];cases N with
   |zero=>
    rw[show(eE t 0 p).j=p.j from rfl,q]at e;cases e
   |succ N=>
    show(∃j,(if(ha i==h)=true then _ else _)=_/\_)\/∃j i' n,(if(ha i==h)=true then _ else _)=_/\_;by_cases z:(ha i==h)=true
    ·rw[ab z];exact .inr ⟨p.j,i,0,rfl,by omega,q,qi,eq_of_beq z⟩
    ·rw[ae z];rcases yH hd N f (t.advance p) (by omega) pb.RU e with⟨j,a1,a2,a3⟩|⟨j,i',n,a1,a2,a3⟩
     ·exact .inl ⟨j,a1,a2,a3⟩
     ·exact .inr ⟨j,i',n+1,a1,by omega,a3⟩
end
end L2
namespace L2
open PySem PySem.Spec PySem.Calls PyProof.Rows
def md(w:World)(p:Int×Value):Int×Value:=p
def nR(w:World)(h:Heap)(a:Addr)(ss:List Value):Prop:=
 ∃(o:Obj) (es:Array (Int×Value)) (ep:Nat) (t:SetTable) (l:List (Int×Value)),h.get? a=some o/\o.ExactSet/\o.data=.set es ep t/\es.toList=l.map (md w)/\(l.map (·.2)).Perm ss/\True/\es.size<scanBound/\
  t.fits es.size=true/\(uj w=true\/t.led=true)/\ko t.place
theorem nR.typeIs {w:World}{s:Shared}{a:Addr}{ss:List Value}(h:nR w s.heap a ss):s.TypeIs (.ref a) "set":=by
 obtain⟨o,es,ep,t,l,ho,hex,_⟩:=h;exact⟨o,ho,hex.1⟩
theorem nR.keep {w:World}{h h':Heap}{a:Addr}{ss:List Value}(x:nR w h a ss)(k:∀o,h.get? a=some o->h'.get? a=some o):nR w h' a ss:=by
 obtain⟨o,es,ep,t,l,ho,r⟩:=x;exact⟨o,es,ep,t,l,k o ho,r⟩
theorem qf{w:World}(l:List (Int×Value)):l.map (md w)=l:=List.map_id' l
theorem xp{w:World}{l es:List (Int×Value)}(hp:es.Perm (l.map (md w))):∃l':List (Int×Value),es=l'.map (md w)/\l'.Perm l:=⟨es,(qf es).symm,by rw[qf]at hp;exact hp⟩
def rg(p:Int×Value):Value:=p.2
def gJ(l:List (Int×Value))(i:Nat)(v:Value):Prop:=(l[i]?).map rg=some v
section
variable {prog:Program}{w:World}{A:Around}{E:Value->Shared->Prop}{s:Shared}{I a:Addr}{o:Obj}{es:Array (Int×Value)}{ep:Nat}{t:SetTable}
theorem vG{l:List (Int×Value)}(he:es.toList=l.map (md w))(p:Nat):es[p]?=(l[p]?).map (md w):=by
 rw[<-cy,he,aS]
theorem xq(hb:uj w=true)(hd:o.data=.set es ep t)(hf:t.fits es.size=true){l:List (Int×Value)}(he:(pickOrder (w.params.setOrder a ep) es).toList=l.map (md w))(hl:l.length=es.size)(eC:I≠a)(A':Around)(hh:A'.handled=none):
  Walks prog w A' I [I,a] [I] l.length (gJ l) (fun i h=>h.get? I=some (nr (rawInt 0) i a es.size ep)/\h.get? a=some o) where
 sub:=fun b hb=>by simp at hb;simp[hb]
 frame:=fun i h h' st k=>⟨k I (by simp) _ st.1,k a (by simp) _ st.2⟩
 item:=fun i s Q E hi st hQ=>by
  have e1:(pickOrder (w.params.setOrder a ep) es)[i]?=(l[i]?).map (md w):=by rw[<-cy,he,aS]
  rw[aH hi]at e1;refine tm (slot:=0) (r:=some ((md w l[i]).2,0)) hh st.1 st.2 hd hf (fun B E' Q' q=>rR hb st.2 hd hf (by rw[e1];exact q)) (fun x nx e h' g sb=>?_) fun e=>nomatch e;cases e;exact hQ _ h' s.toks (by unfold gJ;rw[aH hi];rfl) ⟨g,(sb.2 a (bS eC)).trans st.2⟩ fun b o hb e=>sb.extBut b o (fun z=>hb (by simp[z])) e
 done:=fun s Q E st hQ=>by
  have e1:(pickOrder (w.params.setOrder a ep) es)[l.length]?=none:=by
   rw[<-cy,he,aS,kN.mpr (ak _)];rfl
  refine tm (slot:=0) (r:=none) hh st.1 st.2 hd hf (fun B E' Q' q=>rR hb st.2 hd hf (by rw[e1];exact q)) (fun x nx e=>nomatch e) fun _ h' eb=>?_
  exact hQ h' s.toks fun b o hb e=>eb b o (fun z=>hb (by simp[z])) e
 self:=fun i s Q E st hQ=>tw st.1 hQ
theorem Ag(hb:uj w=false)(hl:t.led=true)(hz:t.plain=true\/es.size<=1)(hr:ko t.place)(hd:o.data=.set es ep t)(hf:t.fits es.size=true){l:List (Int×Value)}(he:es.toList=l.map (md w))(eC:I≠a)(A':Around)(hh:A'.handled=none):
  Walks prog w A' I [I,a] [I] l.length (gJ l) (fun i h=>h.get? I=some (nr (rawInt (slotAt t i:Nat)) i a es.size ep)/\h.get? a=some o):=by
 have hlen:l.length=es.size:=by have q:=bH List.length he;rw[bw,ai]at q;exact q.symm
 have JQ:t.place.size=es.size:=by
  simp only[SetTable.fits,aM,g6]at hf;exact hf.1
 exact{
  sub:=fun b hb=>by simp at hb;simp[hb]
  frame:=fun i h h' st k=>⟨k I (by simp) _ st.1,k a (by simp) _ st.2⟩
  item:=fun i s Q E hi st hQ=>by
   have e0:es[i]?=some (md w l[i]):=by rw[vG he,aH hi];rfl
   have e1:t.place[i]?=some (t.place.getD i 0):=by rw[bV,cK (by omega)];rfl
   refine tm (slot:=slotAt t i) (r:=some ((md w l[i]).2,t.place.getD i 0+1)) hh st.1 st.2 hd hf (fun B E' Q' q=>u9 hb hl hz st.2 hd hf (by rw[pV hr (by omega),e0,e1];exact q)) (fun x nx e h' g sb=>?_) fun e=>nomatch e;cases e;exact hQ _ h' s.toks (by unfold gJ;rw[aH hi];rfl) ⟨g,(sb.2 a (bS eC)).trans st.2⟩ fun b o hb e=>sb.extBut b o (fun z=>hb (by simp[z])) e
  done:=fun s Q E st hQ=>by
   have e1:es[l.length]?=none:=kL.mpr (by omega)
   refine tm (slot:=slotAt t l.length) (r:=none) hh st.1 st.2 hd hf (fun B E' Q' q=>u9 hb hl hz st.2 hd hf (by rw[pV hr (by omega),e1];exact q)) (fun x nx e=>nomatch e) fun _ h' eb=>?_
   exact hQ h' s.toks fun b o hb e=>eb b o (fun z=>hb (by simp[z])) e
  self:=fun i s Q E st hQ=>tw st.1 hQ}
theorem vH{tp:Addr}{ot:Obj}{ps:List Nat}{m:Nat}(hd:o.data=.set es ep t)(hf:t.fits es.size=true)(NZ:ot.data=.seq (ps.map fun i=>rawInt (i:Nat)).toArray m){l l':List (Int×Value)}(he:es.toList=l.map (md w))(Um:∀i:Nat,l'[i]?=(ps[i]?).bind fun p=>l[p]?)(JQ:∀p∈ps,p<l.length)
  (hlen:l'.length=ps.length) (eC:I≠a) (Uo:I≠tp) (A':Around) (hh:A'.handled=none):
  Walks prog w A' I [I,a,tp] [I] l'.length (gJ l') (fun i h=>h.get? I=some (nr (.ref tp) i a es.size ep)/\h.get? a=some o/\h.get? tp=some ot) where
 sub:=fun b hb=>by simp at hb;simp[hb]
 frame:=fun i h h' st k=>⟨k I (by simp) _ st.1,k a (by simp) _ st.2.1,k tp (by simp) _ st.2.2⟩
 item:=fun i s Q E hi st hQ=>by
  have Qd:i<ps.length:=by omega
  have nE:(ps.map fun i=>rawInt (i:Nat)).toArray[i]?=some (rawInt (ps[i]:Nat)):=by simp[Qd]
  have hp:ps[i]<l.length:=JQ _ (gQ Qd);have e1:es[ps[i]]?=some (md w l[ps[i]]):=by rw[vG he,aH hp];rfl
  have e2:l'[i]?=some l[ps[i]]:=by rw[Um,aH Qd];exact aH hp
  refine BC hh st.1 st.2.1 hd hf st.2.2 NZ (fun p e h1 h2 h' g sb=>?_) (fun z=>by rw[nE]at z;cases z) (fun v hv=>?_)
  ·rw[nE]at h1;have Qe:((ps[i]:Nat):Int)=(p:Int):=by
    have q:=Option.some.inj h1;injection q
   have Qg:ps[i]=p:=by omega
   subst Qg;rw[e1]at h2;cases h2;exact hQ _ h' s.toks (by unfold gJ;rw[e2];rfl) ⟨g,(sb.2 a (bS eC)).trans st.2.1,(sb.2 tp (bS Uo)).trans st.2.2⟩ fun b o hb e=>sb.extBut b o (fun z=>hb (by simp[z])) e
  ·rw[nE]at hv;cases hv;exact⟨_,_,rfl,e1⟩
 done:=fun s Q E st hQ=>by
  have nE:(ps.map fun i=>rawInt (i:Nat)).toArray[l'.length]?=none:=by simp[hlen]
  refine BC hh st.1 st.2.1 hd hf st.2.2 NZ (fun p e h1=>by rw[nE]at h1;cases h1) (fun _ h' eb=>?_) (fun v hv=>by rw[nE]at hv;cases hv);exact hQ h' s.toks fun b o hb e=>eb b o (fun z=>hb (by simp[z])) e
 self:=fun i s Q E st hQ=>tw st.1 hQ
theorem Ah{ss:List Value}{Q:Value->Shared->Prop}(hS:nR w s.heap a ss)
  (hQ:∀(h':Heap) (d:Drawn) (I:Addr) (fp:List Addr) (St:Nat->Heap->Prop) (l:List (Int×Value)),(l.map (·.2)).Perm ss->(∀b o,s.heap.get? b=some o->h'.get? b=some o)->s.heap.objs.size<=I->(∀b∈fp,b=a\/s.heap.objs.size<=b)->
   (∀A':Around,A'.handled=none->Walks prog w A' I fp [I] l.length (gJ l) St)->St 0 h'->Q (.ref I) {s with heap:=h',drawn:=d}):wpAny (model prog w) A (pyIter (.ref a)) Q E s:=by
 obtain⟨o,es,ep,t,l,ho,hex,hd,he,hp,hn,hb,hf,hl,nE⟩:=id hS;have eB:a<s.heap.objs.size:=aA ho;have hlen:l.length=es.size:=by have q:=bH List.length he;rw[bw,ai]at q;exact q.symm
 refine ph hS.typeIs PySem.F.slot_set_iter (cT PySem.F.slot_set_iter hS.typeIs nH ?_ (PySem.F.args_set_iter_1 _));unfold Builtin.«frozenset.__iter__»;refine aa (m:=Builtin.Frozenset.slot0 "__iter__" _) (af ?_);refine aa ?_
 unfold Builtin.Frozenset.sizeOf;refine aa (gG ho hd hf (af ?_));refine aa ?_
 unfold setDrawn;refine aa (dP ho hd hf ?_);dsimp only;refine aa (jS (af ?_));refine gx (fun RV=>?_) (fun RV=>?_)
 ·
  refine aa (j5 _ _ _ _ (fK ..) fun ps d JQ=>?_);have hz:((ps.map fun(i:Nat)=>rawInt i)).length<=sizeLine:=by
   rw[ai,JQ.length_eq,fK];exact fits_of_scanBound hb
  refine aa (lK (hsz:=hz) ?_);have FH:(s.heap.push {cls:=.type "tuple",data:=.seq (ps.map fun(i:Nat)=>rawInt i).toArray}).get? a=some o:=ay _ ho;have Hb:(s.heap.push {cls:=.type "tuple",data:=.seq (ps.map fun(i:Nat)=>rawInt i).toArray}).objs.size=s.heap.objs.size+1:=eZ ..;refine aa (wpAny_setEpoch_of FH hd hf ?_);refine aa (dO ?_);refine af ⟨_,rfl,"set_iterator",_,⟨_,aQ _ rfl,rfl⟩,bT.lookup,?_⟩;have MD:∀p∈ps,p<l.length:=fun p hm=>by
   have q:=cD.mp (JQ.mem_iff.mp hm);omega
  have so:(ps.map fun p=>l.getD p (0,Value.none)).Perm l:=by
   have q:=JQ.map fun p=>l.getD p (0,Value.none);have e:(List.range es.size).map (fun p=>l.getD p (0,Value.none))=l:=by
    rw[<-hlen];refine List.ext_getElem (by simp) fun i h1 h2=>?_
    simp[h2]
   rw[e]at q;exact q
  refine hQ _ d _ [_,a,s.heap.objs.size] _ (ps.map fun p=>l.getD p (0,Value.none)) ((so.map _).trans hp) (fun b o e=>ay _ (ay _ e)) (by rw[Hb];exact fZ _) (fun b hm=>?_)
   (fun A' hA=>vH (ot:={cls:=.type "tuple",data:=.seq (ps.map fun(i:Nat)=>rawInt i).toArray}) (ps:=ps) hd hf rfl he (fun i=>?_) MD (ai ..) ?_ ?_ A' hA)
   ⟨aQ _ rfl,ay _ FH,ay _ (aQ _ rfl)⟩
  ·simp only[aO,dQ,cN]at hm;rcases hm with rfl|rfl|rfl
   ·right;rw[Hb];exact fZ _
   ·left;rfl
   ·right;exact ak _
  ·rw[aS];cases e:ps[i]? with
   |none=>rfl
   |some p=>
    have nE:=MD p (bu e);show some (l.getD p (0,Value.none))=l[p]?
    rw[bt,aH nE];rfl
  ·rw[Hb];exact bY (gO eB)
  ·rw[Hb];exact Nat.succ_ne_self _
 ·refine aa (af ?_);refine aa (wpAny_setEpoch_of ho hd hf ?_);refine aa (dO ?_);refine af ⟨_,rfl,"set_iterator",_,⟨_,aQ _ rfl,rfl⟩,bT.lookup,?_⟩;have Oe:∀b∈[s.heap.objs.size,a],b=a\/s.heap.objs.size<=b:=fun b hm=>by
   simp only[aO,dQ,cN]at hm;rcases hm with rfl|rfl
   ·exact .inr (ak _)
   ·exact .inl rfl
  have eC:s.heap.objs.size≠a:=bY eB;cases Of:uj w with
  |true=>
   have Qe:=zH (w.params.setOrder a ep) es;rw[he]at Qe;obtain⟨l2,e2,p2⟩:=xp Qe;exact hQ _ s.drawn _ [_,a] _ l2 ((p2.map _).trans hp) (fun b o e=>ay _ e) (ak _) Oe (fun A' hA=>xq Of hd hf e2 (p2.length_eq.trans hlen) eC A' hA) ⟨aQ _ rfl,ay _ ho⟩
  |false=>
   have Up:t.plain=true\/es.size<=1:=by
    cases hp:t.plain with
    |true=>exact .inl rfl
    |false=>
     refine .inr (oY fun hz=>RV ?_);show(!uj w&&(!t.plain&&decide (es.size>1)))=true;rw[Of,hp,bF hz]
     rfl
   have Qh:t.led=true:=hl.resolve_left (by rw[Of];exact cj);exact hQ _ s.drawn _ [_,a] _ l hp (fun b o e=>ay _ e) (ak _) Oe (fun A' hA=>Ag Of Qh Up nE hd hf he eC A' hA) ⟨aQ _ rfl,ay _ ho⟩
variable {ss:List Value}
theorem vI{R:Result->Shared->Prop}(hh:A.handled=none)(hS:nR w s.heap a ss)(L:Addr)(RW:L≠a)(res:Value)(hL:s.heap.get? L=some {cls:=.type "list",data:=.seq #[] 0})
  (hR:∀h' tk d gp c' l,(l.map (·.2)).Perm ss->(∀b o,b≠L->s.heap.get? b=some o->h'.get? b=some o)->h'.get? L=some {cls:=.type "list",dict:=none,data:=.seq gp c',slots:=#[]}->ItemsOf (gJ l) gp l.length->
   R (.ok (.ret res)) {s with heap:=h',toks:=tk,drawn:=d}) (hn:ss.length<=sizeLine):
  wpAny (model prog w) A.in1 (Builtin.List.listExtendWith (.ref L) (.ref a) res) (fun fin s'=>match fin with|.done f=>R (.ok f) s'|.again c'=>c'.quiet=true/\codeAny (model prog w) A c' R s') (fun e s'=>R (.error e) s') s:=by
 have ME:L<s.heap.objs.size:=aA hL;unfold Builtin.List.listExtendWith;refine aa (gY (T:="set") hS.typeIs ?_);have h1:Builtin.List.listSameRef (.ref L) (.ref a)=false:=by simp[Builtin.List.listSameRef,RW]
 have h2:(Value.type "set"==Value.type "list")=false:=by decide
 have h3:(Value.type "set"==Value.type "tuple")=false:=by decide
 simp only[h1,h2,h3,lE,bK,bp];refine aa (Ah hS fun cO d I fp St l hp hk hI Oe W st=>?_);have hlen:l.length=ss.length:=by have q:=hp.length_eq;rw[ai]at q;exact q
 have Qi:Shared.TypeIs {s with heap:=cO,drawn:=d} (.ref a) "set":=by
  obtain⟨o,ho,hc⟩:=hS.typeIs;exact⟨o,hk _ _ ho,hc⟩
 have RX:L∉fp:=fun m=>by
  rcases Oe L m with e|e
  ·exact RW e
  ·exact absurd (bj ME e) (ck _)
 have VV:L≠I:=aP (bj ME hI);have LQ:=hk _ _ hL;have key:∀(h:Heap) (c₁ tk:Nat),St 0 h->(∀b o,b≠L->s.heap.get? b=some o->h.get? b=some o)->h.get? L=some {cls:=.type "list",data:=.seq #[] c₁}->
   codeAny (model prog w) A (.builtin "list.extend.loop" ⟨[.ref L,.ref I,res],[]⟩) R {s with heap:=h,toks:=tk,drawn:=d}:=by
  intro h c₁ tk cS Og MF;refine codeAny_extend_loopS (W A.in1 hh).toS (by omega) L RX res l.length 0 _ #[] c₁ rfl (bx _) cS MF (ItemsOf.nil _) fun s' gp c' hm xr mY=>?_
  rw[Moved.eq_with hm];refine hR s'.heap s'.toks d gp c' l hp (fun b o hb e=>hm.heap b o (fun Ip=>?_) (Og b o hb e)) xr mY;rcases aO.mp Ip with e'|Ip
  ·exact hb e'
  ·exact absurd (bj (aA e) hI) (by rw[cz.mp Ip];exact ck _)
 refine aa (cn (BE Qi ?_));refine gx (fun _=>?_) (fun _=>af ⟨cZ PySem.F.plain_extend_loop _,key _ 0 _ st (fun b o _ e=>hk b o e) LQ⟩);refine aa (dR ?_);refine aa ?_
 show wpAny _ _ (updateSeq L (·.push .none)>>=fun _=>updateSeq L (·.pop)) _ _ _;refine aa (i3 LQ rfl ?_);have FU:=jM (Obj.mapSeq (·.push Value.none)) LQ rfl;refine i3 (hz:=by seq_fits) FU rfl ?_
 have MG:=jM (Obj.mapSeq (·.pop)) FU rfl;refine af ⟨cZ PySem.F.plain_extend_loop _,key _ _ _ ?_ (fun b o hb e=>?_) MG⟩
 ·refine(W A.in1 hh).frame 0 _ _ st fun b hb o e=>?_
  have RY:b≠L:=fun z=>RX (z▸hb);exact(gv _ _ (bS RY)).trans ((gv _ _ (bS RY)).trans e)
 ·exact(gv _ _ (bS hb)).trans ((gv _ _ (bS hb)).trans (hk b o e))
theorem t4{R:List Value->Shared->Prop}(hh:A.handled=none)(hS:nR w s.heap a ss)(hn:ss.length<=sizeLine)
  (h:∀(h':Heap) (tk:Nat) (d:Drawn) (l:List (Int×Value)),(l.map (·.2)).Perm ss->(∀b o,s.heap.get? b=some o->h'.get? b=some o)->s.heap.objs.size<=h'.objs.size->R (l.map rg) {s with heap:=h',toks:=tk,drawn:=d}):wpAny (model prog w) A (collect (.ref a)) R E s:=by
 have eB:a<s.heap.objs.size:=by obtain⟨o,ho,_⟩:=hS.typeIs;exact aA ho
 have items:∀(l:List (Int×Value)) (acc:Array Value),ItemsOf (gJ l) acc l.length->acc.toList=l.map rg:=fun l acc hi=>by
  refine oU fun i=>?_
  rw[aS,cy];cases e:acc[i]? with
  |none=>
   have h1:acc.size<=i:=kL.mp e;rw[hi.1]at h1;rw[kN.mpr h1];rfl
  |some v=>exact(hi.2 i v e).symm
 unfold collect;refine aa (wpAny_runValue (dv entry_proto_collect' ?_));rw[dJ uv _];show wpAny _ A.in1 (newList []>>=fun l=>again (.builtin "list.__iadd__" ⟨[l,.ref a],[]⟩)) _ _ s;refine aa (dO ?_);refine af ⟨cZ kR _,dv entry_list_iadd' ?_⟩;rw[dJ kR _];have hL:(s.heap.push {cls:=.type "list",data:=.seq ([]:List Value).toArray}).get? s.heap.objs.size=some {cls:=.type "list",data:=.seq #[]}:=aQ _ rfl;show wpAny _ A.in1 (Builtin.List.listExtendWith (.ref s.heap.objs.size) (.ref a) (.ref s.heap.objs.size)) _ _ _;have key:=vI (prog:=prog) (A:=A) (s:={s with heap:=s.heap.push {cls:=.type "list",data:=.seq ([]:List Value).toArray}}) (ss:=ss)
  (R:=fun(q:Result) (s':Shared)=>∃(h':Heap) (tk:Nat) (d:Drawn) (gp:Array Value) (c':Nat) (l:List (Int×Value)),q=.ok (.ret (.ref s.heap.objs.size))/\s'={s with heap:=h',toks:=tk,drawn:=d}/\
   (l.map (·.2)).Perm ss/\(∀b o,s.heap.get? b=some o->h'.get? b=some o)/\h'.get? s.heap.objs.size=some {cls:=.type "list",dict:=none,data:=.seq gp c',slots:=#[]}/\ItemsOf (gJ l) gp l.length)
  hh (hS.keep fun o e=>ay _ e) s.heap.objs.size (bY eB) (.ref s.heap.objs.size) hL
  (fun h' tk d gp c' l hp hk xr mY=>⟨h',tk,d,gp,c',l,rfl,rfl,hp,fun b o e=>hk b o (aP (aA e)) (ay _ e),xr,mY⟩) hn
 refine c0 key (fun fin s' x=>?_) fun e s' x=>?_
 ·cases fin with
  |done f=>
   obtain⟨h',tk,d,gp,c',l,e,rfl,hp,hk,xr,mY⟩:=x;cases e;show wpAny _ A (load s.heap.objs.size>>=_) _ _ _;refine aa (i9 xr ?_);refine af ?_
   rw[items l gp mY];exact h h' tk d l hp hk (e8 (aA xr))
  |again c₁=>
   refine⟨x.1,e_ x.2 fun q mE y=>?_⟩;obtain⟨h',tk,d,gp,c',l,rfl,rfl,hp,hk,xr,mY⟩:=y;show wpAny _ A (load s.heap.objs.size>>=_) _ _ _;refine aa (i9 xr ?_);refine af ?_
   rw[items l gp mY];exact h h' tk d l hp hk (e8 (aA xr))
 ·obtain⟨_,_,_,_,_,_,e',_⟩:=x;cases e'
end
end L2
namespace L2
open PySem PySem.Spec PyProof.Rows
section
variable {prog:Program}{w:World}{A:Around}{E:Value->Shared->Prop}{s:Shared}
theorem Ai{d:Nat}{v:Value}(h:carriedByValue v=true):ofAClassStatement d v=pure false:=by
 cases v<;>first|(cases h;done)|(unfold ofAClassStatement;rfl)
theorem sq{ks:List Key}{a:Addr}{Q:Bool->Shared->Prop}(hk:(tupleKind (av prog w)).is s.heap ks a)(h:Q false s):wpAny (model prog w) A (ofAClassStatement 8 (.ref a)) Q E s:=by
 have hT:s.TypeIs (.ref a) "tuple":=IsTupleKey.typeIs hk;obtain⟨o,items,n,ho,hc,hd,hi⟩:=hk;unfold ofAClassStatement;refine aa (gY hT ?_);dsimp only;rw[ab (by decide)];refine aa (af ?_);simp only[gW,bK,bp];refine aa (cY ho hd ?_);dsimp only;refine aa ?_
 show wpAny _ _ (forIn items _ _) _ _ s;rw[<-lh];refine iZ _ (fun rest r s'=>r.1=none/\s'=s/\∀v∈rest,carriedByValue v=true) _ ?_ ?_ _ _ ⟨rfl,rfl,hi.byValue⟩
 ·rintro v rest r s' ⟨hr,rfl,qZ⟩
  rw[Ai (qZ v aK)];refine aa (af ?_);simp only[bK,bp];exact af ⟨rfl,rfl,fun u FV=>qZ u (aR _ FV)⟩
 ·rintro ⟨r1,r2⟩ s' ⟨hr,rfl,_⟩
  simp only at hr;subst hr;exact af h
theorem ED{d:Nat}{k:Key}{v:Value}(h:(av prog w).is k v=true):∃b,hashByValue d v=pure b:=by
 have h:lM k v=true:=h;cases k with
 |inl i=>cases v<;>first|exact⟨_,by unfold hashByValue;rfl⟩|cases h
 |inr z=>cases v<;>first|exact⟨_,by unfold hashByValue;rfl⟩|cases h
theorem EE{ks:List Key}{a:Addr}{Q:Bool->Shared->Prop}(hk:(tupleKind (av prog w)).is s.heap ks a)(h:∀b,Q b s):wpAny (model prog w) A (hashByValue 8 (.ref a)) Q E s:=by
 have hT:s.TypeIs (.ref a) "tuple":=IsTupleKey.typeIs hk;obtain⟨o,items,n,ho,hc,hd,hi⟩:=hk;unfold hashByValue;refine aa (wpAny_specialOf hT F.slot_tuple_hash.lookup ?_);refine aa (cY ho hd ?_);dsimp only;refine aa ?_
 show wpAny _ _ (forIn items _ _) _ _ s;rw[<-lh];refine iZ _ (fun rest r s'=>r.1=none/\s'=s/\∀v∈rest,∃k,(av prog w).is k v=true) _ ?_ ?_ _ _ ⟨rfl,rfl,?_⟩
 ·rintro v rest r s' ⟨hr,rfl,qZ⟩
  obtain⟨k,hk⟩:=qZ v aK;obtain⟨b,e⟩:=ED (d:=7) hk;rw[e];refine aa (af ?_);cases b with
  |true=>exact af ⟨rfl,rfl,fun u FV=>qZ u (aR _ FV)⟩
  |false=>exact af (af (h _))
 ·rintro ⟨r1,r2⟩ s' ⟨hr,rfl,_⟩
  simp only at hr;subst hr;exact af (h _)
 ·clear ho hc hd hT
  generalize items.toList=aT at hi
  induction hi with
  |nil=>intro v hv;simp at hv
  |cons h1 _ ih=>
   intro v hv;rcases aO.mp hv with rfl|hv
   ·exact⟨_,h1⟩
   ·exact ih v hv
theorem Iq{k:List Key}{b:Addr}{Q:Bool->Shared->Prop}(hk:(tupleKind (av prog w)).is s.heap k b){l:List Value}(hl:∀y∈l,∃k' c,y=.ref c/\(tupleKind (av prog w)).is s.heap k' c)(h:Q false s):wpAny (model prog w) A (searchCouldBeSeen (.ref b) l) Q E s:=by
 unfold searchCouldBeSeen;refine aa ?_
 refine iZ _ (fun rest r s'=>r.1=none/\s'=s/\∀y∈rest,∃k' c,y=.ref c/\(tupleKind (av prog w)).is s.heap k' c) _ ?_ ?_ _ _ ⟨rfl,rfl,hl⟩
 ·rintro v rest r s' ⟨hr,rfl,qZ⟩
  obtain⟨k',c,rfl,hc⟩:=qZ v aK;have nx:r.1=none/\s'=s'/\∀y∈rest,∃k' c,y=Value.ref c/\(tupleKind (av prog w)).is s'.heap k' c:=⟨hr,rfl,fun u FV=>qZ u (aR _ FV)⟩;dsimp only;refine gx (fun _=>af ⟨rfl,rfl,nx.2.2⟩) (fun _=>?_);refine aa ((tupleKind (av prog w)).quiet hk ?_);simp only[gW,bK,bp];refine aa ((tupleKind (av prog w)).quiet hc ?_);simp only[gW,bK,bp];refine aa (sq hk ?_);simp only[bK,bp];refine aa (sq hc ?_);simp only[bK,bp];exact af ⟨rfl,rfl,nx.2.2⟩
 ·rintro ⟨r1,r2⟩ s' ⟨hr,rfl,_⟩
  simp only at hr;subst hr;exact af h
structure qg(t:SetTable)(n:Nat):Prop where
 dm:t.dummies=#[]
 ms:t.mask=7\/t.mask=31
 le:∀x∈t.place.toList,x<=t.mask
 sz:t.place.size=n
 JC:n*5<t.mask*3
 rise:ko t.place
theorem qg.fits {t:SetTable}{n:Nat}(h:qg t n):t.fits n=true:=by
 unfold SetTable.fits SetTable.fill;rw[h.dm,h.sz,br,Bool.true_and,cA];have:=h.JC;show n+0<=_;omega
theorem qg.odd {t:SetTable}{n:Nat}(h:qg t n):t.gaveWay=false:=by
 unfold SetTable.gaveWay;rcases h.ms with e|e<;>rw[e]<;>rfl
def Ir(prog:Program)(w:World)(p:List Key×Addr):Int×Value:=((tupleKind (av prog w)).hash p.1,.ref p.2)
theorem Cq{t:SetTable}(hd:t.dummies=#[]) {ha:Nat->Int} {h:Int} {N fuel:Nat} {p:SetTable.Probe} {g:Option SetTable.Met} (hg:SetTable.probe.go t ha h fuel p=g) (hN:N<fuel) (pb:PB t p) (hs:t.slot (eE t N p).j=.empty):
  (∃j,g=some (.empty j none)/\t.slot j=.empty/\j<=t.mask)\/∃j i n,g=some (.candidate j i (eE t (n+1) p))/\n<N/\t.slot j=.live i/\t.place[i]?=some j:=by
 subst hg;rcases yH hd N fuel p hN pb hs with⟨j,e,e1,e2⟩|⟨j,i,n,e,hn,e1,e2,e3⟩
 ·exact .inl ⟨j,e,e1,e2⟩
 ·exact .inr ⟨j,i,n,e,hn,e1,e2⟩
theorem vJ{a b:Addr}{o:Obj}{es:Array (Int×Value)}{ep:Nat}{t:SetTable}{k:List Key}{Q:SetFound->Shared->Prop}(hu:A.units<cLine)(ho:s.heap.get? a=some o)(hd:o.data=.set es ep t)(tk:qg t es.size)(hk:(tupleKind (av prog w)).is s.heap k b)
  (Io:∀e∈es.toList,∃k' c,e.2=.ref c/\(tupleKind (av prog w)).is s.heap k' c/\k'≠k) {h:Int}
  (hQ:∀j,t.slot j=.empty->j<=t.mask->Q (.free j false) s):∀(N fuel:Nat) (st:Option SetTable.Probe),N<fuel->N<10*SetTable.turns t.mask->PB t (st.getD (t.probeStart h))->t.slot (eE t N (st.getD (t.probeStart h))).j=.empty->
   wpAny (model prog w) A (setSearchFrom a (.ref b) h true fuel st) Q E s:=by
 have hf:=tk.fits;intro N
 induction N using Nat.strongRecOn with
 |ind N ih=>
  intro fuel st hN Uq pb hs;cases fuel with
  |zero=>omega
  |succ fuel=>
   unfold setSearchFrom;refine aa (dP ho hd hf ?_);dsimp only;rw[tk.odd];simp only[bK,bp];unfold SetTable.probe;generalize hg:SetTable.probe.go t _ h (10*SetTable.turns t.mask) (st.getD (t.probeStart h))=g;rcases Cq tk.dm hg Uq pb hs with⟨j,e,e1,e2⟩|⟨j,i,n,e,hn,e1,e2⟩
   ·rw[e];exact af (hQ j e1 e2)
   ·rw[e];dsimp only;have hi:i<es.size:=by rw[<-tk.sz];exact(ux.mp e2).1
    have MH:es[i]?=some es[i]:=cK hi
    obtain⟨k',c,ey,hc,eC⟩:=Io es[i] (by rw[oJ];exact Array.getElem_mem hi);have rest:wpAny (model prog w) A (do
      let some (_,y):=es[i]? |unsupported "internal:set-entry"
      let equal<-holding [y] (eqBool y (.ref b))
      let(Gh,_,t')<-setState a
      if true&&equal then return .there none
      let some same:=t'.sameMemory t.moves t.mask|unsupported "set.changed-during-lookup:is-the-new-block-at-the-old-address"
      let MI<-match(if same then t'.slot j else .empty)with
       |.live i'=>match Gh[i']? with
        |some (_,y')=>do pure (if<-isSame y' y then some i' else none)
        |none=>pure none
       |_=>pure none
      match MI with
      |none=>rule "set.search.anew";setSearchFrom a (.ref b) h true fuel none
      |some i'=>if equal then return .there (some i')else setSearchFrom a (.ref b) h true fuel (some (eE t (n+1) (st.getD (t.probeStart h))))) Q E s:=by
     rw[MH];generalize es[i]=ee at ey MH;obtain⟨eh,ev⟩:=ee;have ey:ev=.ref c:=ey;subst ey;dsimp only;refine aa (cn ((tupleKind (av prog w)).eqBool hu hc hk ?_));rw[a_ eC];refine aa (dP ho hd hf ?_);dsimp only;simp only[lB,bK,bp];have P9:t.sameMemory t.moves t.mask=some true:=by unfold SetTable.sameMemory;rw[ab (br _)]
     rw[P9];dsimp only;simp only[fc];rw[e1];dsimp only;rw[MH];dsimp only;refine aa (wpAny_isSame_ref_self ?_);refine aa (af ?_);simp only[fc];refine ih (N - (n+1)) (by omega) fuel (some (eE t (n+1) (st.getD (t.probeStart h)))) (by omega) (by omega) ?_ ?_
     ·show PB t (eE t (n+1) _);have:∀(m:Nat) (p:SetTable.Probe),PB t p->PB t (eE t m p):=by
       intro m
       induction m with
       |zero=>exact fun p h=>h
       |succ m LV=>exact fun p h=>LV _ h.RU
      exact this _ _ pb
     ·show t.slot (eE t (N - (n+1)) (eE t (n+1) _)).j=_;rw[<-qe,show n+1+(N - (n+1))=N by omega];exact hs
    cases hl:t.led with
    |true=>
     simp only[gW,bK,bp];exact rest
    |false=>
     simp only[pf,fc];refine aa (Iq hk (fun y hy=>?_) ?_)
     ·obtain⟨e',RZ,rfl⟩:=a9.mp hy;have Ur:e'∈es.toList:=by
       rw[oJ]at RZ⊢;exact(Array.mem_filter.mp RZ).1
      obtain⟨k2,c2,h1,h2,_⟩:=Io e' Ur;exact⟨k2,c2,h1,h2⟩
     ·simp only[bK,bp];exact rest
end
end L2
namespace L2
open PySem PySem.Spec PyProof.Rows
def Us:TE:=fun σ H Q=>∃v,σ[0]?=some (some v)/\∀p,H p=none->∀q,upd H p (.lst []) q=none->Q (.ref q) (upd (upd H p (.lst [])) q (.tup [v,.ref p]))
structure NB(Y:Cx)(tg elt:Expr):Prop where
 g:PG Y tg (AX 0)
 e:PE Y elt Us
theorem NB.of {Y:Cx}{x:Str}{p0 p1 p2 p3:Pos}{x1:Nat}(hN:Y.N.Nodup)(hi:Y.N[0]?=some x:=by rfl) (hx:Loc Y.env.scope x:=by first|exact Or.inl rfl|exact Or.inr rfl) (hf:Y.fn x=true\/Y.env.scope.names.lookup x=some .local:=by first|exact .inl rfl|exact .inr rfl|assumption)
  (hv:Gg Y.env.scope x:=by first|exact Or.inl rfl|exact Or.inr (Or.inl rfl)|exact Or.inr (Or.inr rfl)) (hd:(x==("__debug__":Str))=false:=by decide) (nC:(x==("__classdict__":Str))=false:=by decide):NB Y (.Name x p0) (.Tuple [.Name x p1,.List [] p2] x1 p3):=
 ⟨sM hN hi hx hf,(A_ (ir (AS hi hv hd nC) (ir (Ba kb) kb))).weak fun σ H Q ⟨v,e,k⟩=>⟨v,e,(show 0<=sizeLine from bx _),fun p hp=>⟨(show 2<=sizeLine by decide),fun q hq=>k p hp q hq⟩⟩⟩
def Iu:Nat->List Tr->List Tr
 |_,[]=>[]
 |n,t::ts=>.tup [t,.at n]::Iu (n+1) ts
def qj(r:Rs (List Tr))(A:Ab):Rz Tr:=match r with
 |.ok ts=>if fE ts=true/\ts.length<=iE then .ok (.lst (Iu A.length ts)) (A++List.replicate ts.length (.lst []))else .bad
 |_=>.bad
def Cr(H:Hp):List Addr->Hp
 |[]=>H
 |p::ps=>Cr (upd H p (.lst [])) ps
theorem yI:∀{ps:List Addr} {H:Hp} {b:Addr} {o:HO},Cr H ps b=some o->(b∈ps/\o=.lst [])\/H b=some o
 |[],_,_,_,e=>.inr e
 |p::ps,H,b,o,e=>by
  rcases yI (ps:=ps) e with⟨h,z⟩|h
  ·exact .inl ⟨aR _ h,z⟩
  ·by_cases z:b=p
   ·subst z;rw[aF]at h;cases h;exact .inl ⟨aK ..,rfl⟩
   ·rw[ah z]at h;exact .inr h
theorem HA.FW {K:PySem.W.Frag}:∀(ps:List Addr) {B:bD} {A:Ab} {H:Hp},HA K B A H->ps.Nodup->(∀p∈ps,H p=none)->
  ∃B',Grows B H B' (Cr H ps)/\HA K B' (A++List.replicate ps.length (.lst [])) (Cr H ps)/\(∀k p,ps[k]?=some p->B'.ix p=some (A.length+k))/\∀b,b∉ps->B'.hd b=B.hd b
 |[],B,A,H,ha,_,_=>⟨B,.refl,by rw[show List.replicate ([]:List Addr).length (Ao.lst [])=[]from rfl,dr];exact ha,fun k p e=>by simp at e,fun _ _=>rfl⟩
 |p::ps,B,A,H,ha,nd,hn=>by
  rw[cU]at nd;have hp:=hn p (aK ..);obtain⟨g1,iO⟩:=ha.push (o:=.lst []) (H':=upd H p (.lst [])) hp (au.upd hp) ⟨n8,[],aF,.nil⟩;obtain⟨B',g,h1,h2,h3⟩:=HA.FW ps iO nd.2 fun q m=>by
   rw[ah fun z=>nd.1 (by rw[<-z];exact m)];exact hn q (aR _ m)
  refine⟨B',g1.trans ha.hb g,?_,fun k q e=>?_,fun b m=>?_⟩
  ·rw[gw]at h1;exact h1
  ·cases k with
   |zero=>cases e;exact g.fy.x p A.length gz
   |succ k=>
    have q:=h2 k q e;rw[ba]at q;rw[q];show some (A.length+1+k)=_;rw[Nat.add_assoc,Nat.add_comm 1 k]
  ·rw[h3 b fun z=>m (aR _ z)];exact ju fun z=>m (by rw[z];exact aK ..)
theorem s_.MJ {X:Cx}{B:bD}{H H1 H2:Hp}(h:s_ X B H H1)(s2:au H1 H2):∃Hu,au H Hu/\(∀b,H1 b=none->Hu b=H2 b)/\(∀{K:PySem.W.Frag} {B3:bD} {v:V} {t:Tr},Rep K (aN B3 H2) v t->Rep K (aN B3 Hu) v t)/\∀k:Hp->Prop,k Hu->fk X H2 k:=by
 rcases h with s|⟨H0,a,o,u0,hk,s,hv,ha,rfl,h0⟩
 ·exact⟨H2,s.trans s2,fun _ _=>rfl,fun r=>r,fun k q=>.inl q⟩
 ·have e3:H2 a=some (.ff o u0):=s2 _ _ aF;have w:nG H2 (upd H2 a u0) a (.ff o u0) u0 u0:=⟨e3,rfl,.inr ⟨rfl,o,rfl⟩,hk⟩;refine⟨upd H2 a u0,fun b ob e=>?_,fun b e=>?_,fun r=>w.rep r,fun k q=>.inr ⟨a,o,u0,hk,e3,h0,q⟩⟩
  ·have q:=s _ _ e;by_cases z:b=a
   ·subst z;rw[ha]at q;cases q;exact aF
   ·rw[ah z];exact s2 _ _ (by rw[ah z];exact q)
  ·exact ah fun z=>by subst z;rw[aF]at e;cases e
structure MK(K:PySem.W.Frag)(B:bD)(D:Addr)(H1 H:Hp)(e:Addr×Addr×V×Tr):Prop where
 q:H e.1=some (.tup [e.2.2.1,.ref e.2.1])
 p:H e.2.1=some (.lst [])
 n:H1 e.2.1=none
 m:H1 e.1=none
 d:e.2.1≠D
 r:Rep K (aN (dW B D) H) e.2.2.1 e.2.2.2
theorem MK.up {K:PySem.W.Frag}{B:bD}{D:Addr}{H1 H H':Hp}{e:Addr×Addr×V×Tr}(h:MK K B D H1 H e)(s:au H H'):MK K B D H1 H' e:=⟨s _ _ h.q,s _ _ h.p,h.n,h.m,h.d,h.r.same (aV s)⟩
theorem vK{K:PySem.W.Frag}{B B':bD}{D:Addr}{Hu:Hp}(hT:gf (aN (dW B D) Hu) (aN B' Hu)):∀(L:List (Addr×Addr×V×Tr)) (n:Nat),(∀e∈L,Hu e.1=some (.tup [e.2.2.1,.ref e.2.1])/\B'.hd e.1=false/\Rep K (aN (dW B D) Hu) e.2.2.1 e.2.2.2)->(∀k e,L[k]?=some e->B'.ix e.2.1=some (n+k))->fE (L.map (·.2.2.2))=true->aI K (aN B' Hu) (L.map fun e=>V.ref e.1) (Iu n (L.map (·.2.2.2)))
 |[],_,_,_,_=>.nil
 |e::L,n,h,hx,f=>by
  rw[aB,fE,aM]at f;obtain⟨h1,h2,h3⟩:=h e (aK ..);refine .cons (.tup (by rw[cq h2];exact h1) (.cons (tL hT h3 f.1) (.cons (.at (hx 0 e rfl)) .nil))) (vK hT L (n+1) (fun e m=>h e (aR _ m)) (fun k e q=>?_) f.2);rw[Nat.add_assoc,Nat.add_comm 1 k];exact hx (k+1) e q
section
variable {X:Cx}{tg iter elt:Expr}{W:ax->Rs (List Tr)}{pos:Pos}{scope:Scope}{N':List Str}{ix:List (Option Nat)}
theorem EF(Lk:fN X N' ix scope)(hi:QJ X tg iter W)(lT:∀s H ex,NB (kE X scope N' s H ex) tg elt)(r8:ix.length=1:=by rfl) (hc:X.calm=true:=by rfl) (hs:isSet iter=false:=by rfl):
  ZE X (.ListComp elt [⟨tg,iter,[],0⟩] scope pos) (fun ρ A=>qj (W ρ) A):=
 ⟨(Br Lk hc hi.h (fun s H ex=>⟨(lT s H ex).g,Bq,(lT s H ex).e⟩) (dA hs)).Hz.weak fun σ H Q ⟨B,A,ρ,ha,r,n,q⟩=>⟨B,ρ,ha.hb,r,by
   have q:dg (XE X B H) (qj (W ρ) A) _:=q;cases eW:W ρ with
   |bad=>rw[eW]at q;exact q
   |exc c=>rw[eW]at q;exact(show False from q).elim
   |ok ts=>
    rw[eW]at q;obtain⟨⟨hf,hz⟩,q⟩:=l5 q;intro J H1 tf gt D hD;have xb:HB B H1:=tf.hb ha.hb;refine⟨fun i m bA H'=>m=ts.length - i/\i<=ts.length/\bA.length=1/\au H1 H'/\HB (dW B D) H'/\b9 (aN B H1) (aN (dW B D) H')/\∃L:List (Addr×Addr×V×Tr),(∀e∈L,MK X.K B D H1 H' e)/\(L.map (·.2.1)).Nodup/\H' D=some (.lst (L.map fun e=>V.ref e.1))/\L.map (·.2.2.2)=ts.take i,
     ⟨_,rfl,bx _,by unfold dU;rw[ai];exact r8,au.upd hD,xZ xb hD,hX hD,[],(fun e m=>by cases m),fU,aF,rfl⟩,?_⟩
    rintro i m bA H' ⟨rfl,hi,Ut,sm,jQ,fy,L,hL,nd,hd,eL⟩
    have R0:L.length=i:=by have z:=bH List.length eL;rw[ai,oX,Nat.min_eq_left hi]at z;exact z
    by_cases eB:i<ts.length
    ·refine .inr ⟨gt.go i _ H' eB fy jQ,fun qW H2=>qW.length=1/\au H1 H2/\HB (dW B D) H2/\b9 (aN B H1) (aN (dW B D) H2)/\∃L:List (Addr×Addr×V×Tr),(∀e∈L,MK X.K B D H1 H2 e)/\(L.map (·.2.1)).Nodup/\H2 D=some (.lst (L.map fun e=>V.ref e.1))/\L.map (·.2.2.2)=ts.take (i+1),
      fun qW H2 h=>⟨ts.length - (i+1),by omega,rfl,eB,h⟩,fun x H2 hx=>?_⟩
     obtain⟨s2,t,et,rt⟩:=gt.xH i _ H' x H2 eB fy jQ hx;refine⟨x,by rw[dI (by omega)],fun p hp q' Iv=>?_⟩;have Qj:H2 D=some (.lst (L.map fun e=>V.ref e.1)):=s2 _ _ hd;have pD:p≠D:=fun z=>by rw[z,Qj]at hp;cases hp
     have qp:q'≠p:=fun z=>by rw[z,aF]at Iv;cases Iv
     have HD:H2 q'=none:=by rw[ah qp]at Iv;exact Iv
     have qD:q'≠D:=fun z=>by rw[z,Qj]at HD;cases HD
     have s3:au H2 (upd (upd H2 p (.lst [])) q' (.tup [x,.ref p])):=(au.upd hp).trans (au.upd Iv);have Uu:au H1 (upd (upd H2 p (.lst [])) q' (.tup [x,.ref p])):=(sm.trans s2).trans s3;have nb:HB (dW B D) (upd (upd H2 p (.lst [])) q' (.tup [x,.ref p])):=(jQ.same s2).same s3;have Oh:upd (upd H2 p (.lst [])) q' (.tup [x,.ref p]) D=some (.lst (L.map fun e=>V.ref e.1)):=s3 _ _ Qj;have vL:∀{b:Addr} {u:HO},b≠D->upd (upd H2 p (.lst [])) q' (.tup [x,.ref p]) b=some u->upd (upd (upd H2 p (.lst [])) q' (.tup [x,.ref p])) D (.lst ((L.map fun e=>V.ref e.1)++[.ref q'])) b=some u:=fun hb e=>(ah hb).trans e;have Qk:b9 (aN B H1) (aN (dW B D) (upd (upd (upd H2 p (.lst [])) q' (.tup [x,.ref p])) D (.lst ((L.map fun e=>V.ref e.1)++[.ref q'])))):=by
      rw[hZ];exact fy.trans (aV (s2.trans s3))
     refine⟨_,Oh,by rw[ai,R0,<-gE];omega,by rw[fS];exact Ut,fun b u e=>?_,?_,Qk,L++[(q',p,x,t)],?_,?_,?_,?_⟩
     ·exact vL (fun z=>by rw[z,hD]at e;cases e) (Uu _ _ e)
     ·intro b e;by_cases z:b=D
      ·subst z;exact⟨_,aF,fun _ z=>by cases z⟩
      ·rw[ah z];exact nb b e
     ·intro e m;rcases fM.mp m with m|m
      ·have h:=(hL e m).up (s2.trans s3);refine⟨vL ?_ h.q,vL h.d h.p,h.n,h.m,h.d,?_⟩
       ·intro z;have h1:=h.q;rw[z,Oh]at h1;cases h1
       ·rw[hZ];exact h.r
      ·rw[cz.mp m];refine⟨vL qD aF,vL pD ?_,(sm.trans s2).free hp,(sm.trans s2).free HD,pD,?_⟩
       ·exact(ah (bS qp)).trans aF
       ·rw[hZ];exact rt.same (aV s3)
     ·rw[cX,iS];refine⟨nd,by simp,fun a m b m'=>?_⟩;obtain⟨e,me,rfl⟩:=a9.mp m;have eb:b=p:=by simpa using m'
      subst eb;intro z;have h1:=(hL e me).p;rw[z]at h1;have h2:=s2 _ _ h1;rw[hp]at h2;cases h2
     ·rw[cX];exact aF
     ·rw[cX,eL,List.take_succ,et];rfl
    ·have e:i=ts.length:=by omega
     subst e;rw[List.take_length]at eL;refine .inl ⟨gt.stop _ H' fy,?_⟩;obtain⟨Hu,su,fu,ru,ku⟩:=tf.MJ sm;refine ku _ ?_
     have Uv:∀p∈L.map (·.2.1),H p=none:=fun p m=>by
      obtain⟨e,me,rfl⟩:=a9.mp m;exact tf.free (hL e me).n
     obtain⟨B',g,dF,zJ,Ql⟩:=ha.FW _ nd Uv;have R1:∀e∈L,Hu e.2.1=some (.lst []):=fun e me=>(fu _ (hL e me).n).trans (hL e me).p;have ss:au (Cr H (L.map (·.2.1))) Hu:=fun b o e=>by
      rcases yI e with⟨m,rfl⟩|h
      ·obtain⟨z,me,rfl⟩:=a9.mp m;exact R1 z me
      ·exact su _ _ h
     have ll:L.length=ts.length:=R0;rw[ai,ll]at dF;have Uw:D∉L.map (·.2.1):=fun m=>by obtain⟨e,me,z⟩:=a9.mp m;exact(hL e me).d z
     have Ux:H D=none:=tf.free hD;have Uy:B'.hd D=false:=(Ql D Uw).trans (ha.hb.free Ux);have Uz:Hu D=some (.lst (L.map fun e=>V.ref e.1)):=(fu D hD).trans hd;have nP:∀{b:Addr} {o:HO},Hu b=some o->o≠ .lst []->b∉L.map (·.2.1):=fun{b o} e ne m=>by
      obtain⟨z,me,rfl⟩:=a9.mp m;have q:=R1 z me;rw[e]at q;cases q;exact ne rfl
     have hT:gf (aN (dW B D) Hu) (aN B' Hu):=⟨fun a x e hx=>by
      have e1:=aD _ _ e;have nl:x≠ .lst []:=fun z=>by subst z;rcases hx with⟨_,z⟩|⟨_,_,z⟩<;>cases z
      have hB:(dW B D).hd a=false:=by
       cases q:(dW B D).hd a with
       |false=>rfl
       |true=>
        have e2:(if(dW B D).hd a=true then none else Hu a)=some x:=e;rw[q,ab rfl]at e2;cases e2
      have UA:B.hd a=false:=by
       have z:(B.hd a||a==D)=false:=hB;rw[Bool.or_eq_false_iff]at z;exact z.1
      rw[cq ((Ql a (nP e1 nl)).trans UA)];exact e1,fun a j e=>g.fy.x a j e⟩
     refine q (.ref D) B' Hu (g.trans ha.hb (.of ss)) (dF.same ss) (.lst (by rw[cq Uy];exact Uz) ?_);rw[<-eL];refine vK hT L A.length (fun e me=>?_) (fun k e ek=>zJ k _ (by rw[aS,ek];rfl)) (by rw[eL];exact hf);have eq:Hu e.1=some (.tup [e.2.2.1,.ref e.2.1]):=(fu _ (hL e me).m).trans (hL e me).q;exact⟨eq,(Ql _ (nP eq fun z=>by cases z)).trans (ha.hb.free (tf.free (hL e me).m)),ru (hL e me).r⟩⟩⟩
def mZ(h:List Tr->Rs Tr)(r:Rz Tr):Rz Tr:=r.bind fun t A=>aw (h [t]) A
theorem Aj{T:String}{x:Str}{p:Pos}{e:Expr}{h:List Tr->Rs Tr}{F:ax->Ab->Rz Tr}(hc:f_ X (.type T) (rF X h))(hm:X.mg x=none)(he:ZE X e F)(hv:bootBuiltins x=some (.type T):=by rfl) (hg:Gl X x:=by rfl) (hn:x≠"__name__":=by decide) (iu:(x==("__debug__":Str))=false:=by decide)
  (cS:aY [e]=true:=by rfl):ZE X (.Call (.Name x p) [e] [] pos) (fun ρ A=>mZ h (F ρ A)):=
 ⟨(g_ hc hg hm hv (yl he.h BU (aG cS).1) hn iu (aU _ _ (aG cS).1) (bZ (aG cS).2)).weak fun σ H Q ⟨B,A,ρ,ha,r,n,q⟩=>⟨B,A,ρ,ha,r,n,by
   have q:dg (XE X B H) (mZ h (F ρ A)) _:=q;show dg (XE X B H) ((F ρ A).bind fun t A1=>Rz.bind (.ok [] A1) fun ts A2=>.ok (t::ts) A2) _;cases eF:F ρ A with
   |bad=>rw[eF]at q;exact q
   |exc c A1=>rw[eF]at q;exact q
   |ok t A1=>
    rw[eF]at q;intro vs B1 H1 g1 iO rs;exact⟨B1,[t],iO.hb,rs,(gg (show dg (XE X B H) (aw (h [t]) A1) _ from q)).mono fun u qu v H2 s2 rv _=>qu v B1 H2 (g1.trans ha.hb (.of s2)) (iO.same s2) rv⟩⟩⟩
end
end L2
namespace L2
open PySem PySem.Spec PySem.Calls PyProof.Rows
section
variable {prog:Program}{w:World}{A:Around}{E:Value->Shared->Prop}{s:Shared}
def mf(prog:Program)(w:World)(h:Heap)(a:Addr)(xs:List (List Key×Addr)):Prop:=
 ∃(o:Obj) (es:Array (Int×Value)) (ep:Nat) (t:SetTable),h.get? a=some o/\o.ExactSet/\o.data=.set es ep t/\es.toList.Perm (xs.map (Ir prog w))/\qg t es.size/\(uj w=true\/t.led=true)
theorem mf.keep {h h':Heap}{a:Addr}{xs:List (List Key×Addr)}(x:mf prog w h a xs)(k:∀o,h.get? a=some o->h'.get? a=some o):mf prog w h' a xs:=by
 obtain⟨o,es,ep,t,ho,r⟩:=x;exact⟨o,es,ep,t,k o ho,r⟩
theorem mf.size {h:Heap}{es:Array (Int×Value)}{xs:List (List Key×Addr)}(hp:es.toList.Perm (xs.map (Ir prog w))):es.size=xs.length:=by
 have q:=hp.length_eq;rw[bw,ai]at q;exact q
theorem vM{α:Type}(xs:Array α)(p:Nat)(x:α):(SetTable.insertAt xs p x).size=xs.size+1:=by
 have q:=(oM xs p x).length_eq;rw[bw,bw,Array.size_push]at q;exact q
theorem Iw{t:SetTable}{n j:Nat}(tk:qg t n)(hs:t.slot j=.empty)(hj:j<=t.mask):(t.put j).1.dummies=#[]/\(t.put j).1.mask=t.mask/\(t.put j).1.place.size=n+1/\(∀x∈(t.put j).1.place.toList,x<=t.mask)/\ko (t.put j).1.place/\(t.put j).1.led=t.led:=by
 have eC:¬t.place[SetTable.below t.place j]?=some j:=by
  intro e;unfold SetTable.slot at hs;dsimp only at hs;rw[e,ab (br _)]at hs;cases hs
 unfold SetTable.put;dsimp only;refine⟨?_,rfl,?_,?_,BA tk.rise eC,rfl⟩
 ·rw[tk.dm,ae (by unfold SetTable.has;simp)]
 ·rw[vM,tk.sz]
 ·intro x hx;have:=(oM t.place (SetTable.below t.place j) j).mem_iff.mp hx;rw[oR,fM,cz]at this;rcases this with h|h
  ·exact tk.le x h
  ·rw[h];exact hj
theorem Qm{a b:Addr}{xs:List (List Key×Addr)}{k:List Key}{Q:Bool->Shared->Prop}(hu:A.units<cLine)(hS:mf prog w s.heap a xs)(hn:xs.length+1<=18)(hk:(tupleKind (av prog w)).is s.heap k b)(Io:∀p∈xs,(tupleKind (av prog w)).is s.heap p.1 p.2/\p.1≠k)
  (h:∀h',Heap.SameBut a s.heap h'->mf prog w h' a (xs++[(k,b)])->Q true {s with heap:=h'}):wpAny (model prog w) A (setAddHashed a (.ref b) ((tupleKind (av prog w)).hash k)) Q E s:=by
 obtain⟨o,es,ep,t,ho,hex,hd,hp,tk,hl⟩:=hS;have hsz:es.size=xs.length:=mf.size (h:=s.heap) hp;have hf:=tk.fits;unfold setAddHashed setAddHashedIn;refine cn (aa (dP ho hd hf ?_));dsimp only;have UB:byScan (.ref b) es=false:=by unfold byScan;rfl
 rw[UB];simp only[bK,bp];have Qn:∀e∈es.toList,∃k' c,e.2=.ref c/\(tupleKind (av prog w)).is s.heap k' c/\k'≠k:=fun e he=>by
  obtain⟨p,Mg,rfl⟩:=a9.mp (hp.mem_iff.mp he);exact⟨p.1,p.2,rfl,Io p Mg⟩
 obtain⟨j0,UC,UD⟩:=Qb (t.mask+1) t.place.toList (by rw[bw,tk.sz];have:=tk.JC;omega);obtain⟨N,hN,eN⟩:=vF tk.ms ((tupleKind (av prog w)).hash k) (fL UC);refine aa ?_
 unfold setSearch;refine vJ hu ho hd tk hk Qn (fun j hj UE=>?_) N 100000 none (by rcases tk.ms with e|e<;>rw[e]at hN<;>omega) (by unfold SetTable.turns;omega) (PB.start _) (by show t.slot (eE t N (t.probeStart _)).j=_;rw[eN];exact xo tk.dm UD);dsimp only;refine aa (dP ho hd hf ?_);dsimp only;obtain⟨p1,p2,p3,p4,p5,p6⟩:=Iw tk hj UE;have so:=oM es (t.put j).2 ((tupleKind (av prog w)).hash k,Value.ref b);have t6:(SetTable.insertAt es (t.put j).2 ((tupleKind (av prog w)).hash k,Value.ref b)).size=es.size+1:=vM _ _ _;generalize t.put j=tp at p1 p2 p3 p4 p5 p6 so t6⊢;obtain⟨t1,pl⟩:=tp;dsimp only at p1 p2 p3 p4 p5 p6 so t6⊢;generalize SetTable.insertAt es pl ((tupleKind (av prog w)).hash k,Value.ref b)=rZ at so t6⊢;have Cs:rZ.toList.Perm ((xs++[(k,b)]).map (Ir prog w)):=by
  rw[cX];refine so.trans ?_
  rw[oR];exact hp.append_right _
 have FX:rZ.size<=sizeLine:=by rw[t6,hsz,bG];omega
 have fin:∀t2:SetTable,t2.dummies=#[]->t2.mask=t.mask->t2.place=t1.place->t2.led=t1.led->wpAny (model prog w) A (do
   storeSet a rZ t2
   if(!false&&t2.tooFull)=true then do
      setRelay a (SetTable.grown (es.size+1))
      pure true
    else pure true) Q E s:=by
  intro t2 d2 m2 ML l2;refine aa (wpAny_storeSet_of ho hd ?_ FX);have hg:(s.heap.update a (Obj.putSet rZ t2)).get? a=some {o with data:=.set rZ (ep+1) t2}:=by
   have q:=jM (Obj.putSet rZ t2) ho (by rw[putSet_of rZ t2 hd];rfl);rw[putSet_of rZ t2 hd]at q;exact q
  have R3:=dM s.heap a (Obj.putSet rZ t2);have DJ:uj w=true\/t2.led=true:=hl.imp id fun z=>by rw[l2,p6];exact z
  have Ct:t2.fill=es.size+1:=by unfold SetTable.fill;rw[d2,ML,p3];rfl
  refine gx (fun ql=>?_) (fun ql=>?_)
  ·
   have ql:t2.fill*5>=t2.mask*3:=by
    have:t2.tooFull=true:=by simpa using ql
    unfold SetTable.tooFull at this;exact bc this
   rw[Ct,m2]at ql;have h7:t.mask=7:=by
    rcases tk.ms with e|e
    ·exact e
    ·rw[e]at ql;omega
   have h5:es.size+1=5:=by have:=tk.JC;rw[h7]at ql this;omega
   refine aa ?_
   unfold setRelay;have UG:t2.fits rZ.size=true:=by
    unfold SetTable.fits;rw[ML,p3,t6,br,Bool.true_and,Ct,m2,h7,h5];rfl
   refine aa (dP hg rfl UG ?_);dsimp only;rw[h5];have MM:SetTable.sizeAbove (SetTable.grown 5)=32:=by decide
   rw[MM,ae (by decide)];obtain⟨t3,order,e3,m3,d3,l3,VW,r3,UH,UI,Cu⟩:=EC (m:=31) (f:=t2.finger) (mv:=t2.movedTo 31) (ld:=t2.led) (pl:=t2.plain) (.inr rfl) (es:=rZ) (by rw[t6];omega);have er:t2.relaid (rZ.map (·.1)) (SetTable.grown 5)=some (t3,order):=by
    unfold SetTable.relaid;rw[MM];exact e3
   rw[er];refine aa ?_
   have Cv:(order.filterMap fun x=>rZ[x]?).size=rZ.size:=by
    have q:=Cu.length_eq;rw[bw,bw]at q;exact q
   show wpAny _ _ (if((order.filterMap fun x=>rZ[x]?).size !=rZ.size)=true then _ else _) _ _ _;rw[Cv,gL];simp only[bK,bp];refine af ?_
   dsimp only;generalize (order.filterMap fun x=>rZ[x]?)=HP at Cv Cu⊢;refine wpAny_storeSet_of hg rfl (af ?_) (by rw[Cv];exact FX);have MN:((s.heap.update a (Obj.putSet rZ t2)).update a (Obj.putSet HP t3)).get? a=some {o with data:=.set HP (ep+1+1) t3}:=by
    have q:=jM (Obj.putSet HP t3) hg (by rw[putSet_of HP t3 rfl];rfl);rw[putSet_of HP t3 rfl]at q;exact q
   refine h _ (R3.trans (dM _ a _)) ⟨_,HP,_,t3,MN,hex,rfl,Cu.trans Cs,⟨d3,.inr m3,by rw[m3];exact UH,by rw[UI,Cv],by rw[m3,Cv,t6];omega,r3⟩,DJ.imp id fun z=>l3.trans z⟩
  ·refine af (h _ R3 ⟨_,rZ,_,t2,hg,hex,rfl,Cs,⟨d2,by rw[m2];exact tk.ms,by rw[ML,m2];exact p4,by rw[ML,p3,t6],?_,by rw[ML];exact p5⟩,DJ⟩);have:¬t2.fill*5>=t2.mask*3:=by
    intro z;refine ql ?_
    show(!false&&t2.tooFull)=true;unfold SetTable.tooFull;rw[bF z];rfl
   rw[Ct]at this;rw[t6];omega
 split
 ·refine aa (EE hk fun bv=>?_);cases bv with
  |true=>exact fin t1 p1 p2 rfl rfl
  |false=>exact fin {t1 with plain:=false} p1 p2 rfl rfl
 ·refine aa (af ?_);exact fin t1 p1 p2 rfl rfl
end
end L2
namespace L2
open PySem PySem.Spec PySem.Calls PyProof.Rows
def m4(a b:List Int):Bool:=!decide (b<a)
theorem oh{a b:List Int}:m4 a b=true↔a<=b:=by
 unfold m4;rw[Bool.not_eq_true',decide_eq_false_iff_not];exact Iff.rfl
theorem jU{a b c:List Int}(h1:m4 a b=true)(h2:m4 b c=true):m4 a c=true:=by
 rw[oh]at*;exact List.le_trans h1 h2
theorem jV(a b:List Int):(m4 a b||m4 b a)=true:=by
 rw[o_,oh,oh];exact List.le_total _ _
theorem jE{a b:List Int}(h1:m4 a b=true)(h2:m4 b a=true):a=b:=by
 rw[oh]at*;exact List.le_antisymm h1 h2
def Oi(ks:List (List Int))(i j:Nat):Bool:=decide (ks.getD i []<ks.getD j [])
theorem Iy{a b:List Int}(h:a≠b):decide (a<b)=!decide (b<a):=by
 cases e:decide (b<a)with
 |true=>
  have h1:b<a:=bc e;rw[gW];exact a_ (List.lt_asymm h1)
 |false=>
  rw[pf];have h1:m4 a b=true:=by unfold m4;rw[e];rfl
  cases q:decide (a<b)with
  |true=>rfl
  |false=>
   have h2:m4 b a=true:=by unfold m4;rw[q];rfl
   exact absurd (jE h1 h2) h
theorem yJ{ks:List (List Int)}(nd:ks.Nodup){i j:Nat}(hi:i<ks.length)(hj:j<ks.length)(h:i≠j):ks.getD i []≠ks.getD j []:=by
 rw[bt,bt,aH hi,aH hj];intro e;exact h ((il nd).mp e)
theorem yK{ks:List (List Int)}(nd:ks.Nodup):z8 ks.length (Oi ks):=
 ⟨fun i j hi hj h=>Iy (yJ nd hi hj h),fun i j k _ _ _ h1 h2=>bF (List.lt_trans (bc h1) (bc h2))⟩
def bQ(ks:List (List Int)):List Nat:=(List.range ks.length).mergeSort fun i j=>m4 (ks.getD i []) (ks.getD j [])
theorem cP(ks:List (List Int)):(bQ ks).Perm (List.range ks.length):=jO _ _
theorem cH{ks:List (List Int)}{i:Nat}(h:i∈bQ ks):i<ks.length:=cD.mp ((cP ks).mem_iff.mp h)
theorem jF(ks:List (List Int)):(bQ ks).Pairwise fun i j=>m4 (ks.getD i []) (ks.getD j [])=true:=kT (le:=fun i j=>m4 (ks.getD i []) (ks.getD j [])) (fun a b c h1 h2=>jU h1 h2) (fun a b=>jV _ _) _
theorem sr{ks:List (List Int)}(nd:ks.Nodup){p:Array Nat}(h:Pn ks.length p)(s:dy (Oi ks) p ks.length):p.toList=bQ ks:=by
 refine kP (le:=fun i j=>m4 (ks.getD i []) (ks.getD j [])=true) (fun a b ha hb h1 h2=>?_) ((z_ h s).imp fun{i j} e=>?_) (jF ks) (List.Perm.trans h (cP ks).symm)
 ·have dF:a<ks.length:=cD.mp ((List.Perm.mem_iff h).mp ha);have jQ:b<ks.length:=cH hb;by_cases z:a=b
  ·exact z
  ·exact absurd (jE h1 h2) (yJ nd dF jQ z)
 ·have e:ks.getD i []<ks.getD j []:=bc e;unfold m4;rw[a_ (List.lt_asymm e)];rfl
theorem mh{ks:List (List Int)}(h:ks.length<2):bQ ks=List.range ks.length:=by
 unfold bQ
 match ks,h with
 |[],_=>rw[show List.range ([]:List (List Int)).length=[]from rfl,List.mergeSort_nil]
 |[a],_=>rw[show List.range [a].length=[0]from rfl,List.mergeSort_singleton]
def yL(h:Heap)(v:Value)(a b:Int):Prop:=∃ad o t u n,v=.ref ad/\h.get? ad=some o/\o.cls=.type "tuple"/\o.data=.seq #[.int a t,.int b u] n
def Oj(h:Heap)(v:Value)(c a b:Int):Prop:=∃ad o t n x,v=.ref ad/\h.get? ad=some o/\o.cls=.type "tuple"/\o.data=.seq #[.int c t,x] n/\yL h x a b
def TK(h:Heap)(v:Value):List Int->Prop
 |[a,b]=>yL h v a b
 |[c,a,b]=>Oj h v c a b
 |_=>False
theorem yL.keep {h h':Heap}{v:Value}{a b:Int}(k:∀b o xs n,o.cls=Value.type "tuple"->o.data=.seq xs n->h.get? b=some o->h'.get? b=some o):yL h v a b->yL h' v a b
 |⟨ad,o,t,u,n,e,h1,h2,h3⟩=>⟨ad,o,t,u,n,e,k _ _ _ _ h2 h3 h1,h2,h3⟩
theorem TK.keep {h h':Heap}{v:Value}(k:∀b o xs n,o.cls=Value.type "tuple"->o.data=.seq xs n->h.get? b=some o->h'.get? b=some o):∀{ky:List Int},TK h v ky->TK h' v ky
 |[a,b],x=>yL.keep k x
 |[c,a,b],⟨ad,o,t,n,y,e,h1,h2,h3,h4⟩=>⟨ad,o,t,n,y,e,k _ _ _ _ h2 h3 h1,h2,h3,yL.keep k h4⟩
 |[],x=>x.elim
 |[_],x=>x.elim
 |_::_::_::_::_,x=>x.elim
theorem TK.shape {h:Heap}{v:Value}:∀{ky:List Int},TK h v ky->(∃a b,ky=[a,b])\/∃c a b,ky=[c,a,b]
 |[a,b],_=>.inl ⟨a,b,rfl⟩
 |[c,a,b],_=>.inr ⟨c,a,b,rfl⟩
 |[],x=>x.elim
 |[_],x=>x.elim
 |_::_::_::_::_,x=>x.elim
section
variable {prog:Program}{w:World}{A:Around}{E:Value->Shared->Prop}{s:Shared}
theorem mi{a b:Int}{l m:List Int}:decide (a::l<b::m)=(decide (a<b)||(a==b&&decide (l<m))):=by
 rw[Bool.eq_iff_iff,cA,o_,aM,cA,cA,g6];exact List.cons_lt_cons_iff
theorem Cw:decide (([]:List Int)<[])=false:=rfl
theorem yL.key {h:Heap}{v:Value}{a b:Int}(x:yL h v a b):∃ad,v=.ref ad/\(tupleKind (av prog w)).is h [.inl a,.inl b] ad:=by
 obtain⟨ad,o,t,u,n,rfl,h1,h2,h3⟩:=x;exact⟨ad,rfl,o,_,n,h1,h2,h3,.cons (Fu (k:=.inl a) (t:=t)) (.cons (Fu (k:=.inl b) (t:=u)) .nil)⟩
theorem Iz{v v':Value}{a b a' b':Int}{Q:Bool->Shared->Prop}(hx:yL s.heap v a b)(hy:yL s.heap v' a' b')(eC:([a,b]:List Int)≠[a',b'])(h:Q (decide ([a,b]<[a',b'])) s):wpAny (model prog w) A (keyLt' (tuples' true) v v') Q E s:=by
 obtain⟨ad,o,t,u,n,rfl,h1,h2,h3⟩:=hx;obtain⟨UJ,o',t',u',n',rfl,Ii,HY,AK⟩:=hy;rw[mi,mi,Cw]at h;refine PySem.W.kat_lt h1 h3 Ii AK (lr (lA ?_));by_cases z:a=a'
 ·subst z;rw[br];refine PySem.W.kat_yes (lr (lA ?_));have hb:b≠b':=fun e=>eC (by rw[e]);rw[du hb];refine lC (PySem.W.kat_one _ _ (wpAny_lt_int ?_));rw[a_ (Int.lt_irrefl a),br,du hb]at h;show Q (decide (b<b')) s;simpa using h
 ·rw[du z];refine lC (oneLt_int ?_);rw[du z]at h;simpa using h
theorem IA{v v':Value}{c a b c' a' b':Int}{Q:Bool->Shared->Prop}(hu:A.units<cLine)(hx:Oj s.heap v c a b)(hy:Oj s.heap v' c' a' b')(eC:([c,a,b]:List Int)≠[c',a',b'])(h:Q (decide ([c,a,b]<[c',a',b'])) s):wpAny (model prog w) A (keyLt' (tuples' true) v v') Q E s:=by
 obtain⟨ad,o,t,n,x,rfl,h1,h2,h3,R4⟩:=hx;obtain⟨UJ,o',t',n',x',rfl,Ii,HY,AK,R8⟩:=hy;rw[mi]at h;refine PySem.W.kat_lt h1 h3 Ii AK (lr (lA ?_));by_cases z:c=c'
 ·subst z;rw[br];obtain⟨b1,rfl,k1⟩:=yL.key (prog:=prog) (w:=w) R4;obtain⟨b2,rfl,k2⟩:=yL.key (prog:=prog) (w:=w) R8;have hb:([a,b]:List Int)≠[a',b']:=fun e=>eC (by rw[e]);refine PySem.W.kat_yes (lr ((tupleKind (av prog w)).eqBool hu k1 k2 ?_));have hk:([.inl a,.inl b]:List Key)≠[.inl a',.inl b']:=fun e=>hb (by injection e with e1 e2;injection e2 with e2 _;injection e1 with e1;injection e2 with e2;rw[e1,e2]);rw[a_ hk];obtain⟨_,ob,tb,ub,nb,e,g1,g2,g3⟩:=R4;cases e;obtain⟨_,UK,UL,UM,UN,e,UO,UP,UQ⟩:=R8;cases e;refine lC (PySem.W.kat_one _ _ (HT.wF ⟨ob,g1,g2,nb,g3⟩ ⟨UK,UO,UP,UN,UQ⟩ (.cons a tb (.cons b ub .nil)) (.cons a' UL (.cons b' UM .nil)) hu ?_));show Q (HT.lexLt [a,b] [a',b']) s;have e:HT.lexLt [a,b] [a',b']=decide ([a,b]<[a',b']):=by
   rw[mi,mi,Cw];unfold HT.lexLt;by_cases q:a=a'
   ·subst q;rw[br,a_ (Int.lt_irrefl a)];have Pg:b≠b':=fun e=>hb (by rw[e]);simp[HT.lexLt,Pg]
   ·simp[q,HT.lexLt]
  rw[e];rw[a_ (Int.lt_irrefl c),br]at h;simpa using h
 ·rw[du z];refine lC (oneLt_int ?_);rw[du z]at h;simpa using h
theorem FY{v v':Value}{k k':List Int}{Q:Bool->Shared->Prop}(hu:A.units<cLine)(hx:TK s.heap v k)(hy:TK s.heap v' k')(hl:k.length=k'.length)(eC:k≠k')(h:Q (decide (k<k')) s):wpAny (model prog w) A (keyLt' (tuples' true) v v') Q E s:=by
 rcases hx.shape with⟨a,b,rfl⟩|⟨c,a,b,rfl⟩<;>rcases hy.shape with⟨a',b',rfl⟩|⟨c',a',b',rfl⟩
 ·exact Iz hx hy eC h
 ·cases hl
 ·cases hl
 ·exact IA hu hx hy eC h
end
theorem Cy{h:Heap}{v:Value}{k:List Int}(x:TK h v k):∃a o xs n i t,v=.ref a/\h.get? a=some o/\o.cls=.type "tuple"/\o.data=.seq xs n/\xs[0]?=some (.int i t):=by
 match k,x with
 |[a,b],⟨ad,o,t,u,n,e,h1,h2,h3⟩=>exact⟨ad,o,_,n,a,t,e,h1,h2,h3,rfl⟩
 |[c,a,b],⟨ad,o,t,n,y,e,h1,h2,h3,_⟩=>exact⟨ad,o,_,n,c,t,e,h1,h2,h3,rfl⟩
theorem kB{h:Heap}:∀{vs:List Value} {ks:List (List Int)},vs.length=ks.length->(∀(i:Nat) (v:Value) (k:List Int),vs[i]?=some v->ks[i]?=some k->TK h v k)->∃fs:List Value,PySem.W.KatTups h vs fs/\fs.length=ks.length/\∀v∈fs,∃z t,v=Value.int z t
 |[],[],_,_=>⟨[],.nil,rfl,fun v m=>(nomatch m)⟩
 |[],_::_,e,_=>by cases e
 |_::_,[],e,_=>by cases e
 |v::vs,k::ks,e,kk=>by
  obtain⟨a,o,xs,n,i,t,rfl,h1,h2,h3,h4⟩:=Cy (kk 0 v k rfl rfl);obtain⟨fs,q1,q2,q3⟩:=kB (vs:=vs) (ks:=ks) (by simpa using e) fun i b y e1 e2=>kk (i+1) b y (by simpa using e1) (by simpa using e2);refine⟨.int i t::fs,.cons h1 h2 h3 h4 q1,by rw[bb,bb,q2],fun v m=>?_⟩;rcases aO.mp m with rfl|m
  ·exact⟨i,t,rfl⟩
  ·exact q3 v m
section
variable {prog:Program}{w:World}{A:Around}{E:Value->Shared->Prop}{s:Shared}
theorem cQ{α:Type}(d:α)(l:List α):(List.range l.length).map (fun i=>l.getD i d)=l:=by
 refine List.ext_getElem (by simp) fun i h1 h2=>?_
 simp[h2]
theorem Ak{L D:Addr}{m:Str->Option Value}{vs:List Value}{ks:List (List Int)}{n0:Nat}{P:PySem.Fin->Shared->Prop}(hu:A.units<cLine)(zu:s.heap.Ns L m)(Ol:D≠L)(ho:s.heap.get? D=some (seqObj "list" vs.toArray n0))(hl:vs.length=ks.length)
  (ht:∀(i:Nat) (v:Value) (k:List Int),vs[i]?=some v->ks[i]?=some k->TK s.heap v k) (EG:ks.Nodup) (AL:ks.length<64) (vN:∀k∈ks,∀k'∈ks,k.length=k'.length)
  (h:∀h' c,(∀b o,b≠L->b≠D->s.heap.get? b=some o->h'.get? b=some o)->h'.Ns L m->h'.get? D=some (seqObj "list" ((bQ ks).map fun i=>vs.getD i Value.none).toArray c)->P (.done (.ret .none)) {s with heap:=h'}):
  wpAny (model prog w) A (Builtin.«list.sort» ⟨[.ref D],[]⟩) P E s:=by
 by_cases h2:ks.length<2
 ·refine nN ho (by rw[hl];exact h2) fun h' c kp hD=>?_
  refine h h' c (fun b o _ n e=>kp b o n e) ?_ (by rw[mh h2,<-hl,cQ];exact hD)
  obtain⟨o,es,xC,zk,r'⟩:=zu;exact⟨o,es,xC,kp _ _ Ol.symm zk,r'⟩
 ·have h2:2<=ks.length:=by omega
  obtain⟨p,er,hp,hs⟩:=vp (yK EG) h2;have ep:=sr EG hp hs;have F:Fr tN L s.heap m:=⟨zu,(fun b o e=>by rw[jw]at e;cases e),bx _⟩;have N:News tN L s.heap (tR s.heap L D):=fun t ht=>by
   obtain⟨n1,n2,e⟩:=fm.mp (show(t.1,t.2)∈_ from ht);exact⟨e,n1,jw _⟩
  refine PySem.W.kat_list_sort F N ho Ol (jw _) (fun t ht=>(fm.mp (show(t.1,t.2)∈_ from ht)).2.1) (by rw[hl];exact h2) (by rw[hl];exact AL) fun e1 h' F' N'=>?_
  have kt:∀b o xs n,o.cls=Value.type "tuple"->o.data=.seq xs n->s.heap.get? b=some o->h'.get? b=some o:=fun b o xs n hc hd e=>by
   have nL:b≠L:=fun z=>by
    obtain⟨o',es,xC,zk,hx,_⟩:=zu;rw[z,zk]at e;cases e;rw[hx]at hd;cases hd
   have nD:b≠D:=fun z=>by
    rw[z,ho]at e;cases e;exact absurd (show Value.type "list"=Value.type "tuple"from hc) (by decide)
   exact(N' (b,o) (aR _ (fm.mpr ⟨nL,nD,e⟩))).1
  have tp:∀(i:Nat) (v:Value) (k:List Int),vs[i]?=some v->ks[i]?=some k->TK h' v k:=fun i v k e1 e2=>(ht i v k e1 e2).keep kt
  obtain⟨fs,aC,fl,IB⟩:=kB hl tp;refine PySem.W.kat_kind (T:=.type "int") aC (by rw[fl];omega) (fun v hv=>by obtain⟨z,t,rfl⟩:=IB v hv;exact .of_pure rfl) (by decide) ?_
  rw[show(Value.type "int" !=Value.type "tuple")=true by decide,hl];refine mU (fun i j C hi hj qR hC=>?_) _ er ?_
  ·have vi:vs[i]?=some (vs[i]'(by omega)):=aH (by omega)
   have vj:vs[j]?=some (vs[j]'(by omega)):=aH (by omega)
   have ki:ks[i]?=some ks[i]:=aH hi
   have kj:ks[j]?=some ks[j]:=aH hj
   show wpAny _ _ (keyLt' _ (vs.getD i Value.none) (vs.getD j Value.none)) _ _ _;rw[bt,bt,vi,vj];refine FY hu (tp i _ _ vi ki) (tp j _ _ vj kj) (vN _ (gQ hi) _ (gQ hj)) (fun e=>qR ((il EG).mp e)) ?_
   unfold Oi at hC;rw[bt,bt,ki,kj]at hC;exact hC
  ·refine PySem.W.KasFin.intro F' N' (.head fun t ht=>(fm.mp (show(t.1,t.2)∈_ from ht)).2.1) fun UR c US R9=>?_
   refine h UR c (fun b o n1 n2 e=>(R9 (b,o) (aR _ (fm.mpr ⟨n1,n2,e⟩))).1) US.ns ?_
   rw[<-ep];exact(R9 _ (aK ..)).1
end
end L2
namespace L2
open PySem PySem.Spec PySem.Calls PyProof.Rows
def Cz:Tr->Option (List Int)
 |.tup [.int a,.int b]=>some [a,b]
 |.tup [.int c,.tup [.int a,.int b]]=>some [c,a,b]
 |_=>none
def dG(t:Tr):List Int:=(Cz t).getD []
def qT(ts:List Tr):Bool:=(ts.all fun t=>(Cz t).isSome)&&(decide (ts.length<64)&&(decide ((ts.map dG).Nodup)&&((ts.all fun t=>(dG t).length==2)||(ts.all fun t=>(dG t).length==3))))
def cR(ts:List Tr):List Tr:=ts.mergeSort fun a b=>m4 (dG a) (dG b)
theorem qm{ts:List Tr}(h:qT ts=true):(∀t∈ts,Cz t=some (dG t))/\ts.length<64/\(ts.map dG).Nodup/\∀k∈ts.map dG,∀k'∈ts.map dG,k.length=k'.length:=by
 unfold qT at h;rw[aM,aM,aM,cA,cA]at h;obtain⟨h1,h2,h3,h4⟩:=h;refine⟨fun t ht=>?_,h2,h3,fun k hk k' EH=>?_⟩
 ·have q:=bM.mp h1 t ht;unfold dG;cases e:Cz t with
  |none=>rw[e]at q;cases q
  |some k=>rfl
 ·obtain⟨t,ht,rfl⟩:=a9.mp hk;obtain⟨t',F0,rfl⟩:=a9.mp EH;rw[o_]at h4;rcases h4 with h4|h4
  ·exact(eq_of_beq (bM.mp h4 t ht)).trans (eq_of_beq (bM.mp h4 t' F0)).symm
  ·exact(eq_of_beq (bM.mp h4 t ht)).trans (eq_of_beq (bM.mp h4 t' F0)).symm
theorem EI{ts:List Tr}(nd:(ts.map dG).Nodup){a b:Tr}(ha:a∈ts)(hb:b∈ts)(e:dG a=dG b):a=b:=by
 obtain⟨i,hi⟩:=iP ha;obtain⟨j,hj⟩:=iP hb;obtain⟨Qo,MO⟩:=cJ.mp hi;obtain⟨Qp,MP⟩:=cJ.mp hj;have q:(ts.map dG)[i]'(by rw[ai];exact Qo)=(ts.map dG)[j]'(by rw[ai];exact Qp):=by
  rw[gR,gR,MO,MP,e]
 have z:=(il nd).mp q;subst z;rw[<-MO,<-MP]
theorem sv{ts:List Tr}(nd:(ts.map dG).Nodup):(bQ (ts.map dG)).map (fun i=>ts.getD i .bU)=cR ts:=by
 have hp:((bQ (ts.map dG)).map fun i=>ts.getD i .bU).Perm ts:=by
  have q:=(cP (ts.map dG)).map fun i=>ts.getD i .bU;rw[ai,cQ]at q;exact q
 have GP:(cR ts).Perm ts:=jO _ _;refine kP (le:=fun a b=>m4 (dG a) (dG b)=true) (fun a b ha hb h1 h2=>EI nd (hp.mem_iff.mp ha) (GP.mem_iff.mp hb) (jE h1 h2)) ?_ (kT (le:=fun a b=>m4 (dG a) (dG b)) (fun a b c h1 h2=>jU h1 h2) (fun a b=>jV _ _) _) (hp.trans GP.symm)
 rw[iT];refine(jF (ts.map dG)).imp_of_mem fun{i j} hi hj e=>?_
 have tj:=cH hi;have vq:=cH hj;rw[ai]at tj vq;rw[bt,bt,aS,aS,aH tj,aH vq]at e;rw[bt,bt,aH tj,aH vq];exact e
theorem t7{f:Nat->V}{g:Nat->Value}:∀{p:List Nat},(∀i∈p,RelV (f i) (g i))->Vals (p.map f) (p.map g)
 |[],_=>.nil
 |i::p,h=>.cons (h i (aK ..)) (t7 fun j m=>h j (aR _ m))
section
variable {X:Cx}{pins:List (Addr×Obj)}{σ:St}{H:Hp}{s:Shared}{B:bD}
theorem yM(I:Inv X pins σ H s){v:V}{a b:Int}{u:Value}(r:Rep X.K (aN B H) v (.tup [.int a,.int b]))(rv:RelV v u):yL s.heap u a b:=by
 obtain⟨ad,us,rfl,hq,rr⟩:=r.jk;cases(show u=Value.ref ad from rv);obtain⟨x1,x2,rfl,r1,r2⟩:=pM rr;obtain⟨aT,AI,⟨o,h1,h2,n,h3⟩,_⟩:=I.tuple (.inl (.inl (aD _ _ hq)));obtain⟨u1,u2,rfl,e1,e2⟩:=vals2 AI;cases r1.int_inv;cases r2.int_inv;obtain⟨t1,rfl⟩:=e1;obtain⟨t2,rfl⟩:=e2;exact⟨ad,o,t1,t2,n,rfl,h1,h2,h3⟩
theorem IC(I:Inv X pins σ H s){v:V}{t:Tr}{k:List Int}{u:Value}(r:Rep X.K (aN B H) v t)(e:Cz t=some k)(rv:RelV v u):TK s.heap u k:=by
 unfold Cz at e;split at e
 ·cases e;exact yM I r rv
 ·cases e;obtain⟨ad,us,rfl,hq,rr⟩:=r.jk;cases(show u=Value.ref ad from rv);obtain⟨x1,x2,rfl,r1,r2⟩:=pM rr;obtain⟨aT,AI,⟨o,h1,h2,n,h3⟩,_⟩:=I.tuple (.inl (.inl (aD _ _ hq)));obtain⟨u1,u2,rfl,e1,e2⟩:=vals2 AI;cases r1.int_inv;obtain⟨t1,rfl⟩:=e1;exact⟨ad,o,t1,n,u2,rfl,h1,h2,h3,yM I r2 e2⟩
 ·cases e
theorem qv{Q:VK}(hu:X.A.units+4<cLine)(I:Inv X pins σ H s){h1:Heap}{tk:Nat}{d:Drawn}(CA:∀b o,s.heap.get? b=some o->h1.get? b=some o){vs:List V}{us:List Value}{ks:List (List Int)}(rv:Vals vs us)(hl:us.length=ks.length)
  (ht:∀(i:Nat) (v:Value) (k:List Int),us[i]?=some v->ks[i]?=some k->TK s.heap v k) (EG:ks.Nodup) (AL:ks.length<64) (vN:∀k∈ks,∀k'∈ks,k.length=k'.length)
  (q:∀D,H D=none->Q (.ref D) (upd H D (.lst ((bQ ks).map fun i=>vs.getD i .bU)))) {P:PySem.Fin->Shared->Prop} {E:Value->Shared->Prop}
  (hP:∀s',EP X pins σ Q (.ref h1.objs.size) s'->P (.done (.ret .none)) s'):
  wpAny (model X.prog X.w) X.A.in1.in1 (Builtin.«list.sort» ⟨[.ref h1.objs.size],[]⟩) P E {s with heap:=h1.push (seqObj "list" us.toArray 0),toks:=tk,drawn:=d}:=by
 obtain⟨m,zu,_⟩:=id I.loc;have Dj:(h1.push (seqObj "list" us.toArray 0)).get? h1.objs.size=some (seqObj "list" us.toArray 0):=aQ _ rfl;have J:Inv X pins σ H {s with heap:=h1,toks:=tk}:=I.kept CA;have ID:H h1.objs.size=none:=J.fresh;have UT:iL X pins H h1.objs.size:=J.uD (ak _) ID;have UU:X.dS.heap.objs.size<=h1.objs.size:=J.sz;have Ol:h1.objs.size≠X.env.locals:=bY J.lt;have Qq:(h1.push (seqObj "list" us.toArray 0)).Ns X.env.locals m:=by
  obtain⟨o,es,xC,ho,r'⟩:=zu;exact⟨o,es,xC,ay _ (CA _ _ ho),r'⟩
 refine Ak (s:={s with heap:=h1.push (seqObj "list" us.toArray 0),toks:=tk,drawn:=d}) (ks:=ks) (by show X.A.units+1+1<cLine;omega) Qq Ol Dj hl (fun i v k e1 e2=>(ht i v k e1 e2).keep fun b o _ _ _ _ e=>ay _ (CA b o e)) EG AL vN fun h' c kp Js hD=>hP _ ?_
 have UW:∀b o,s.heap.get? b=some o->b<h1.objs.size:=fun b o e=>aA (CA b o e);have I1:Inv X pins σ H {s with heap:=h',toks:=tk}:=I.BQ zu Js fun b o n e=>kp b o n (aP (UW b o e)) (ay _ (CA b o e));have VX:vs.length=us.length:=rv.length;have I2:=I1.adopt (o:=.lst ((bQ ks).map fun i=>vs.getD i .bU)) UU ⟨ID,UT.2⟩ ⟨by rw[ai,(cP ks).length_eq,fK,bG];omega,_,c,t7 fun i hi=>?_,hD⟩
 ·exact⟨.ref h1.objs.size,_,I2.El d,rfl,q _ ID⟩
 ·have NS:=cH hi;have R_:i<vs.length:=by omega
  obtain⟨u,eu,ru⟩:=rv.get (aH R_);rw[bt,bt,eu,aH R_];exact ru
def CB(ts:List Tr):Rs Tr:=if qT ts=true then .ok (.lst (cR ts))else .bad
def qw:List Tr->Rs Tr
 |[.lst ts]=>CB ts
 |[.tup ts]=>CB ts
 |_=>.bad
theorem sx{ts:List Tr}{vs:List V}{K:PySem.W.Frag}{W:Vw}(h:qT ts=true)(rr:aI K W vs ts):aI K W ((bQ (ts.map dG)).map fun i=>vs.getD i .bU) (cR ts):=by
 obtain⟨_,_,nd,_⟩:=qm h;rw[<-sv nd];refine tT fun i hi=>?_
 have hit:=cH hi;rw[ai]at hit;obtain⟨v,ev,rv⟩:=rr.get (aH hit);rw[bt,bt,ev,aH hit];exact rv
theorem Al(I:Inv X pins σ H s){ts:List Tr}{vs:List V}{us:List Value}(h:qT ts=true)(rr:aI X.K (aN B H) vs ts)(rv:Vals vs us):us.length=(ts.map dG).length/\∀(i:Nat) (v:Value) (k:List Int),us[i]?=some v->(ts.map dG)[i]?=some k->TK s.heap v k:=by
 obtain⟨hk,_,_,_⟩:=qm h;refine⟨by rw[ai,<-rr.length,rv.length],fun i v k e1 e2=>?_⟩;rw[aS]at e2;cases et:ts[i]? with
 |none=>rw[et]at e2;cases e2
 |some t=>
  rw[et]at e2;cases e2;obtain⟨w',ew,jc⟩:=rr.get et;obtain⟨u,eu,ru⟩:=rv.get ew;rw[e1]at eu;cases eu;exact IC I jc (hk t (bu et)) ru
theorem Am(hu:X.A.units+4<cLine):hW X (.builtin "sorted") qw:=by
 intro pins s σ H xs us Q I rv ⟨B,ts,hb,r,q⟩;have key:∃tr mN,ts=[tr]/\(tr=.lst mN\/tr=.tup mN)/\qT mN=true/\∀v H',au H H'->Rep X.K (aN B H') v (.lst (cR mN))->Q v H':=by
  unfold qw at q;split at q
  ·obtain⟨h0,z⟩:=fj (show Fi X H (if qT _=true then _ else _) _ from q);exact⟨_,_,rfl,.inl rfl,h0,z⟩
  ·obtain⟨h0,z⟩:=fj (show Fi X H (if qT _=true then _ else _) _ from q);exact⟨_,_,rfl,.inr rfl,h0,z⟩
  ·exact(show False from q).elim
 obtain⟨tr,mN,rfl,P8,ok,k⟩:=key;obtain⟨x,rfl,h⟩:=gb r;obtain⟨u,rfl,ru⟩:=vals1 rv;have src:∃(a:Addr) (vs:List V) (tn:String) (o:Obj) (aT:List Value) (n:Nat),x=.ref a/\(tn="list"\/tn="tuple")/\aI X.K (aN B H) vs mN/\Vals vs aT/\s.heap.get? a=some o/\o.cls=.type tn/\o.data=.seq aT.toArray n:=by
  rcases P8 with rfl|rfl
  ·obtain⟨a,vs,rfl,h,rr⟩:=h.lst_inv;obtain⟨z0,aT,n0,wk,hx⟩:=(show bg X.prog X.w H s.heap a (.lst vs)from I.bC a _ (eO h));exact⟨a,vs,"list",_,aT,n0,rfl,.inl rfl,rr,wk,hx,rfl,rfl⟩
  ·obtain⟨a,vs,rfl,h,rr⟩:=h.jk;obtain⟨_,aT,wk,o,hx,c1,n0,c2,c3⟩:=(show bg X.prog X.w H s.heap a (.tup vs)from I.bC a _ (aD _ _ h));exact⟨a,vs,"tuple",o,aT,n0,rfl,.inr rfl,rr,wk,hx,c1,c2⟩
 obtain⟨a,vs,tn,o,aT,n,rfl,Mx,rr,wk,ho,hc,hd⟩:=src;cases(show u=Value.ref a from ru);obtain⟨_,AL,nd,same⟩:=qm ok;obtain⟨hl,ht⟩:=Al I ok rr wk;have hz:aT.length<=64:=by rw[hl,ai];omega
 refine call_function_entry kind_sorted plain_sorted entry_sorted (args_sorted1 _) ?_
 unfold Builtin.«sorted»;refine aa (m:=checkCount "sorted" 1 1 _) (af ?_);refine aa (wpAny_collect_seq a Mx ho hc hd (fun h1 CA=>?_) (by simpa using bo hz (by decide)));refine aa (i8 ?_ (by simpa using bo hz (by decide)));have Dj:(h1.push (seqObj "list" aT.toArray 0)).get? h1.objs.size=some (seqObj "list" aT.toArray 0):=aQ _ rfl;refine aa (cn (cT slot_list_sort ⟨_,Dj,rfl⟩ entry_list_sort (qv (tk:=s.toks) (d:=s.drawn) hu I CA wk hl ht nd (by rw[ai];exact AL) same (fun D hD=>k _ _ (au.upd hD) (.wR hb hD (sx ok rr))) fun s' he=>⟨_,rfl,af ⟨_,rfl,he⟩⟩) (args_list_sort _)))
end
end L2
namespace L2
open PySem PySem.Spec PyProof.Rows
section
variable {prog:Program}{w:World}{A:Around}{R:Result->Shared->Prop}{I S:Addr}{fp:List Addr}{n:Nat}{P:Nat->Value->Prop}{St:Nat->Heap->Prop}
theorem An(hu:A.units+1<cLine)(W:Walks prog w A.in1 I fp [I] n P St)(Om:S∉fp)(val:Nat->List Key×Addr)(IE:∀i v,P i v->v=.ref (val i).2)(hn:n<=18){h0:Heap}(MQ:h0.get? S=none)(Mw:h0.get? I=none)
  (Ek:∀i,i<n->∀h':Heap,(∀b o,h0.get? b=some o->h'.get? b=some o)->(tupleKind (av prog w)).is h' (val i).1 (val i).2) (eC:∀i j,i<n->j<n->i≠j->(val i).1≠(val j).1):
  ∀(k i:Nat) (s:Shared),n - i=k->i<=n->St i s.heap->(∀b o,h0.get? b=some o->s.heap.get? b=some o)->mf prog w s.heap S ((List.range i).map val)->
   (∀h' tk,(∀b o,b≠S->b≠I->s.heap.get? b=some o->h'.get? b=some o)->mf prog w h' S ((List.range n).map val)->R (.ok (.ret .none)) {s with heap:=h',toks:=tk})->
   codeAny (model prog w) A (.builtin "set.update.loop" ⟨[.ref S,.ref I],[]⟩) R s:=by
 have UX:I∈fp:=W.sub I (by simp);have JR:S≠I:=fun e=>Om (e▸UX);have nS:∀{b:Addr} {o:Obj},h0.get? b=some o->b≠S:=fun{b o} e z=>by rw[z,MQ]at e;cases e
 have nI:∀{b:Addr} {o:Obj},h0.get? b=some o->b≠I:=fun{b o} e z=>by rw[z,Mw]at e;cases e
 intro k
 induction k with
 |zero=>
  intro i s hk hi cS R' hS hR;have lT:i=n:=by omega
  subst lT;refine dv F.entry_set_update_loop ?_
  rw[dJ oV _];show wpAny _ A.in1 (pyNext (.ref I)>>=_) _ _ s;refine aa (W.done s _ _ cS fun h' tk kk=>?_);show wpAny _ A.in1 (ret Value.none) _ _ _;exact af (hR h' tk (fun b o _ h2 e=>kk b o (by simpa using h2) e) (hS.keep fun o e=>kk S o (by simpa using JR) e))
 |succ k ih=>
  intro i s hk hi cS R' hS hR;have eB:i<n:=by omega
  refine dv F.entry_set_update_loop ?_
  rw[dJ oV _];show wpAny _ A.in1 (pyNext (.ref I)>>=_) _ _ s;refine aa (W.item i s _ _ eB cS fun v h1 nQ hP Qr kk=>?_);have ev:=IE i v hP;subst ev;have Qs:∀b o,h0.get? b=some o->h1.get? b=some o:=fun b o e=>kk b o (by simpa using nI e) (R' b o e);have Qi:mf prog w h1 S ((List.range i).map val):=hS.keep fun o e=>kk S o (by simpa using JR) e;have IF:=Ek i eB h1 Qs;show wpAny _ A.in1 (holding [.ref (val i).2] (setAdd S (.ref (val i).2))>>=_) _ _ _;refine aa (cn ?_);unfold setAdd;refine cn ?_
  refine aa ((tupleKind (av prog w)).pyHash (s:={s with heap:=h1,toks:=nQ}) (ik hu) IF ?_);refine Qm (s:={s with heap:=h1,toks:=nQ+(tupleKind (av prog w)).draws (val i).1}) hu Qi (by rw[ai,fK];omega) IF (fun p hp=>?_) fun h2 sb Sa=>?_
  ·obtain⟨j,hj,rfl⟩:=a9.mp hp;have hj:=cD.mp hj;exact⟨Ek j (by omega) h1 Qs,eC j i (by omega) eB (by omega)⟩
  have Ej:∀b o,b≠S->h1.get? b=some o->h2.get? b=some o:=fun b o hb e=>(sb.2 b hb).trans e;have er:(List.range i).map val++[((val i).1,(val i).2)]=(List.range (i+1)).map val:=by rw[List.range_succ,cX];rfl
  rw[er]at Sa;refine af ⟨cZ oV _,ih (i+1) _ (by omega) eB (W.frame _ _ _ Qr fun b hb o e=>Ej b o (fun z=>Om (z▸hb)) e) (fun b o e=>Ej b o (nS e) (Qs b o e)) Sa fun h' tk UY yN=>?_⟩;exact hR h' tk (fun b o xb DO e=>UY b o xb DO (Ej b o xb (kk b o (by simpa using DO) e))) yN
end
end L2
namespace PySem
section
variable {prog:Program}{w:World}{A:Around}{E:Value->Shared->Prop}{s:Shared}
set_option maxHeartbeats 3200000 in
theorem CC{l:Addr}{items:Array Value}{val:Nat->List L2.Key×Addr}{Q:Value->Shared->Prop}(hu:A.units+6<cLine)(hh:A.handled=none)(hl:s.heap.IsList l items)(hv:∀(i:Nat) (v:Value),items[i]?=some v->v=.ref (val i).2)(hn:items.size<=18)
  (Ek:∀i,i<items.size->∀h':Heap,(∀b o,s.heap.get? b=some o->h'.get? b=some o)->(tupleKind (L2.av prog w)).is h' (val i).1 (val i).2) (eC:∀i j,i<items.size->j<items.size->i≠j->(val i).1≠(val j).1)
  (h:∀(h':Heap) (tk:Nat),L2.mf prog w h' s.heap.objs.size ((List.range items.size).map val)->(∀b o,b<s.heap.objs.size->s.heap.get? b=some o->h'.get? b=some o)->Q (.ref s.heap.objs.size) {s with heap:=h',toks:=tk}):
  wpAny (model prog w) A (call (.type "set") [.ref l]) Q E s:=by
 obtain⟨c,tl,UZ⟩:=fb.mro;have Sb:=fb.made;have HC:=fb.sub;refine wpAny_call (codeAny_of_tree ?_);show wpAny _ _ (callAny (.type "set") _) _ _ _;refine af ⟨Code.quiet_builtin _ (by decide+kernel),dv F.entry_type_call ?_⟩;rw[Around.under_plain (weight_type_call_type "set" [.ref l] []) rfl];have h1:=fb.notType;have h2:=fb.canCreate;have VY:=F.typeCall_set_1 (.ref l)
 repeat(any_goals (first|assumption|wp_step))
 refine e_ (BD (.ref l) (E:=E) (Q₁:=fun obj bJ=>obj=.ref s.heap.objs.size/\bJ={s with heap:=s.heap.push {cls:=.type "set",dict:=none,data:=.set #[] 0 (.fresh 0 0 (!L2.uj w))}}) ⟨rfl,rfl⟩) fun r bJ hr=>?_
 cases r with
 |error e=>exact hr
 |ok fl=>
  cases fl with
  |ret obj=>
   obtain⟨rfl,rfl⟩:=hr;generalize Qt:({cls:=.type "set",dict:=none,data:=.set #[] 0 (.fresh 0 0 (!L2.uj w))}:Obj)=ob;have hS:(s.heap.push ob).get? s.heap.objs.size=some ob:=aQ _ (by rw[<-Qt];rfl);have hT:Shared.TypeIs {s with heap:=s.heap.push ob} (.ref s.heap.objs.size) "set":=⟨_,hS,by rw[<-Qt]⟩;have JN:=fb.init.lookup;have VZ:=fb.init.bind (.ref s.heap.objs.size)
   repeat(any_goals (first|assumption|wp_step))
   refine e_ (codeAny_call_builtin (R:=wants (fun r mE=>r=.none/\∃h' tk,mE={s with heap:=h',toks:=tk}/\L2.mf prog w h' s.heap.objs.size ((List.range items.size).map val)/\
     (∀b o,b<s.heap.objs.size->s.heap.get? b=some o->h'.get? b=some o)) E) fb.init.plain F.entry_set_init (check_set_init_1 hT ?_)) fun Qu mE CD=>?_
   ·obtain⟨ol,JG,wH,nl,JH⟩:=hl;obtain⟨U0,MR,Sd,IG⟩:=ol;simp only at wH JH;subst wH;subst JH;have Qv:(s.heap.push ob).get? l=some {cls:=.type "list",dict:=MR,data:=.seq items nl,slots:=IG}:=ay _ JG;have U1:=F.sub_list_set;have U2:=F.sub_list_frozenset;have U3:(Value.type "list"==Value.type "dict")=false:=by decide
    have AH:(s.heap.push ob).IsList l items:=⟨_,Qv,rfl,nl,rfl⟩;subst Qt;unfold Builtin.«set.__init__» noKeywords Builtin.Frozenset.updateFrom;generalize U4:pyIter=PI
    wp_walk
    subst U4;refine gS AH ?_
    refine aa (wpAny_runValue ?_);have Se:l<s.heap.objs.size:=aA JG;have U5:A.in1.in1.in1.handled=none:=by simp[hh]
    generalize hsz:(s.heap.push {cls:=.type "set",dict:=none,data:=.set #[] 0 (.fresh 0 0 (!L2.uj w))}).objs.size=I at*;have EJ:I=s.heap.objs.size+1:=by rw[<-hsz,eZ]
    have Qw:l≠I:=by rw[EJ];exact aP (gO Se)
    have Om:s.heap.objs.size∉[I,l]:=by
     simp only[aO,dQ,cN,not_or];exact⟨by rw[EJ];exact aP (iX _),bY Se⟩
    refine L2.An (h0:=s.heap) (by show A.units+1+1+1<cLine;omega) (Walks.list U5 I l Qw items) Om val hv hn (iQ (ak _)) (iQ (by rw[EJ];exact fZ _)) Ek eC (items.size - 0) 0 _ (by omega) (bx _) ⟨⟨_,by rw[<-hsz];exact aQ _ rfl,rfl,rfl⟩,AH.push _⟩ (fun b o e=>ay _ (ay _ e)) ?MQ ?hR
    case MQ=>
     refine⟨_,#[],0,.fresh 0 0 (!L2.uj w),ay _ hS,⟨rfl,rfl,rfl⟩,rfl,List.Perm.refl _,⟨rfl,.inl rfl,(fun x hx=>by cases hx),rfl,(show 0*5<7*3 by decide),List.Pairwise.nil⟩,?_⟩;show L2.uj w=true\/(!L2.uj w)=true;cases L2.uj w<;>simp
    case hR=>
     intro h' tk hk yN;show wpAny _ _ _ _ _ _;refine af ?_
     show wpAny _ _ (ret Value.none) _ _ _;refine af ⟨rfl,h',tk,rfl,yN,fun b o hb e=>?_⟩;exact hk b o (aP hb) (by rw[EJ];exact aP (gO hb)) (ay _ (ay _ e))
   ·cases Qu with
    |error e=>exact CD
    |ok MS=>
     cases MS with
     |ret r=>
      obtain⟨rfl,h',tk,rfl,yN,EH⟩:=CD
      repeat(any_goals (first|assumption|wp_step))
      exact h _ _ yN EH
     |_=>exact CD.elim
  |_=>exact hr.elim
end
end PySem
namespace L2
open PySem PySem.Spec PySem.Calls PyProof.Rows
def yO(w:World)(a:Addr)(vs:List Value):HO:=.ext fun h=>nR w h a vs
theorem mf.toV {prog:Program}{w:World}{h:Heap}{a:Addr}{xs:List (List Key×Addr)}(x:mf prog w h a xs):nR w h a (xs.map fun p=>Value.ref p.2):=by
 obtain⟨o,es,ep,t,ho,hex,hd,hp,tk,hl⟩:=x;refine⟨o,es,ep,t,es.toList,ho,hex,hd,(qf _).symm,?_,trivial,?_,tk.fits,hl,tk.rise⟩
 ·have q:=hp.map (·.2);rw[bf]at q;exact q
 ·have:=tk.JC;rcases tk.ms with e|e<;>rw[e]at this<;>(show es.size<4096;omega)
section
variable {X:Cx}
theorem Ap(hu:X.A.units+6<cLine)(hc:X.calm=true):f_ X (.type "set") (fun xs H Q=>∃(p:Addr) (ts:List (List Key×Addr)),xs=[.ref p]/\g8 X.K H p (ts.map fun t=>V.ref t.2)/\(∀t∈ts,H t.2=some (.tup (t.1.map kV)))/\(ts.map (·.1)).Nodup/\ts.length<=18/\∀a,H a=none->Q (.ref a) (upd H a (yO X.w a (ts.map fun t=>Value.ref t.2)))):=by
 intro pins s σ H xs us Q I r h;obtain⟨p,ts,rfl,hl,hk,nd,hb,q⟩:=h;obtain⟨u,rfl,ru⟩:=vals1 r;cases(show u=Value.ref p from ru);obtain⟨aT,rv,pl,hz⟩:=I.list hl;have hlen:aT.length=ts.length:=by have e:=rv.length;rw[ai]at e;exact e.symm
 have hsz:aT.toArray.size=ts.length:=by rw[a6];exact hlen
 have gi:∀i,i<ts.length->ts.getD i ([],0)=ts[i]! :=fun i hi=>by simp[hi]
 have gd:∀i (hi:i<ts.length),ts.getD i ([],0)=ts[i]:=fun i hi=>by rw[bt,aH hi];rfl
 refine CC (val:=fun i=>ts.getD i ([],0)) hu (I.ok.hd hc) pl.isList (fun i v hv=>?_) (by rw[hsz];exact hb) (fun i hi=>?_) (fun i j hi hj qR=>?_) fun h' tk hS CA=>?_
 ·have Oo:aT[i]?=some v:=by simpa using hv
  have hi:i<ts.length:=by rw[<-hlen];exact(cJ.mp Oo).1
  obtain⟨u,FV,ru⟩:=rv.get (i:=i) (x:=V.ref ts[i].2) (by rw[aS,aH hi];rfl);rw[Oo]at FV;cases FV;rw[gd i hi];exact ru
 ·rw[hsz]at hi;rw[gd i hi];exact fv (jg I.bC (hk _ (gQ hi)))
 ·rw[hsz]at hi hj;rw[gd i hi,gd j hj];intro e;have q:(ts.map (·.1))[i]'(by rw[ai];exact hi)=(ts.map (·.1))[j]'(by rw[ai];exact hj):=by rw[gR,gR,e]
  exact qR ((il nd).mp q)
 ·rw[hsz,cQ]at hS;have hV:=hS.toV;have hf:H s.heap.objs.size=none:=I.fresh;refine⟨.ref s.heap.objs.size,_,I.laid (o:=yO X.w s.heap.objs.size (ts.map fun t=>Value.ref t.2)) (fun b o e=>CA b o (aA e) e) (ak _) ⟨hV,?_,fun h1 h2 x k=>nR.keep x k⟩,rfl,q _ hf⟩;obtain⟨o,_,_,_,_,ho,_⟩:=hV;exact⟨o,ho⟩
theorem nT(hu:X.A.units+6<cLine)(hc:X.calm=true):f_ X (.builtin "sorted") (fun xs H Q=>∃(a:Addr) (ts:List (List Int×Addr)),xs=[.ref a]/\H a=some (yO X.w a (ts.map fun t=>Value.ref t.2))/\(∀t∈ts,t.1.length=2/\H t.2=some (.tup (t.1.map V.int)))/\(ts.map (·.1)).Nodup/\ts.length<64/\
  ∀D,H D=none->Q (.ref D) (upd H D (.lst ((bQ (ts.map (·.1))).map fun i=>(ts.map fun t=>V.ref t.2).getD i .bU)))):=by
 intro pins s σ H xs us Q I r h;obtain⟨a,ts,rfl,ha,hk,nd,AL,q⟩:=h;obtain⟨u,rfl,ru⟩:=vals1 r;cases(show u=Value.ref a from ru);obtain⟨hS,_,_⟩:=(show bg X.prog X.w H s.heap a (.ext fun h=>nR X.w h a (ts.map fun t=>Value.ref t.2))from I.bC a _ ha);refine call_function_entry kind_sorted plain_sorted entry_sorted (args_sorted1 _) ?_
 unfold Builtin.«sorted»;refine aa (m:=checkCount "sorted" 1 1 _) (af ?_);refine aa (t4 (A:=X.A.in1) (I.ok.hd hc) hS (by rw[ai,bG];omega) fun h1 tk d l hp CA hle=>?_);have nE:(l.map rg).Perm (ts.map fun t=>Value.ref t.2):=hp;obtain⟨pR,e',Mg⟩:=perm_back (f:=fun v:Addr=>Value.ref v) (fun v=>match v with|.ref x=>x|_=>0) (fun _=>rfl) (l:=ts.map (·.2)) (es:=l.map rg) (by rw[bf];exact nE);have U6:∀t∈ts,∀t'∈ts,t.2=t'.2->t=t':=fun t ht t' F0 e=>by
  have h1:=(hk t ht).2;have h2:=(hk t' F0).2;rw[e,h2]at h1;have h3:t'.1.map V.int=t.1.map V.int:=by have z:=Option.some.inj h1;injection z
  have h4:t'.1=t.1:=by
   have inj:∀(x y:List Int),x.map V.int=y.map V.int->x=y:=by
    intro x
    induction x with
    |nil=>intro y e;cases y with|nil=>rfl|cons _ _=>cases e
    |cons a x ih=>intro y e;cases y with|nil=>cases e|cons b y=>injection e with e1 e2;injection e1 with e1;rw[e1,ih y e2]
   exact inj _ _ h3
  exact Prod.ext h4.symm e
 have ex:∃tl:List (List Int×Addr),tl.map (·.2)=pR/\tl.Perm ts:=by
  have gen:∀(ys:List Addr) (zs:List (List Int×Addr)),ys.Perm (zs.map (·.2))->∃tl:List (List Int×Addr),tl.map (·.2)=ys/\tl.Perm zs:=by
   intro ys
   induction ys with
   |nil=>intro zs h;have:=h.length_eq;rw[ai]at this;cases zs with|nil=>exact⟨[],rfl,.refl _⟩|cons _ _=>cases this
   |cons y ys ih=>
    intro zs h;obtain⟨z,hz,rfl⟩:=a9.mp (h.mem_iff.mp (aK ..));obtain⟨i,hi,ei⟩:=List.getElem_of_mem hz;have pe:=iy zs i hi;have h2:(z.2::ys).Perm (z.2::(zs.eraseIdx i).map (·.2)):=by
     refine h.trans ?_
     have:=(pe.map (·.2)).symm;rw[aB,ei]at this;exact this
    obtain⟨tl,e1,e2⟩:=ih _ (List.Perm.cons_inv h2);refine⟨z::tl,by rw[aB,e1],?_⟩;rw[ei]at pe;exact(List.Perm.cons z e2).trans pe
  exact gen pR ts Mg
 obtain⟨tl,et,F1⟩:=ex;have oj:l.map rg=(tl.map (·.2)).map Value.ref:=by rw[e',et]
 have IH:(l.map rg).length=tl.length:=by rw[oj,ai,ai]
 have Sf:(tl.map (·.1)).Nodup:=(List.Perm.nodup_iff (F1.map _)).mpr nd;have MT:tl.length<64:=by rw[F1.length_eq];exact AL
 refine aa (i8 ?_ (by rw[IH,bG];omega));have Dj:(h1.push (seqObj "list" (l.map rg).toArray 0)).get? h1.objs.size=some (seqObj "list" (l.map rg).toArray 0):=aQ _ rfl;have wk:Vals (tl.map fun t=>V.ref t.2) (l.map rg):=by
  rw[oj]
  clear oj IH Sf MT et F1
  induction tl with
  |nil=>exact .nil
  |cons t tl ih=>exact .cons rfl ih
 refine aa (cn (cT slot_list_sort ⟨_,Dj,rfl⟩ entry_list_sort (qv (Q:=Q) (tk:=tk) (d:=d) (by omega) I CA wk (ks:=tl.map (·.1)) (by rw[IH,ai]) (fun i v k e1 e2=>?_) Sf (by rw[ai];exact MT) (fun k U7 k' Ej=>?_) (fun D hD=>?_) fun s' he=>⟨_,rfl,af ⟨_,rfl,he⟩⟩) (args_list_sort _)))
 ·rw[oj,aS,aS]at e1;rw[aS]at e2;cases eq:tl[i]? with
  |none=>rw[eq]at e2;cases e2
  |some t=>
   rw[eq]at e1 e2;cases e1;cases e2;have hm:t∈ts:=F1.mem_iff.mp (bu eq);obtain⟨h2,h3⟩:=hk t hm;obtain⟨nM,ta⟩:=t
   match nM,h2,h3 with
   |[x,y],_,h3=>
    obtain⟨aT,AI,⟨o,g1,g2,n,g3⟩,_⟩:=I.tuple (.inl (.inl h3));obtain⟨u1,u2,rfl,⟨t1,rfl⟩,⟨t2,rfl⟩⟩:=vals2 AI;exact⟨ta,o,t1,t2,n,rfl,g1,g2,g3⟩
 ·obtain⟨t,ht,rfl⟩:=a9.mp U7;obtain⟨t',F0,rfl⟩:=a9.mp Ej;rw[(hk t (F1.mem_iff.mp ht)).1,(hk t' (F1.mem_iff.mp F0)).1]
 ·
  have eqs:((bQ (tl.map (·.1))).map fun i=>(tl.map fun t=>V.ref t.2).getD i .bU)=(bQ (ts.map (·.1))).map fun i=>(ts.map fun t=>V.ref t.2).getD i .bU:=by
   have key:∀zs:List (List Int×Addr),((bQ (zs.map (·.1))).map fun i=>(zs.map fun t=>V.ref t.2).getD i .bU)=((bQ (zs.map (·.1))).map fun i=>zs.getD i ([],0)).map fun t=>V.ref t.2:=fun zs=>by
    rw[bf];refine eU fun i hi=>?_
    have tj:=cH hi;rw[ai]at tj;show(zs.map fun t=>V.ref t.2).getD i .bU=V.ref (zs.getD i ([],0)).2;rw[bt,bt,aS,aH tj];rfl
   rw[key,key];congr 1;have pr:∀zs:List (List Int×Addr),((bQ (zs.map (·.1))).map fun i=>zs.getD i ([],0)).Perm zs:=fun zs=>by
    have q:=(cP (zs.map (·.1))).map fun i=>zs.getD i ([],0);rw[ai,cQ]at q;exact q
   have pw:∀zs:List (List Int×Addr),((bQ (zs.map (·.1))).map fun i=>zs.getD i ([],0)).Pairwise fun a b=>m4 a.1 b.1=true:=fun zs=>by
    rw[iT];refine(jF (zs.map (·.1))).imp_of_mem fun{i j} hi hj e=>?_
    have tj:=cH hi;have vq:=cH hj;rw[ai]at tj vq;rw[bt,bt,aS,aS,aH tj,aH vq]at e;rw[bt,bt,aH tj,aH vq];exact e
   refine kP (le:=fun a b=>m4 a.1 b.1=true) (fun a b ha hb h1 h2=>?_) (pw tl) (pw ts) ((pr tl).trans (F1.trans (pr ts).symm));have dF:a∈ts:=F1.mem_iff.mp ((pr tl).mem_iff.mp ha);have jQ:b∈ts:=(pr ts).mem_iff.mp hb;have e:=jE h1 h2;obtain⟨i,hi⟩:=iP dF;obtain⟨j,hj⟩:=iP jQ;obtain⟨Qo,MO⟩:=cJ.mp hi;obtain⟨Qp,MP⟩:=cJ.mp hj;have q:(ts.map (·.1))[i]'(by rw[ai];exact Qo)=(ts.map (·.1))[j]'(by rw[ai];exact Qp):=by
    rw[gR,gR,MO,MP,e]
   have z:=(il nd).mp q;subst z;rw[<-MO,<-MP]
  rw[eqs];exact q D hD
end
end L2
namespace L2
open PySem PySem.Spec PySem.Calls PyProof.Rows
def di:Tr->Rs Tr
 |.lst ts=>if qT ts=true/\ts.length<=18/\(ts.all fun t=>(dG t).length==2)=true then .ok (.lst (cR ts))else .bad
 |_=>.bad
theorem vO{K:PySem.W.Frag}{B:bD}{H:Hp}:∀{vs:List V} {ts:List Tr},aI K (aN B H) vs ts->(∀t∈ts,Cz t=some (dG t)/\(dG t).length=2)->∃tl:List (List Int×Addr),vs=(tl.map fun t=>V.ref t.2)/\tl.map (·.1)=ts.map dG/\∀t∈tl,t.1.length=2/\H t.2=some (.tup (t.1.map V.int))
 |[],_,r,_=>by cases r;exact⟨[],rfl,rfl,fun t m=>nomatch m⟩
 |v::vs,t::ts,r,hk=>by
  cases r with
  |cons h r=>
   obtain⟨tl,e1,e2,e3⟩:=vO r fun t m=>hk t (aR _ m);obtain⟨q1,q2⟩:=hk t (aK ..);unfold Cz at q1;split at q1
   ·obtain⟨ad,us,rfl,hq,rr⟩:=h.jk;obtain⟨x1,x2,rfl,r1,r2⟩:=pM rr;cases r1.int_inv;cases r2.int_inv;refine⟨(dG _,ad)::tl,by rw[e1];rfl,by rw[aB,aB,e2],fun t m=>?_⟩;rcases aO.mp m with rfl|m
    ·exact⟨q2,aD _ _ hq⟩
    ·exact e3 t m
   ·rw[<-Option.some.inj q1]at q2;cases q2
   ·cases q1
section
variable {X:Cx}{l:Expr}{p1 p2 HH HI:Pos}{F:ax->Rs Tr}
theorem EK(hu:X.A.units+6<cLine)(hs:X.mg "sorted"=none)(hm:X.mg "set"=none)(hl:PE X l (tP X F))(hc:X.calm=true:=by rfl) (hg:Gl X "sorted":=by rfl) (MN:Gl X "set":=by rfl) (cS:aY [l]=true:=by rfl):
  PE X (.Call (.Name "sorted" p1) [.Call (.Name "set" p2) [l] [] HI] [] HH) (tP X fun ρ=>(F ρ).bind di):=
 (uI (nT hu hc) hg hs rfl (ir (g_ (Ap hu hc) MN hm rfl (ir hl kb (aU _ _ (aG cS).1)) (by decide) (by decide) (aU _ _ (aG cS).1) (bZ (aG cS).2)) kb (aU _ _ rfl)) (by decide) (by decide) (aU _ _ rfl) (bZ (es:=[]) rfl)).weak fun σ H Q ⟨B,ρ,hb,r,q⟩=>⟨B,ρ,hb,r,q.bind.mono fun t qt v H1 s1 rv=>by
  have key:∃ts,t=.lst ts/\qT ts=true/\ts.length<=18/\(ts.all fun t=>(dG t).length==2)=true/\∀v H',au H H'->Rep X.K (aN B H') v (.lst (cR ts))->Q v H':=by
   unfold di at qt;split at qt
   ·obtain⟨⟨h0,h1,h2⟩,z⟩:=fj qt;exact⟨_,rfl,h0,h1,h2,z⟩
   ·exact qt.elim
  obtain⟨ts,rfl,ok,U8,h2,k⟩:=key;obtain⟨a,vs,rfl,h,rr⟩:=rv.lst_inv;obtain⟨hk,AL,nd,_⟩:=qm ok;have U9:=rr;obtain⟨tl,ev,ek,et⟩:=vO rr fun t m=>⟨hk t m,eq_of_beq (bM.mp h2 t m)⟩;have Sg:tl.length=ts.length:=by have z:=bH List.length ek;rw[ai,ai]at z;exact z
  refine⟨a,tl.map fun t=>(t.1.map Sum.inl,t.2),rfl,?_,fun t m=>?_,?_,by rw[ai,Sg];exact U8,fun sa MM=>⟨sa,tl,rfl,?_,fun t m=>?_,by rw[ek];exact nd,by rw[Sg];exact AL,fun D hD=>?_⟩⟩
  ·rw[bf];have:(tl.map fun t=>V.ref t.2)=vs:=ev.symm;refine .of (eO (B:=B) ?_);rw[h,<-this];rfl
  ·obtain⟨t',m',rfl⟩:=a9.mp m;have e:=(et t' m').2;rw[bf];exact e
  ·rw[bf];have:(tl.map ((fun x:List Key×Addr=>x.1)∘fun t:List Int×Addr=>(t.1.map Sum.inl,t.2)))=(tl.map (·.1)).map (List.map Sum.inl):=by rw[bf];rfl
   rw[this,ek];refine List.Pairwise.map _ (fun x y eC e=>eC ?_) nd;have inj:∀(x y:List Int),(x.map Sum.inl:List Key)=y.map Sum.inl->x=y:=by
    intro x
    induction x with
    |nil=>intro y e;cases y with|nil=>rfl|cons _ _=>cases e
    |cons a x ih=>intro y e;cases y with|nil=>cases e|cons b y=>injection e with e1 e2;injection e1 with e1;rw[e1,ih y e2]
   exact inj _ _ e
  ·rw[aF,bf];rfl
  ·exact⟨(et t m).1,au.upd MM _ _ (et t m).2⟩
  ·have s2:au H1 (upd H1 sa (yO X.w sa ((tl.map fun t=>((t.1.map Sum.inl:List Key),t.2)).map fun t=>Value.ref t.2))):=au.upd MM;refine k _ _ ((s1.trans s2).trans (au.upd hD)) (.wR ((hb.same s1).same s2) hD ?_);rw[ek,<-ev];exact(sx ok U9).same (aV s2)⟩
theorem EL(hu:X.A.units+6<cLine)(hs:X.mg "sorted"=none)(hm:X.mg "set"=none)(hl:QE X l F)(hc:X.calm=true:=by rfl) (hg:Gl X "sorted":=by rfl) (MN:Gl X "set":=by rfl) (cS:aY [l]=true:=by rfl):
  QE X (.Call (.Name "sorted" p1) [.Call (.Name "set" p2) [l] [] HI] [] HH) (fun ρ=>(F ρ).bind di):=⟨EK hu hs hm hl.h hc hg MN cS⟩
end
end L2
namespace L2
open PySem PySem.Spec PySem.Calls PyProof.Rows
section
variable {prog:Program}{w:World}
theorem Aq{A:Around}(hh:A.handled=none)(I d:Addr)(eC:d≠I){o:Obj}{es:Array DictEntry}{ep:Nat}(hd:o.data=.dict es ep):
  Walks prog w A I [I,d] [I] es.size (fun i v=>∃e,es[i]?=some e/\v=e.key) (fun i h=>h.IsKeyIter I d i es.size ep/\h.get? d=some o) where
 sub:=fun b hb=>by simp at hb;simp[hb]
 frame:=fun _ _ _ st hk=>⟨st.1.at fun o e=>hk I (by simp) o e,hk d (by simp) _ st.2⟩
 item:=fun i s Q E hi st hQ=>by
  refine vz st.1 st.2 hd hi fun h' JO sb=>?_
  exact hQ _ h' s.toks ⟨es[i],cK hi,rfl⟩ ⟨JO,(sb.2 d eC).trans st.2⟩ fun b o hb e=>sb.extBut b o (fun h=>hb (by simp[h])) e
 done:=fun s Q E st hQ=>yx hh st.1 st.2 hd (ak _) fun h' eb=>hQ h' s.toks fun b o hb e=>eb b o (fun h=>hb (by simp[h])) e
 self:=fun _ _ _ _ st hQ=>wpAny_pyIter_keyiter st.1 hQ
theorem CF{d:Addr}{o:Obj}{es:Array DictEntry}{ep:Nat}(lo:(d==sysModules)=false)(hc:o.cls=.type "dict")(hd:o.data=.dict es ep):PySem.W.KdlSrc prog w "dict" d d es.size (fun i v=>∃e,es[i]?=some e/\v=e.key) (fun h=>h.get? d=some o) where
 type:=fun _ hm=>⟨o,hm,hc⟩
 there:=fun _ hm=>⟨aA hm,aA hm⟩
 keep:=fun _ _ hm hk=>hk d (.inl rfl) o hm
 notList:=by decide
 notTuple:=by decide
 hint:=fun _ _ _ _ hm hq=>PySem.W.kdl_hint_dict ⟨o,hm,hc⟩ hq
 iter:=fun _ _ hh hm=>⟨_,_,(fun _ _ hq=>vy ⟨o,hm,hc⟩ lo hm hd hq),Aq hh _ d (aP (aA hm)) hd,⟨⟨_,aQ _ rfl,rfl,rfl⟩,ay _ hm⟩⟩
theorem t8{A:Around}{E:Value->Shared->Prop}{s:Shared}{a:Addr}{o:Obj}{es:Array DictEntry}{ep:Nat}{R:List Value->Shared->Prop}(hh:A.handled=none)(lo:(a==sysModules)=false)(hm:s.heap.get? a=some o)(hc:o.cls=.type "dict")(hd:o.data=.dict es ep)(hn:es.size<=sizeLine)
  (h:∀(h':Heap) (tk:Nat),(∀b o,s.heap.get? b=some o->h'.get? b=some o)->R (es.toList.map (·.key)) {s with heap:=h',toks:=tk}):wpAny (model prog w) A (collect (.ref a)) R E s:=by
 have eB:a<s.heap.objs.size:=aA hm;have items:∀(acc:Array Value),ItemsOf (fun i v=>∃e,es[i]?=some e/\v=e.key) acc es.size->acc.toList=es.toList.map (·.key):=fun acc hi=>by
  refine oU fun i=>?_
  rw[aS,cy,cy];cases e:acc[i]? with
  |none=>
   have h1:acc.size<=i:=kL.mp e;rw[hi.1]at h1;rw[kL.mpr h1];rfl
  |some v=>
   obtain⟨x,ex,ev⟩:=hi.2 i v e;rw[ex,ev];rfl
 unfold collect;refine aa (wpAny_runValue (dv entry_proto_collect' ?_));rw[dJ uv _];show wpAny _ A.in1 (newList []>>=fun l=>again (.builtin "list.__iadd__" ⟨[l,.ref a],[]⟩)) _ _ s;refine aa (dO ?_);refine af ⟨cZ kR _,dv entry_list_iadd' ?_⟩;rw[dJ kR _];have hL:(s.heap.push {cls:=.type "list",data:=.seq ([]:List Value).toArray}).get? s.heap.objs.size=some {cls:=.type "list",data:=.seq #[]}:=aQ _ rfl;show wpAny _ A.in1 (Builtin.List.listExtendWith (.ref s.heap.objs.size) (.ref a) (.ref s.heap.objs.size)) _ _ _;have key:=PySem.W.kdl_extend (prog:=prog) (w:=w) (A:=A) (s:={s with heap:=s.heap.push {cls:=.type "list",data:=.seq ([]:List Value).toArray}})
  (R:=fun(q:Result) (s':Shared)=>∃(h':Heap) (tk:Nat) (gp:Array Value) (c':Nat),q=.ok (.ret (.ref s.heap.objs.size))/\s'={s with heap:=h',toks:=tk}/\
   (∀b o,s.heap.get? b=some o->h'.get? b=some o)/\h'.get? s.heap.objs.size=some {cls:=.type "list",dict:=none,data:=.seq gp c',slots:=#[]}/\ItemsOf (fun i v=>∃e,es[i]?=some e/\v=e.key) gp es.size)
  (CF lo hc hd) hh (ay _ hm) s.heap.objs.size (bY eB) (bY eB) (.ref s.heap.objs.size) 0 hL
  (fun h' tk gp c' hk xr mY=>⟨h',tk,gp,c',rfl,rfl,fun b o e=>hk b o (aP (aA e)) (ay _ e),xr,mY⟩) hn
 refine c0 key (fun fin s' x=>?_) fun e s' x=>?_
 ·cases fin with
  |done f=>
   obtain⟨h',tk,gp,c',e,rfl,hk,xr,mY⟩:=x;cases e;show wpAny _ A (load s.heap.objs.size>>=_) _ _ _;refine aa (i9 xr ?_);refine af ?_
   rw[items gp mY];exact h h' tk hk
  |again c₁=>
   refine⟨x.1,e_ x.2 fun q mE y=>?_⟩;obtain⟨h',tk,gp,c',rfl,rfl,hk,xr,mY⟩:=y;show wpAny _ A (load s.heap.objs.size>>=_) _ _ _;refine aa (i9 xr ?_);refine af ?_
   rw[items gp mY];exact h h' tk hk
 ·obtain⟨_,_,_,_,e',_⟩:=x;cases e'
end
end L2
namespace L2
open PySem PySem.Spec PySem.Calls PyProof.Rows
theorem m5{prog:Program}{w:World}{h h':Heap}{d:Addr}{xs:List (List Key×Addr×Value)}(k:∀b o,h.get? b=some o->h'.get? b=some o)(x:h.DictOfH (tupleKind (av prog w)) d xs):h'.DictOfH (tupleKind (av prog w)) d xs:=by
 obtain⟨o,es,ep,e1,e2,e3,e4,e5,e6⟩:=x;exact⟨o,es,ep,k _ _ e1,e2,e3,e4,fun x hx=>fv (e5 x hx) h' k,e6⟩
abbrev Ar(d x:Str)(p1 p2 p3 p4 p5:Pos)(n1:Nat):Expr:=.Tuple [.Subscript (.Name d p1) (.Name x p2) p3,.Name x p4] n1 p5
structure CG(scope:Scope)(d x:Str):Prop where
 kind:scope.kind=.function
 co:scope.isCoroutine=false
 gen:scope.isGenerator=false
 lx:scope.names.lookup x=some .local
 ld:scope.names.lookup d=some .free
 sS:∀y∈scope.names,y.2≠ .cell
 dx:(x==("__debug__":Str))=false
 dd:(d==("__debug__":Str))=false
 dc:(d==("__classdict__":Str))=false
section
variable {prog:Program}{w:World}{A:Around}{E:Value->Shared->Prop}{s:Shared}
theorem CH{f c' cell da b:Addr}{nm qual:Str}{params:Arguments}{scope:Scope}{nU:List (Str×Addr)}{pm xt:Value}{d x:Str}{p1 p2 p3 p4 p5:Pos}{n1:Nat}{xs:List (List Key×Addr×Value)}{k:List Key}{pv:Addr×Value}{Q:Value->Shared->Prop}
  (hu:∀env:Env,(A.deeper env).units+1<cLine) (MU:A.depth<recursionLimit) (GX:s.heap.NoLimit)
  (ho:s.heap.get? f=some (PySem.W.kla_obj nm qual params (Ar d x p1 p2 p3 p4 p5 n1) scope nU pm c' xt)) (nC:s.heap.CodeRec (.ref c') qual)
  (hb:∀v,bindArgs (PySem.W.kla_fn nm qual params (Ar d x p1 p2 p3 p4 p5 n1) scope nU pm (.ref c') xt) ⟨[v],[]⟩=pure [(x,v)]) (S:CG scope d x)
  (wH:nU.lookup d=some cell) (IE:s.heap.IsCell cell (some (.ref da))) (hm:s.heap.DictOfH (tupleKind (av prog w)) da xs) (hk:(tupleKind (av prog w)).is s.heap k b) (hp:atKey xs k=some pv)
  (h:∀h' tk tp,(∀b o,s.heap.get? b=some o->h'.get? b=some o)->s.heap.objs.size<=tp->h'.get? tp=some {cls:=.type "tuple",data:=.seq #[pv.2,.ref b]}->Q (.ref tp) {s with heap:=h',toks:=tk}):
  wpAny (model prog w) A (call (.ref f) [.ref b]) Q E s:=by
 refine wpAny_call (PySem.W.kla_callFunE MU ho rfl S.co S.gen rfl nC ?_);rw[hb];refine af (wpAny_newFunctionEnv S.sS (fun y hy=>by rw[cz.mp hy];exact S.lx) (fun cO zu Bp=>?_) S.kind);have vP:∀b o,s.heap.get? b=some o->cO.get? b=some o:=fun b o e=>Bp.extBut b o (aP (aA e)) (ay _ e);refine⟨GX.fresh _ Bp,?_⟩;have II:cO.Ns s.heap.objs.size (fun y=>[(x,Value.ref b)].reverse.lookup y):=zu;have Si:[(x,Value.ref b)].reverse.lookup x=some (.ref b):=by simp
 have ng:cO.IsCell cell (some (.ref da)):=by obtain⟨o,e,r⟩:=IE;exact⟨o,vP _ _ e,r⟩
 refine PySem.W.kla_codeExpr (wpAny_Tuple_spliced ?_);show wpAny _ _ (spliced ((false,eval (.Subscript (.Name d p1) (.Name x p2) p3) _)::backTo p5 (starEach [.Name x p4] _))) _ _ _;refine iU (Subscript_ ?_);refine f9 (wpAny_loadName_free S.kind S.ld wH ng ?_ S.dc) S.dd;refine f9 (lg S.kind S.lx II Si ?_) S.dx;refine tail_any (T:="dict") (m5 vP hm).typeIs ox.lookup (wpAny_getItem_heap (ik (hu _)) (fv hk cO vP) (m5 vP hm) hp ?_) rfl;show wpAny _ _ (spliced ((false,eval (.Name x p4) _)::backTo p5 (starEach [] _))) _ _ _;refine iU (f9 (lg S.kind S.lx II Si ?_) S.dx);refine lu ⟨by show 2<=sizeLine;decide,?_⟩;exact h _ _ cO.objs.size (fun b o e=>ay _ (vP b o e)) (e8 (bj (iX _) (by obtain⟨o,es,ep,e,_⟩:=II;exact aA e))) (aQ _ rfl)
end
end L2
namespace L2
open PySem PySem.Spec PySem.Calls PyProof.Rows
section
variable {prog:Program}{w:World}{A:Around}{E:Value->Shared->Prop}{s:Shared}
structure jW(s:Shared)(D kS e1:Nat)(ks:List (List Int))(kv:List Value)(h:Heap):Prop where
 old:∀b o,b≠D->s.heap.get? b=some o->h.get? b=some o
 d:h.get? D=some (seqObj "list" #[] e1)
 k:∃e,h.get? kS=some (seqObj "list" kv.toArray e)
 t:∀(i:Nat) (v:Value) (k:List Int),kv[i]?=some v->ks[i]?=some k->TK h v k
theorem jW.upd {D kS e1:Nat}{ks:List (List Int)}{kv Qx:List Value}{h:Heap}{g:Array Value->Array Value}(x:jW s D kS e1 ks kv h)(hn:s.heap.objs.size<=kS)(hD:kS≠D)(hg:g kv.toArray=Qx.toArray)(ht:∀(i:Nat) (v:Value) (k:List Int),Qx[i]?=some v->ks[i]?=some k->TK h v k):
  jW s D kS e1 ks Qx (h.update kS (Obj.mapSeq g)):=by
 obtain⟨e,ek⟩:=x.k;have sb:=dM h kS (Obj.mapSeq g);refine⟨fun b o n q=>(sb.2 b (fun z=>?_)).trans (x.old b o n q),(sb.2 D hD.symm).trans x.d,⟨_,by rw[<-hg];exact i7 ek g⟩,fun i v k e1 e2=>(ht i v k e1 e2).keep fun b o xs n hc hd q=>(sb.2 b fun z=>?_).trans q⟩
 ·rw[z]at q;exact absurd (aA q) (Nat.not_lt.mpr hn)
 ·rw[z,ek]at q;cases q;exact absurd (show Value.type "list"=Value.type "tuple"from hc) (by decide)
theorem xu{D f:Addr}{vs:List Value}{ks:List (List Int)}{n0:Nat}{P:PySem.Fin->Shared->Prop}(hu:A.units<cLine)(ho:s.heap.get? D=some (seqObj "list" vs.toArray n0))(hl:vs.length=ks.length)(AL:ks.length<64)(EG:ks.Nodup)(vN:∀k∈ks,∀k'∈ks,k.length=k'.length)
  (MV:∀(i:Nat) (v:Value) (k:List Int) (h1:Heap) (nQ:Nat) (C:Value->Shared->Prop),vs[i]?=some v->ks[i]?=some k->(∀b o,b≠D->s.heap.get? b=some o->h1.get? b=some o)->(∀h' tk u,(∀b o,h1.get? b=some o->h'.get? b=some o)->TK h' u k->C u {s with heap:=h',toks:=tk})->
   wpAny (model prog w) A (call (.ref f) [v]) C (fun _ _=>False) {s with heap:=h1,toks:=nQ})
  (h:∀h' tk c,(∀b o,b≠D->s.heap.get? b=some o->h'.get? b=some o)->h'.get? D=some (seqObj "list" ((bQ ks).map fun i=>vs.getD i Value.none).toArray c)->P (.done (.ret .none)) {s with heap:=h',toks:=tk}):
  wpAny (model prog w) A (PyProof.Rows.ksk_tree D (.ref f) false) P E s:=by
 have Qy:D<s.heap.objs.size:=aA ho;have s1:=dM s.heap D (Obj.mapSeq fun _=>(#[]:Array Value));obtain⟨e1,FH⟩:∃e1,(s.heap.update D (Obj.mapSeq fun _=>(#[]:Array Value))).get? D=some (seqObj "list" #[] e1):=⟨_,i7 ho fun _=>#[]⟩;unfold PyProof.Rows.ksk_tree;refine aa (listItems_at ho rfl ?_);refine aa (g0 ho rfl ?_ (by rw[a6,bG];omega) (bx _));refine aa (seqEpoch_at FH rfl ?_);refine aa (lK ?_ (by show vs.length<=_;rw[bG];omega));refine aa (i8 ?_ (bx _));refine cn ?_
 have Ek:((s.heap.update D (Obj.mapSeq fun _=>(#[]:Array Value))).push (seqObj "tuple" vs.toArray 0)).objs.size=s.heap.objs.size+1:=by rw[size_push',Heap.size_update]
 have K0:jW s D (s.heap.objs.size+1) e1 ks [] (((s.heap.update D (Obj.mapSeq fun _=>(#[]:Array Value))).push (seqObj "tuple" vs.toArray 0)).push (seqObj "list" #[] 0)):=
  ⟨fun b o n q=>ay _ (ay _ ((s1.2 b n).trans q)),ay _ (ay _ FH),⟨0,by rw[<-Ek];exact aQ _ rfl⟩,fun i v k e=>by simp at e⟩
 show wpAny (model prog w) A (PyProof.Rows.ksk_rest D (.ref f) false vs.toArray e1 (.ref ((s.heap.update D (Obj.mapSeq fun _=>(#[]:Array Value))).push (seqObj "tuple" vs.toArray 0)).objs.size)) P E {s with heap:=((s.heap.update D (Obj.mapSeq fun _=>(#[]:Array Value))).push (seqObj "tuple" vs.toArray 0)).push (seqObj "list" #[] 0)};rw[Ek];have Qz:s.heap.objs.size+1≠D:=bY (gO Qy);generalize V0:s.heap.objs.size+1=kS at K0 Qz;have Sj:s.heap.objs.size<=kS:=by omega
 generalize ((s.heap.update D (Obj.mapSeq fun _=>(#[]:Array Value))).push (seqObj "tuple" vs.toArray 0)).push (seqObj "list" #[] 0)=h0 at K0;unfold PyProof.Rows.ksk_rest;refine aa (dR ?_)
 first
  |rw[List.forIn_toArray]
  |(rw[<-lh];simp only[List.toList_toArray])
  |rw[<-lh]
 refine aa (iZ _ (fun rest _ s'=>∃done kv h1 nQ,vs=done++rest/\kv.length=done.length/\s'={s with heap:=h1,toks:=nQ}/\jW s D kS e1 ks kv h1) _ ?_ ?_ vs PUnit.unit ⟨[],[],h0,s.toks,rfl,rfl,rfl,K0⟩)
 ·rintro x rest _ s' ⟨done,kv,h1,nQ,ev,JM,rfl,K⟩
  have hi:vs[done.length]?=some x:=by rw[ev];simp
  have NS:done.length<ks.length:=by rw[<-hl,ev];simp
  have Og:ks[done.length]?=some ks[done.length]:=aH NS
  refine aa (fX (c0 (MV done.length x _ h1 nQ (fun u Dl=>∃h' tk,Dl={s with heap:=h',toks:=tk}/\(∀b o,h1.get? b=some o->h'.get? b=some o)/\TK h' u ks[done.length]) hi Og K.old fun h' tk u kp tu=>⟨h',tk,rfl,kp,tu⟩) (fun u Dl hq=>?_) fun _ _ hF=>hF.elim));obtain⟨h',tk,rfl,kp,tu⟩:=hq;have K1:jW s D kS e1 ks kv h':=⟨fun b o n q=>kp _ _ (K.old b o n q),kp _ _ K.d,let⟨e,q⟩:=K.k;⟨e,kp _ _ q⟩,fun i v k e1 e2=>(K.t i v k e1 e2).keep fun b o _ _ _ _ q=>kp b o q⟩;obtain⟨e,ek⟩:=K1.k
  try dsimp only
  have Sk:kv.length<64:=by omega
  refine aa (g0 (s:={s with heap:=h',toks:=tk}) ek rfl ?_ (by rw[a6,bG];omega) (bo (Nat.le_of_eq (Array.size_push ..)) (by rw[a6,bG];omega)));refine af ⟨done++[x],kv++[u],h'.update kS (Obj.mapSeq (·.push u)),tk,by rw[ev,gw];rfl,by rw[ba,ba,JM];rfl,rfl,?_⟩;refine K1.upd Sj Qz (by simp) fun i v k e1 e2=>?_
  by_cases z:i<kv.length
  ·rw[bX z]at e1;exact K1.t i v k e1 e2
  ·have hz:=(cJ.mp e1).1;rw[ba,jK]at hz;have Sl:i=kv.length:=by omega
   rw[Sl,dH (ak _),fY]at e1;cases e1;rw[Sl,JM,Og]at e2;cases e2;exact tu
 ·rintro _ s' ⟨done,kv,h1,nQ,ev,JM,rfl,K⟩
  rw[dr]at ev;subst ev;obtain⟨e,ek⟩:=K.k
  try dsimp only
  refine aa (listItems_at (s:={s with heap:=h1,toks:=nQ}) ek rfl ?_);have hz:∀n,n<=vs.length->n<=sizeLine:=fun n hn=>by rw[bG];omega
  have fin:∀st:SortSt,(arrOf st).map (·.2)=((bQ ks).map fun i=>vs.getD i Value.none).toArray->failedOf st=none->wpAny (model prog w) A (PyProof.Rows.ksk_tail D false e1 (.ref kS) st) P E {s with heap:=h1,toks:=nQ}:=by
   intro st QC hf;unfold PyProof.Rows.ksk_tail
   try dsimp only
   rw[QC];simp only[bK,bp];refine aa (g0 (s:={s with heap:=h1,toks:=nQ}) ek rfl ?_ (by rw[a6];exact hz _ (by omega)) (bx _));refine aa (f7 ?_);have sb:=dM h1 kS (Obj.mapSeq fun _=>(#[]:Array Value));have hd2:(h1.update kS (Obj.mapSeq fun _=>(#[]:Array Value))).get? D=some (seqObj "list" #[] e1):=(sb.2 D Qz.symm).trans K.d;refine aa (seqEpoch_at hd2 rfl ?_);have hsz:(((bQ ks).map fun i=>vs.getD i Value.none).toArray).size<=sizeLine:=by rw[a6,ai,(cP ks).length_eq,fK];exact hz _ (by omega)
   refine aa (g0 hd2 rfl ?_ (bx _) (bo hsz (fZ _)));rw[hf];simp only[gL,bK,bp];refine af ?_
   have Oa:=dM (h1.update kS (Obj.mapSeq fun _=>(#[]:Array Value))) D (Obj.mapSeq fun _=>((bQ ks).map fun i=>vs.getD i Value.none).toArray);refine h _ nQ _ (fun b o n q=>?_) (i7 hd2 fun _=>((bQ ks).map fun i=>vs.getD i Value.none).toArray);refine(Oa.2 b n).trans ((sb.2 b fun z=>?_).trans (K.old b o n q));rw[z]at q;exact absurd (aA q) (Nat.not_lt.mpr Sj)
  unfold PyProof.Rows.ksk_end
  try dsimp only
  simp only[bK,bp];have Sm:kv.length=vs.length:=JM;by_cases h2:ks.length<2
  ·have HY:vs.toArray.size<2:=by rw[a6,hl];exact h2
   rw[ab HY,ab HY];refine aa (af ?_);rw[StateT.run_pure];refine aa (af ?_);dsimp only;refine fin _ ?_ rfl
   rw[mh h2,<-hl,cQ];show((List.toArray kv).zip (List.toArray vs)).map (·.2)=_;apply Array.toList_inj.mp;simp only[Array.toList_map,Array.toList_zip];exact List.map_snd_zip (by omega)
  ·have h2:2<=ks.length:=by omega
   have NM:¬vs.toArray.size<2:=by rw[a6,hl];omega
   rw[ae NM,ae NM];obtain⟨p,er,hp,hs⟩:=vp (yK EG) h2;have ep:=sr EG hp hs;have QH:kv.length=ks.length:=by omega
   obtain⟨fs,aC,fl,IB⟩:=kB QH K.t;refine aa (PySem.W.kat_kind (s:={s with heap:=h1,toks:=nQ}) (T:=.type "int") aC (by rw[fl];omega) (fun v hv=>by obtain⟨z,t,rfl⟩:=IB v hv;exact .of_pure rfl) (by decide) ?_);rw[show(Value.type "int" !=Value.type "tuple")=true by decide];refine aa (PySem.W.kat_run (Q:=fun qV s'=>wpAny (model prog w) A (PyProof.Rows.ksk_tail D false e1 (.ref kS) qV) P E s') (G:=fun q s'=>s'={s with heap:=h1,toks:=nQ}/\q.toList=bQ ks) Sm (by omega) (by omega) (fun p' qV s' a1 a2 a3 a4=>?_) ?_)
   ·obtain⟨rfl,a5⟩:=a4;exact fin qV (by rw[PySem.W.kat_snds Sm a2,a5]) a3
   ·rw[hl];refine mU (fun i j C hi hj qR hC=>?_) _ er ⟨rfl,ep⟩;have vi:kv[i]?=some (kv[i]'(by omega)):=aH (by omega)
    have vj:kv[j]?=some (kv[j]'(by omega)):=aH (by omega)
    have ki:ks[i]?=some ks[i]:=aH hi
    have kj:ks[j]?=some ks[j]:=aH hj
    show wpAny _ _ (keyLt' _ (kv.getD i Value.none) (kv.getD j Value.none)) _ _ _;rw[bt,bt,vi,vj];refine FY (s:={s with heap:=h1,toks:=nQ}) hu (K.t i _ _ vi ki) (K.t j _ _ vj kj) (vN _ (gQ hi) _ (gQ hj)) (fun e=>qR ((il EG).mp e)) ?_
    unfold Oi at hC;rw[bt,bt,ki,kj]at hC;exact hC
end
end L2
namespace L2
open PySem PySem.Spec PySem.Calls PyProof.Rows
def As(K:PySem.W.Frag)(c P:Addr):Bool:=match K.lookup c with
 |some ⟨.type "code",_,.fields vs,_⟩=>decide (vs[11]?=some (.ref P))&&((match vs.getD 18 .none with|.str _ _=>true|_=>false)&&((match vs.getD 7 .none with|.int _ _=>true|_=>false)&&((match vs.getD 9 .none with|.bool _=>true|_=>false)&&((match vs.getD 10 .none with|.int _ _=>true|_=>false)&&decide (c≠P)))))
 |_=>false
theorem CI{K:PySem.W.Frag}{c P:Addr}{h:Heap}(X:K.In h)(e:As K c P=true):PySem.W.CodeHd h c P:=by
 unfold As at e;split at e
 ·rename_i od vs sl hk;rw[aM,aM,aM,aM,aM,cA,cA]at e;obtain⟨h1,h2,h3,h4,h5,h6⟩:=e;have g:=X _ _ hk;have QK:vs.getD 11 .none=.ref P:=by rw[bV,h1];rfl
  cases e2:vs.getD 18 .none with
  |str f tf=>
   cases e3:vs.getD 7 .none with
   |int fl tg=>
    cases e4:vs.getD 9 .none with
    |bool b=>
     cases e5:vs.getD 10 .none with
     |int tx tt=>exact⟨_,vs,f,tf,fl,tg,b,tx,tt,g,rfl,rfl,h1,QK,e2,e3,e4,e5,h6⟩
     |_=>rw[e5]at h5;cases h5
    |_=>rw[e4]at h4;cases h4
   |_=>rw[e3]at h3;cases h3
  |_=>rw[e2]at h2;cases h2
 ·cases e
def QL(mg:Str->Option Value)(base:Heap):Prop:=∃bm ob,mg "__builtins__"=some (.ref bm)/\bm≠builtinsNs/\bm≠mainGlobals/\base.get? bm=some ob/\ob.cls=.type "module"/\ob.dict=some builtinsNs/\ob.data=.plain
theorem vQ{i j:Int}{t u:Tok}{c:Value}:∀{l:List Value},TriplesOk l->TriplesOk (l++[.int i t,.int j u,c])
 |[],_=>trivial
 |.int _ _:: .int _ _::_::rest,h=>vQ (l:=rest) h
theorem sy{q:Pos}{i j:Int}{t u:Tok}{c v:Value}:∀{l:List Value},TriplesOk l->codeAmong q (l++[.int i t,.int j u,c])=some v->codeAmong q l=some v\/v=c
 |[],_,e=>by
  have e:(if(i==q.line&&j==q.col)=true then some c else codeAmong q [])=some v:=e;split at e
  ·exact .inr (Option.some.inj e).symm
  ·cases e
 |.int a _:: .int b _::d::rest,h,e=>by
  have e:(if(a==q.line&&b==q.col)=true then some d else codeAmong q (rest++[.int i t,.int j u,c]))=some v:=e;show(if(a==q.line&&b==q.col)=true then some d else codeAmong q rest)=some v\/_;split at e
  ·rename_i z;rw[ab z];exact .inl e
  ·rename_i z;rw[ae z];exact sy (l:=rest) h e
section
variable {X:Cx}{pins:List (Addr×Obj)}{σ:St}{H:Hp}{s:Shared}
theorem CJ{nm q:Str}{params:Arguments}{body:Expr}{scope:Scope}{nU:List (Str×Addr)}{c P:Addr}{pos:Pos}{fl:Nat}{A:Around}{E:Value->Shared->Prop}{Q:Value->Shared->Prop}(I:Inv X pins σ H s)(C:PySem.W.CodeHd X.base c P)(Bm:QL X.mg X.base)(hP:H P=some (.uh #[.str q 0])) (sA:X.env.code=.ref c) (JS:X.env.globals=mainGlobals)
  (wH:closureFor scope X.env=pure nU)
  (h:∀f c' pm xt h' tk H',Inv X pins σ H' {s with heap:=h',toks:=tk}->au H H'->H' f=none->s.heap.objs.size<=f->h'.get? f=some (PySem.W.kla_obj nm q params body scope nU pm c' xt)->h'.CodeRec (.ref c') q->Q (.ref f) {s with heap:=h',toks:=tk}):
  wpAny (model X.prog X.w) A (makeFunction nm q params (.expr body) scope X.env [] [] [] pos fl) Q E s:=by
 obtain⟨qs,hp,tr,rec⟩:=(show bg X.prog X.w H s.heap P (.uh #[.str q 0])from I.bC P _ hP);have hC:=C.keeps I.bk;have hg:=I.mod.glob.keeps I.bk;obtain⟨bm,ob,b1,b2,b3,b4,b5,b6,b7⟩:=Bm;have U_:bm≠P:=fun z=>by
  have e:=I.bk _ _ b4;rw[z,hp]at e;cases e;cases b5
 have hB:s.heap.BuiltinsAt X.mg P:=⟨bm,ob,b1,b2,b3,U_,I.bk _ _ b4,b5,b6,b7⟩;have U':mainGlobals≠P:=fun z=>by
  obtain⟨o,es,ep,e,hd,_⟩:=hg;rw[z,hp]at e;cases e;cases hd
 cases hf:codeAmong pos qs.toList with
 |some v=>
  obtain⟨c',oc,vs,q',t,rfl,e2,e3,e4,e5,e6⟩:=rec pos v hf;have eq:q=q':=by
   have z:=bH (fun a:Array Value=>a[0]?) e2;simp at z;exact z
  subst eq;refine PySem.W.kla_makeFunctionHit wH JS hg sA hC hp tr hf hB fun xt h' tk kp hsz=>?_
  have I1:Inv X pins σ H {s with heap:=h',toks:=tk}:=I.kept kp;refine h _ c' _ xt _ tk H (I1.kept fun b o e=>ay _ e) (au.refl H) (I1.bC.fresh (ak _)) hsz (aQ _ rfl) ⟨c',oc,vs,t,rfl,ay _ (kp _ _ e4),e5,e6⟩
 |none=>
  refine PySem.W.kla_makeFunction wH JS hg sA hC hp tr hf U' hB fun c' xt h' tk hx CK eB QM So=>?_
  obtain⟨c₂,oc,vs,t,e2,Ju,hd,hv⟩:=QM;cases e2;have IJ:H c'=none:=I.bC.fresh CK;have V1:c'≠P:=bY (bj (aA hp) CK);have bC:j2 X.prog X.w (upd H c' (.own P)) (h'.push (PySem.W.kla_obj nm q params body scope nU ((X.mg "__name__").getD .none) c' xt)):=by
   intro b u e;by_cases z:b=c'
   ·subst z;rw[aF]at e;cases e;exact⟨oc,ay _ Ju⟩
   ·rw[ah z]at e;by_cases zP:b=P
    ·subst zP;rw[hP]at e;cases e;refine⟨_,ay _ So,?_,fun pos' v' ev=>?_⟩
     ·rw[Array.toList_append];exact vQ tr
     ·rw[Array.toList_append]at ev;rcases sy tr ev with ev|rfl
      ·obtain⟨c₂,MW,MX,QN,QO,f1,f2,f3,f4,f5⟩:=rec pos' v' ev;refine⟨c₂,MW,MX,QN,QO,f1,f2,(ah fun z=>by rw[z,IJ]at f3;cases f3).trans f3,ay _ (hx _ _ (fun z=>?_) f4),f5⟩;rw[z,hP]at f3;cases f3
      ·exact⟨c',oc,vs,q,t,rfl,rfl,aF,ay _ Ju,hd,hv⟩
    ·refine(I.bC b u e).j_ (fun d o AQ e'=>ay _ (hx d o (fun zd=>?_) e')) (fun d e'=>(ah fun zd=>by rw[zd,IJ]at e';cases e').trans e') fun d xs e'=>(ah fun zd=>by rw[zd,IJ]at e';cases e').trans e';rcases AQ with AQ|AQ
     ·exact zP (AQ.symm.trans zd)
     ·rw[zd,hP]at AQ;cases AQ
  have I1:Inv X pins σ (upd H c' (.own P)) {s with heap:=h'.push (PySem.W.kla_obj nm q params body scope nU ((X.mg "__name__").getD .none) c' xt),toks:=tk}:=by
   refine I.un (t':=tk) ⟨fun b o e n _ _=>ay _ (hx _ _ (fun z=>by rw[z,hP]at n;cases n) e),fun b o e n _ _=>⟨o.slots,ay _ (hx _ _ (fun z=>by rw[z,hP]at n;cases n) e)⟩,fun b o e n _=>(ah fun z=>by rw[z]at e;exact absurd (aA e) (Nat.not_lt.mpr CK)).trans n,fun b o e _=>?_,fun b xs e=>(ah fun z=>by rw[z,IJ]at e;cases e).trans e,fun b o u e=>(ah fun z=>by rw[z,IJ]at e;cases e).trans e,fun b ps e=>⟨#[],by rw[Array.append_empty];exact(ah fun z=>by rw[z,IJ]at e;cases e).trans e⟩⟩ bC;by_cases z:b=P
   ·exact⟨_,by rw[z];exact ay _ So⟩
   ·exact⟨o,ay _ (hx _ _ z e)⟩
  have Jt:h'.objs.size≠c':=bY eB;refine h _ c' _ xt _ tk _ I1 (au.upd IJ) ?_ ?_ (aQ _ rfl) ⟨c',oc,vs,t,rfl,ay _ Ju,hd,hv⟩
  ·rw[ah Jt];refine I.bC.fresh (bo CK (e8 eB))
  ·exact bo CK (e8 eB)
end
end L2
namespace L2
open PySem PySem.Spec PySem.Calls PyProof.Rows
def gk(aC:List (List Key×Tr)):List Tr:=aC.map fun p=>.tup [p.2,.tup (p.1.map lY)]
def CL:Tr->Tr
 |.tup [_,k]=>k
 |_=>.bU
def t9:Tr->Rs Tr
 |.aX aC=>if qT (gk aC)=true/\((gk aC).all fun t=>(dG t).length==3)=true then .ok (.lst ((cR (gk aC)).map CL))else .bad
 |_=>.bad
def kC(x q:Str)(r:Rs Tr)(A:Ab):Rz Tr:=match(A[0]? :Option Ao)with
 |some (.tb x' q')=>if x'=x/\q'=q then aw (r.bind t9) A else .bad
 |_=>.bad
theorem xv{X:Cx}{H:Hp}{xc:Tr->Ab->Prop}{x q:Str}{ρ:ax}{i:Nat}{A:Ab}{k:Tr->Ab->Prop}(h:dg xc (kC x q (az ρ i) A) k):A[0]?=some (.tb x q)/\∃aC,az ρ i=.ok (.aX aC)/\qT (gk aC)=true/\((gk aC).all fun t=>(dG t).length==3)=true/\k (.lst ((cR (gk aC)).map CL)) A:=by
 unfold kC at h;split at h
 ·rename_i x' q' e;obtain⟨⟨rfl,rfl⟩,h2⟩:=l5 h
  clear h
  refine⟨e,?_⟩;cases e2:az ρ i with
  |bad=>rw[e2]at h2;exact(show False from h2).elim
  |exc c=>rw[e2]at h2;exact(show False from h2).elim
  |ok t=>
   rw[e2]at h2;have h4:dg xc (aw (t9 t) A) k:=h2
   clear h2
   cases t with
   |aX aC=>
    by_cases z:qT (gk aC)=true/\((gk aC).all fun t=>(dG t).length==3)=true
    ·have e3:t9 (.aX aC)=.ok (.lst ((cR (gk aC)).map CL)):=ab z;rw[e3]at h4;exact⟨aC,rfl,z.1,z.2,h4⟩
    ·have e3:t9 (.aX aC)=.bad:=ae z;rw[e3]at h4;exact(show False from h4).elim
   |_=>exact(show False from h4).elim
 ·exact(show False from h).elim
theorem CM{xs:List (List Key×Addr×Value)}(nd:(xs.map (·.1)).Nodup):∀{i:Nat} {x:List Key×Addr×Value},xs[i]?=some x->atKey xs x.1=some x.2:=by
 induction xs with
 |nil=>intro i x e;simp at e
 |cons y xs ih=>
  intro i x e;rw[aB,cU]at nd;unfold atKey;cases i with
  |zero=>
   cases e;rw[cV,bF rfl];rfl
  |succ i=>
   have e:xs[i]?=some x:=e
   have eC:¬y.1=x.1:=fun z=>nd.1 (by rw[z];exact List.mem_map_of_mem (bu e));rw[cV,a_ eC];exact ih nd.2 e
section
variable {X:Cx}
theorem EM{d x MY q:Str}{i:Nat}{c P:Addr}{p pd p1 p2 p3 p4 p5 kp pos IK:Pos}{n1:Nat}{params:Arguments}{scope:Scope}(hu:X.A.units+40<cLine)(V2:X.A.depth+3<recursionLimit)(QP:PySem.W.tabIn X.K MY=some (c,P))(QQ:As X.K c P=true)(sA:X.env.code=.ref c)
  (hm:X.mg "sorted"=none) (hN:X.N[i]?=some d) (IL:X.env.scope.names.lookup d=some .cell) (S:CG scope d x) (JK:∀y∈scope.names,y.2=.free->y.1=d) (hq:X.env.qual++"<lambda>"=q)
  (IM:defaultsOf params X.env=([],[])) (uP:∀(nm qual:Str) (nU:List (Str×Addr)) (pm:Value) (c':Addr) (xt v:Value),bindArgs (PySem.W.kla_fn nm qual params (Ar d x p1 p2 p3 p4 p5 n1) scope nU pm (.ref c') xt) ⟨[v],[]⟩=pure [(x,v)])
  (JS:X.env.globals=mainGlobals) (hc:X.calm=true) (hg:Gl X "sorted") (QR:∀env:Env,(X.A.in1.in1.deeper env).units+1<cLine) (hk:X.env.kindOf d=some .cell):
  PE X (.Call (.Name "sorted" p) [.Name d pd] [⟨some "key",.Lambda params (Ar d x p1 p2 p3 p4 p5 n1) scope IK,kp⟩] pos) (tE X fun ρ A=>kC MY q (az ρ i) A):=by
 intro pins s σ H Q I ⟨B,A,ρ,ha,r,n,qq⟩;obtain⟨eA,aC,eg,ok,h3,k⟩:=xv (X:=X) (H:=H) qq;obtain⟨P',r8,AQ,⟨c',F0⟩,hP⟩:=ha.ob 0 _ eA;cases QP.symm.trans F0;obtain⟨v,t,ev,rv,et⟩:=uU (X:=X) (k:=fun t=>t=.aX aC) r (by rw[eg];rfl);subst et;obtain⟨da,ar,rfl,Va,ek,rr⟩:=rv.oa;have MZ:Gg X.env.scope d:=Or.inr (Or.inl IL);obtain⟨m,hn,QH⟩:=id I.loc;obtain⟨u,ru,look⟩:=QH i d _ hN ev MZ;cases(show u=Value.ref da from ru);obtain⟨cell,wH,ng⟩:∃cell,X.env.cells.lookup d=some cell/\s.heap.IsCell cell (some (.ref da)):=by
  rcases look with⟨EH,_⟩|⟨_,cc,e1,e2⟩
  ·rw[hk]at EH;cases EH
  ·exact⟨cc,e1,e2⟩
 have QU:∀(Q':Value->Shared->Prop),Q' (.ref da) s->wpAny (model X.prog X.w) X.A (eval (.Name d pd) X.env) Q' X.xe s:=fun Q' Iv=>f9 (oW I.ok.kind hk wH ng Iv) S.dd;refine iV (ka (u:=.builtin "sorted") I hg hm rfl ?_ (by decide) (by decide));refine callWith_kw ?_ (by rw[aU _ _ rfl];rfl) (bZ (es:=[.Name d pd]) rfl)
 show wpAny _ _ (spliced ((false,eval (.Name d pd) X.env)::backTo pos (starEach [] X.env))) _ _ _;refine iU (QU _ (lu ?_));refine kws_cons (PySem.W.kla_eval IM ?_);rw[hq];have jh:∀y∈scope.names,y.2=.free->∃c,X.env.cells.lookup y.1=some c:=fun y hy z=>by rw[JK y hy z];exact⟨cell,wH⟩
 have sub:∀x c,(sR scope X.env).lookup x=some c->X.env.cells.lookup x=some c:=ke scope.names [] jh (fun x c e=>by simp at e);obtain⟨CN,M0⟩:∃c,(sR scope X.env).lookup d=some c:=oy.mp (kf scope.names [] d (.inr (fJ S.ld)));have M3:CN=cell:=by have z:=sub d CN M0;rw[wH]at z;exact(Option.some.inj z).symm
 subst M3;refine CJ I (CI I.mod.J8 QQ) I.mod.bm hP sA JS (iw jh) fun f cd pm xt AK Vb H3 I3 sm Jt V3 KN nC=>kws_nil ?_
 have IP:AK.IsCell CN (some (.ref da)):=by
  obtain⟨m3,_,Oq⟩:=I3.loc;obtain⟨u3,Vc,M4⟩:=Oq i d _ hN ev MZ;cases(show u3=Value.ref da from Vc);rcases M4 with⟨EH,_⟩|⟨_,cc,f1,f2⟩
  ·rw[hk]at EH;cases EH
  ·rw[wH]at f1;cases f1;exact f2
 have M5:Rd H3 da (.dT ar):=(Va.same aD).same sm;obtain⟨hz,QV,xs,rel,o,es,ep,g1,g2,g3,g4,g5⟩:=(show bg X.prog X.w H3 AK da (.dT ar)from M5.ok I3.bC);obtain⟨_,_,TC,Vd,dd⟩:=pG I3.bC M5;have bC:∀x∈xs,(tupleKind (av X.prog X.w)).is AK x.1 x.2.1:=by
  have all:∀{l:List (List Key×V)} {m:List (List Key×Addr×Value)},KT H3 l m->∀x∈m,(tupleKind (av X.prog X.w)).is AK x.1 x.2.1:=by
   intro l m q
   induction q with
   |nil=>intro x hx;exact nomatch hx
   |@cons p q ps qs hq t ih=>
    intro x hx;rcases aO.mp hx with e|hx
    ·subst e;exact jg I3.bC (by rw[<-hq.1];exact hq.2.1)
    ·exact ih x hx
  exact all rel
 have dd:AK.DictOfH (tupleKind (av X.prog X.w)) da xs:=⟨o,es,ep,g1,g2,g3,g4,bC,g5⟩;have QX:xs.length=aC.length:=by
  have z1:=Paired.length rel;have z2:=bH List.length ek;rw[ai,ai]at z2;omega
 obtain⟨Ve,AL,nd,same⟩:=qm ok;have Sq:(gk aC).length=aC.length:=by unfold gk;rw[ai]
 have M6:∀(j:Nat) (xj:List Key×Addr×Value),xs[j]?=some xj->∃kt hh a b,aC[j]?=some kt/\kt.2=.int hh/\kt.1=[.inl a,.inl b]/\(gk aC)[j]?=some (.tup [.int hh,.tup [.int a,.int b]])/\xj.1=[.inl a,.inl b]/\(∃t,xj.2.2=.int hh t)/\H3 xj.2.1=some (.tup [.int a,.int b]):=by
  intro j xj ej;have hj:j<aC.length:=by rw[<-QX];exact(cJ.mp ej).1
  have F2:aC[j]?=some aC[j]:=aH hj
  generalize aC[j]=kt at F2;have QY:(gk aC)[j]?=some (.tup [kt.2,.tup (kt.1.map lY)]):=by unfold gk;rw[aS,F2];rfl
  have IF:=Ve _ (bu QY);have Oq:(dG (.tup [kt.2,.tup (kt.1.map lY)])).length=3:=eq_of_beq (bM.mp h3 _ (bu QY));obtain⟨vk,QZ,Sr⟩:=xk rel ej;have e1:(ar.map (·.1))[j]?=some xj.1:=by rw[aS,QZ];rfl
  rw[ek,aS,F2]at e1;have Dp:kt.1=xj.1:=Option.some.inj e1;obtain⟨vv,Ss,Q0⟩:=rr.get (i:=j) (t:=kt.2) (by rw[aS,F2];rfl);rw[aS,QZ]at Ss;cases Ss;obtain⟨k1,k2⟩:=kt;have Dp:k1=xj.1:=Dp;have Q0:Rep X.K (aN B H) vk k2:=Q0;unfold Cz at IF;split at IF
  ·rename_i a b e;rw[<-Option.some.inj IF]at Oq;cases Oq
  ·rename_i hh a b e;injection e with e
   injection e with e2 e
   injection e with e3 _
   injection e3 with e3
   have e2:k2=.int hh:=e2;subst e2;have Vf:k1=[.inl a,.inl b]:=by
    match k1,e3 with
    |[.inl x,.inl y],e3=>injection e3 with z1 z2;injection z2 with z2 _;injection z1 with z1;injection z2 with z2;rw[z1,z2]
    |[.inl x,.inr y],e3=>injection e3 with z1 z2;injection z2 with z2 _;cases z2
    |[.inr x,_],e3=>injection e3 with z1 z2;cases z1
   subst Vf;cases Q0.int_inv;have Q1:RelV (.int hh) xj.2.2:=by
    have gen:∀{l:List (List Key×V)} {m:List (List Key×Addr×Value)},KT H3 l m->∀{j:Nat} {y:List Key×Addr×Value} {w':V} {kk:List Key},m[j]?=some y->l[j]?=some (kk,w')->RelV w' y.2.2:=by
     intro l m q
     induction q with
     |nil=>intro j y w' kk e;simp at e
     |@cons p q' ps qs hq t ih=>
      intro j y w' kk e1 e2;cases j with
      |zero=>cases e1;cases e2;exact hq.2.2
      |succ j=>exact ih (show qs[j]?=some y from e1) (show ps[j]?=some (kk,w')from e2)
    exact gen rel ej QZ
   refine⟨_,hh,a,b,F2,rfl,rfl,QY,Dp.symm,Q1,?_⟩;rw[<-Dp]at Sr;exact Sr
  ·cases IF
 refine call_function_entry_kw kind_sorted plain_sorted entry_sorted (ksk_s1 _ _) ?_
 unfold Builtin.«sorted»;refine aa (m:=checkCount "sorted" 1 1 _) (af ?_);have MH:es.size=xs.length:=by rw[<-bw,g4,ai]
 refine aa (t8 (A:=X.A.in1) (s:={s with heap:=AK,toks:=Vb}) (I3.ok.hd hc) QV g1 g2.1 g3 (by rw[MH,bG];omega) fun h4 Q2 Q3=>?_);have Vg:es.toList.map (·.key)=xs.map fun x=>Value.ref x.2.1:=by rw[g4,bf];rfl
 rw[Vg];refine aa (i8 ?_ (by rw[ai,bG];omega));have Dj:(h4.push (seqObj "list" (xs.map fun x=>Value.ref x.2.1).toArray 0)).get? h4.objs.size=some (seqObj "list" (xs.map fun x=>Value.ref x.2.1).toArray 0):=aQ _ rfl;have Oh:∀{b:Addr} {o:Obj},AK.get? b=some o->b≠h4.objs.size:=fun{b o} e=>aP (aA (Q3 _ _ e));refine aa (cn (wpAny_call_entry_kw slot_list_sort ⟨_,Dj,rfl⟩ entry_list_sort ?body (ksk_l1 _ _)))
 case body=>
  show wpAny _ X.A.in1.in1 (Builtin.«list.sort» ⟨[.ref h4.objs.size],[(Str.ofString "key",.ref f)]⟩) _ _ _;rw[ksk_t1];refine xu (s:={s with heap:=h4.push (seqObj "list" (xs.map fun x=>Value.ref x.2.1).toArray 0),toks:=Q2}) (ks:=(gk aC).map dG) (by show X.A.units+1+1<cLine;omega) Dj (by rw[ai,ai,Sq,QX]) (by rw[ai];exact AL) nd same (fun j v' ky h1 nQ C ej F2 Vh hC=>?_) fun h5 Vi c5 Vj Vk=>?_
  ·rw[aS]at ej;cases M7:xs[j]? with
   |none=>rw[M7]at ej;cases ej
   |some xj=>
    rw[M7]at ej;cases ej;obtain⟨kt,hh,a,b,e1,e2,e3,e4,e5,⟨t5,e6⟩,e7⟩:=M6 j xj M7;rw[aS,e4]at F2;cases F2;have IQ:∀b o,AK.get? b=some o->h1.get? b=some o:=fun b o e=>Vh b o (Oh e) (ay _ (Q3 b o e));refine CH (s:={s with heap:=h1,toks:=nQ}) QR (by show X.A.in1.in1.depth<recursionLimit;show X.A.depth<_;omega) ((I3.nolimit).keeps IQ) (IQ _ _ KN) (nC.keeps IQ) (uP _ _ _ _ _ _) S M0 (by obtain⟨oc,ec,rc⟩:=id IP;exact⟨oc,IQ _ _ ec,rc⟩) (m5 IQ dd) (fv (bC xj (bu M7)) h1 IQ) (CM g5 M7) fun h6 Vl tp Su _ PL=>hC h6 Vl _ Su ?_
    show Oj h6 (.ref tp) hh a b;obtain⟨aT,AI,⟨ot,t1,t2,nt,t3⟩,_⟩:=I3.tuple (.inl (.inl e7));obtain⟨w1,w2,rfl,⟨Q4,rfl⟩,⟨Q5,rfl⟩⟩:=vals2 AI;exact⟨tp,_,t5,0,.ref xj.2.1,rfl,PL,rfl,by rw[e6],xj.2.1,ot,Q4,Q5,nt,rfl,Su _ _ (IQ _ _ t1),t2,t3⟩
  ·
   refine⟨_,rfl,af ⟨_,rfl,?_⟩⟩;have J:Inv X pins σ H3 {s with heap:=h4,toks:=Q2}:=(I3.kept (t':=Q2) Q3);have Q6:H3 h4.objs.size=none:=J.fresh;have Sv:HB B H3:=ha.hb.same sm;have M8:((gk aC).map dG).length=xs.length:=by rw[ai,Sq,QX]
   have I5:=J.laid (t':=Vi) (o:=.lst ((bQ ((gk aC).map dG)).map fun j=>(xs.map fun x=>V.ref x.2.1).getD j .bU)) (h':=h5) (fun b o e=>Vj b o (aP (aA e)) (ay _ e)) (ak _) ⟨by rw[ai,(cP _).length_eq,fK,ai,bG];omega,_,c5,t7 fun j hj=>?_,Vk⟩
   ·refine⟨.ref h4.objs.size,_,I5,rfl,k _ B _ (.of (sm.trans (au.upd Q6))) (ha.same (sm.trans (au.upd Q6))) (.wR Sv Q6 ?_)⟩;rw[<-sv nd,bf];refine tT fun j hj=>?_
    have vq:=cH hj;rw[M8]at vq;obtain⟨kt,hh,a,b,e1,e2,e3,e4,e5,_,e7⟩:=M6 j xs[j] (aH vq);show Rep _ _ ((xs.map fun x=>V.ref x.2.1).getD j .bU) (CL ((gk aC).getD j .bU));rw[bt,bt,aS,aH vq,e4];exact .tup (Sv.tup e7) (.cons (.int a) (.cons (.int b) .nil))
   ·have vq:=cH hj;rw[M8]at vq;rw[bt,bt,aS,aS,aH vq];exact rfl
end
end L2
namespace L2
open PySem PySem.Spec PySem.Calls PyProof.Rows
def gq:Option Int->List Int->Option Int
 |c,[]=>c
 |none,n::ns=>gq (some n) ns
 |some m,n::ns=>gq (some (if n>m then n else m)) ns
def F3:Option (Int×Tok)->Array Value
 |none=>#[]
 |some (m,t)=>#[.int m t,.int m t]
theorem CO(a d:Value):argsOk "max" ⟨[a],[(Str.ofString "default",d)]⟩:=by unfold argsOk;kernel_rfl
section
variable {prog:Program}{w:World}{A:Around}{s:Shared}
theorem vR{id:String}{b:Builtin}{args:List Value}{kw:List (Str×Value)}{E:Value->Shared->Prop}{Q:Value->Shared->Prop}(hk:builtinKind id=none)(hp:plainId id=true)(hb:entryFor table id=some b)(ha:argsOk id ⟨args,kw⟩)
  (hc:wpAny (model prog w) A.in1 (b ⟨args,kw⟩) (fun fin s'=>match fin with
   |.done f=>(match(Except.ok f:Result)with|.ok (.ret v)=>Q v s'|.ok _=>False|.error e=>E e s')
   |.again c'=>c'.quiet=true/\codeAny (model prog w) A c' (fun r s'=>match r with|.ok (.ret v)=>Q v s'|.ok _=>False|.error e=>E e s') s') E s):wpAny (model prog w) A (call (.builtin id) args kw) Q E s:=by
 refine wpAny_call (codeAny_call_builtin hp hb ?_);simp only[checkBuiltinCall,hk];cases Q7:Manifest.signature? id with
 |none=>exact af hc
 |some sig=>
  have h2:Bind.checkArgs id sig ⟨args,kw⟩=pure ():=by simpa only[argsOk,Q7]using ha
  simp only[h2];exact af hc
theorem Au{h0:Heap}{I S:Addr}{aT:List Value}{ns:List Int}{It:Nat->Heap->Prop}{d:Value}{R:Result->Shared->Prop}(hh:A.handled=none)(W:Mu prog w A.in1 h0 I aT It)(hv:IntsAre aT ns)(MQ:h0.get? S=none)(Mw:h0.get? I=none)(JR:S≠I)
  (hR:∀h' tk v,(∀b o,h0.get? b=some o->h'.get? b=some o)->(match gq none ns with|none=>v=d|some m=>∃t,v=.int m t)->R (.ok (.ret v)) {s with heap:=h',toks:=tk}):
  ∀(r i:Nat) (h:Heap) (tk:Nat) (cur:Option (Int×Tok)),ns.length - i=r->i<=ns.length->gq (cur.map (·.1)) (ns.drop i)=gq none ns->(∀b o,h0.get? b=some o->h.get? b=some o)->It i h->(∃c,h.get? S=some (seqObj "list" (F3 cur) c))->
   codeAny (model prog w) A (.builtin "max.loop" ⟨[.ref I,.none,.ref S],[(Str.ofString "default",d)]⟩) R {s with heap:=h,toks:=tk}:=by
 have hlen:aT.length=ns.length:=hv.length;have nS:∀{b:Addr} {o:Obj},h0.get? b=some o->b≠S:=fun{b o} e z=>by rw[z,MQ]at e;cases e
 have nI:∀{b:Addr} {o:Obj},h0.get? b=some o->b≠I:=fun{b o} e z=>by rw[z,Mw]at e;cases e
 have nm:(toString "max"++toString ".loop":String)="max.loop":=by decide
 intro r
 induction r with
 |zero=>
  intro i h tk cur hr hi hm kp it ⟨c,hS⟩;have e:i=ns.length:=by omega
  subst e;rw[iW]at hm;refine dv PySem.F.entry_max_loop ?_
  rw[dJ jJ _];show wpAny _ A.in1 (seqItems? (.ref S)>>=_) _ _ {s with heap:=h,toks:=tk};refine aa (cY hS rfl ?_);show wpAny _ A.in1 (tryCatch (pyNext (.ref I)) _>>=_) _ _ {s with heap:=h,toks:=tk};refine aa (lL (W.stop (s:={s with heap:=h,toks:=tk}) hh it kp (by rw[hlen];exact ak _) fun h' eb=>?_));have yA:∀b o,h0.get? b=some o->h'.get? b=some o:=fun b o q=>eb b o (nI q) (kp b o q);cases cur with
  |none=>
   have hm:none=gq none ns:=hm;show wpAny _ A.in1 (rule _>>=fun _=>ret d) _ _ _;refine aa (dR (af (hR h' tk d yA ?_)));rw[<-hm]
  |some mt=>
   obtain⟨m,t⟩:=mt;have hm:some m=gq none ns:=hm;have yN:=eb S _ JR hS;show wpAny _ A.in1 (updateSeq S (fun _=>#[])>>=_) _ _ _;refine aa (i3 (hz:=show 2<=sizeLine by decide) yN rfl (aa (f7 (af ?_))));refine hR _ tk (.int m t) (fun b o q=>(gv _ _ (bS (nS q))).trans (yA b o q)) ?_
   rw[<-hm];exact⟨t,rfl⟩
 |succ r ih=>
  intro i h tk cur hr hi hm kp it ⟨c,hS⟩;have eB:i<ns.length:=by omega
  have JN:i<aT.length:=by omega
  obtain⟨tv,ev⟩:∃t,aT[i]=.int ns[i] t:=by
   have gen:∀{vs:List Value} {ms:List Int},IntsAre vs ms->∀{j:Nat} (h1:j<vs.length) (h2:j<ms.length),∃t,vs[j]=Value.int ms[j] t:=by
    intro vs ms hq
    induction hq with
    |nil=>intro j h1;exact absurd h1 (o7 _)
    |cons n t _ ih=>
     intro j h1 h2;cases j with
     |zero=>exact⟨t,rfl⟩
     |succ j=>exact ih (Nat.lt_of_succ_lt_succ h1) (Nat.lt_of_succ_lt_succ h2)
   exact gen hv JN eB
  rw[kJ eB]at hm;refine dv PySem.F.entry_max_loop ?_
  rw[dJ jJ _];show wpAny _ A.in1 (seqItems? (.ref S)>>=_) _ _ {s with heap:=h,toks:=tk};refine aa (cY hS rfl ?_);show wpAny _ A.in1 (tryCatch (pyNext (.ref I)) _>>=_) _ _ {s with heap:=h,toks:=tk};refine aa (lL (W.item (s:={s with heap:=h,toks:=tk}) it kp (x:=.int ns[i] tv) (by rw[aH JN,ev]) fun h' JO sb=>?_));have yA:∀b o,h0.get? b=some o->h'.get? b=some o:=fun b o q=>(sb.2 b (nI q)).trans (kp b o q);have yN:h'.get? S=some (seqObj "list" (F3 cur) c):=(sb.2 S JR).trans hS;have put:∀(nM:Nat),gq (some ns[i]) (ns.drop (i+1))=gq none ns->codeAny (model prog w) A (.builtin "max.loop" ⟨[.ref I,.none,.ref S],[(Str.ofString "default",d)]⟩) R {s with heap:=h'.update S (Obj.mapSeq fun _=>#[.int ns[i] tv,.int ns[i] tv]),toks:=nM}:=fun nM Vm=>
   ih (i+1) _ nM (some (ns[i],tv)) (by omega) eB Vm (fun b o q=>(gv _ _ (bS (nS q))).trans (yA b o q)) (W.keep JO fun o q=>(gv _ _ JR).trans q) ⟨_,i7 yN fun _=>#[.int ns[i] tv,.int ns[i] tv]⟩
  cases cur with
  |none=>
   show wpAny _ A.in1 (updateSeq S (fun _=>#[.int ns[i] tv,.int ns[i] tv])>>=_) _ _ _;refine aa (i3 yN rfl ?_);rw[nm];exact af ⟨cZ jJ _,put tk hm⟩
  |some mt=>
   obtain⟨m,t⟩:=mt;have hm:gq (some (if ns[i]>m then ns[i]else m)) (ns.drop (i+1))=gq none ns:=hm;show wpAny _ A.in1 (tryCatch (holding [.int ns[i] tv,.int ns[i] tv] (richCompare .Gt (.int ns[i] tv) (.int m t)>>=_)) _>>=_) _ _ _;refine aa (lL (cn (aa (show wpAny _ _ (compareOp .Gt _ _) _ _ _ from PyProof.Rows.gt_int ?_))));refine aa (cn (iY ?_));refine aa (f7 (af ?_));by_cases q:m<ns[i]
   ·rw[bF q,ab rfl];refine aa (i3 (hz:=show 2<=sizeLine by decide) yN rfl (aa (f7 ?_)));rw[nm];rw[ab q]at hm;exact af ⟨cZ jJ _,put tk hm⟩
   ·rw[a_ q,ae cj];refine aa (f7 ?_);rw[nm];rw[ae q]at hm;exact af ⟨cZ jJ _,ih (i+1) h' tk (some (m,t)) (by omega) eB hm yA JO ⟨c,yN⟩⟩
end
def vS(ts d:Tr):Rs Tr:=match ts,d with
 |.lst ts,.int d=>(match jv ts with
  |some ns=>.ok (.int ((gq none ns).getD d))
  |none=>.bad)
 |_,_=>.bad
section
variable {X:Cx}{l e:Expr}{p kp pos:Pos}{F G:ax->Rs Tr}
theorem IS(hm:X.mg "max"=none)(hl:PE X l (tP X F))(he:PE X e (tP X G))(hc:X.calm=true:=by rfl) (hg:Gl X "max":=by rfl) (cS:aY [l]=true:=by rfl):
  PE X (.Call (.Name "max" p) [l] [⟨some "default",e,kp⟩] pos) (tP X fun ρ=>(F ρ).bind fun a=>(G ρ).bind fun b=>vS a b):=by
 intro pins s σ H Q I ⟨B,ρ,hB,r,q⟩;refine iV (ka (u:=.builtin "max") I hg hm rfl ?_ (by decide) (by decide));refine callWith_kw (dq (ir hl kb (aU _ _ (aG cS).1) pos pins s σ H (fun vs H1=>∃tl,aI X.K (aN B H1) vs [tl]/\au H H1/\Fi X H ((G ρ).bind fun b=>vS tl b) fun t=>∀v H',au H H'->Rep X.K (aN B H') v t->Q v H') I ?_) fun us s1 ⟨vs,H1,I1,rv,tl,rl,sm,k1⟩=>?_) (by rw[aU _ _ (aG cS).1];rfl) (bZ cS)
 ·exact⟨B,ρ,hB,r,q.bind.mono fun tl qt v H1 s1 r1=>⟨tl,.cons r1 .nil,s1,qt⟩⟩
 obtain⟨y,rfl,Vn⟩:=gb rl;refine kws_cons (dq (he pins s1 σ H1 (fun x H2=>∃o,Rep X.K (aN B H2) x o/\au H1 H2/\Fi X H (vS tl o) fun t=>∀v H',au H H'->Rep X.K (aN B H') v t->Q v H') I1 ⟨B,ρ,hB.same sm,r.same sm,(k1.bind.same sm).mono fun o qo v H2 s2 r2=>⟨o,r2,s2,qo⟩⟩) fun u2 s2 ⟨x,H2,I2,rx,ot,ro,Sw,k2⟩=>kws_nil ?_);have key:∃ts d ns,tl=.lst ts/\ot=.int d/\jv ts=some ns/\∀v H',au H H'->Rep X.K (aN B H') v (.int ((gq none ns).getD d))->Q v H':=by
  have k3:=k2
  clear k2
  cases tl with
  |lst ts=>
   cases ot with
   |int d=>
    have k4:Fi X H (match jv ts with|some ns=>.ok (.int ((gq none ns).getD d))|none=>.bad) fun t=>∀v H',au H H'->Rep X.K (aN B H') v t->Q v H':=k3
    clear k3
    cases e:jv ts with
    |none=>rw[e]at k4;exact(show False from k4).elim
    |some ns=>rw[e]at k4;exact⟨ts,d,ns,rfl,rfl,e,k4⟩
   |_=>exact(show False from k3).elim
  |_=>exact(show False from k3).elim
 obtain⟨ts,d,ns,rfl,rfl,en,kq⟩:=key;cases ro.int_inv;obtain⟨td,rfl⟩:=(show∃t,u2=Value.int d t from rx);obtain⟨a,xs,rfl,AH,By⟩:=Vn.lst_inv;obtain⟨w1,rfl,Vo⟩:=vals1 rv;cases(show w1=Value.ref a from Vo);cases rY By en;obtain⟨aT,wk,pl,_⟩:=I2.list (.of (Sw _ _ (eO AH)));have Vp:IntsAre aT ns:=by
  have gen:∀{ms:List Int} {us:List Value},Vals (ms.map V.int) us->IntsAre us ms:=by
   intro ms
   induction ms with
   |nil=>intro us hq;cases hq;exact .nil
   |cons m ms ih=>intro us hq;cases hq with|cons h1 h2=>obtain⟨t,rfl⟩:=(show∃t,_=Value.int m t from h1);exact .cons m t (ih h2)
  exact gen wk
 refine vR PySem.F.kind_max PySem.F.plain_max PySem.F.entry_max (CO _ _) ?_
 have nm:(toString "max"++toString ".loop":String)="max.loop":=by decide
 have Q8:=pl.isList;have eB:a<s2.heap.objs.size:=by obtain⟨_,e,_⟩:=Q8;exact aA e
 show wpAny _ X.A.in1 (Builtin.Builtins.bindParams "max" ["key","default"] 0 ⟨[],[(Str.ofString "default",.int d td)]⟩>>=_) _ _ s2;refine aa (wpAny_of_eq (show Builtin.Builtins.bindParams "max" ["key","default"] 0 ⟨[],[(Str.ofString "default",.int d td)]⟩=pure [none,some (.int d td)]from rfl) ?_);refine aa (af ?_);refine aa (gS Q8 ?_);refine aa (dO ?_);rw[nm];have hI:∀o:Obj,(s2.heap.push o).objs.size=s2.heap.objs.size+1:=fun o=>eZ ..;refine af ⟨cZ jJ _,?_⟩;show codeAny _ _ (.builtin "max.loop" ⟨[.ref s2.heap.objs.size,.none,.ref (s2.heap.push {cls:=.type "list_iterator",data:=.fields #[.ref a,.int 0 0]}).objs.size],[(Str.ofString "default",.int d td)]⟩) _ {s2 with heap:=(s2.heap.push {cls:=.type "list_iterator",data:=.fields #[.ref a,.int 0 0]}).push {cls:=.type "list",data:=.seq #[]}};rw[hI];refine Au (s:=s2) (h0:=s2.heap) (A:=X.A) (I2.ok.hd hc) (yz Q8) Vp (iQ (fZ _)) (iQ (ak _)) (Nat.succ_ne_self _) (fun h' tk v kp hv=>?_) _ 0 _ s2.toks none rfl (bx _) rfl (fun b o e=>ay _ (ay _ e)) ⟨_,ay _ (aQ _ rfl),rfl,rfl⟩ ⟨0,by show Heap.get? _ (s2.heap.objs.size+1)=_;rw[<-hI];exact aQ _ rfl⟩;have fin:∀m:Int,(∃t,v=Value.int m t)->m=(gq none ns).getD d->EP X pins σ Q v {s2 with heap:=h',toks:=tk}:=fun m Oo em=>by
  refine⟨.int m,H2,I2.kept kp,Oo,kq _ H2 (sm.trans Sw) ?_⟩;rw[<-em];exact .int m
 cases e:gq none ns with
 |none=>rw[e]at hv;exact fin d ⟨td,hv⟩ (by rw[e];rfl)
 |some m=>rw[e]at hv;exact fin m hv (by rw[e];rfl)
theorem IT(hm:X.mg "max"=none)(hl:QE X l F)(he:QE X e G)(hc:X.calm=true:=by rfl) (hg:Gl X "max":=by rfl) (cS:aY [l]=true:=by rfl):
  QE X (.Call (.Name "max" p) [l] [⟨some "default",e,kp⟩] pos) (fun ρ=>(F ρ).bind fun a=>(G ρ).bind fun b=>vS a b):=⟨IS hm hl.h he.h hc hg cS⟩
end
end L2
namespace L2
open PySem PySem.Spec PyProof.Rows PySem.W
def CQ(K:Frag)(D:Addr):Bool:=decide (findIn K (.ref D) "__getattribute__"=some (some (.builtin "BaseException.__getattribute__")))&&(decide (findIn K (.ref D) "__getattr__"=some none)&&(decide (findIn K (.ref D) "__class__"=some (some (.builtin "object.__class__")))&&(decide (mroIn K D (.type "object")=some true)&&decide (mroIn K D (.type "BaseException")=some true))))
theorem EN{K:Frag}{D:Addr}(h:CQ K D=true):Me K D:=by
 unfold CQ at h;rw[aM,aM,aM,aM]at h;exact⟨bc h.1,bc h.2.1,bc h.2.2.1,bc h.2.2.2.1,bc h.2.2.2.2⟩
def M9(K:Frag)(u:Value)(tab:List (Str×Bool)):Bool:=tab.all fun p=>decide (kitOne K (.ref (clsAt K p.1)) u=some p.2)
def M_(K:Frag)(xs:List Str):Bool:=xs.all fun x=>CQ K (clsAt K x)&&(clsIn K (clsAt K x)).isSome
theorem m6{α:Type}{z:Str}:∀{l:List (Str×α)} {a:α},l.lookup z=some a->(z,a)∈l
 |[],_,h=>by cases h
 |(y,b)::l,a,h=>by
  rw[cB]at h;cases e:(z==y)with
  |true=>rw[e]at h;cases h;rw[eq_of_beq e];exact aK ..
  |false=>rw[e]at h;exact aR _ (m6 h)
theorem IU{K:Frag}{u:Value}{tab:List (Str×Bool)}{xs:List Str}(h:M9 K u tab=true)(q:M_ K xs=true)(e:tab.map (·.1)=xs):FG K u tab:=⟨fun x b hx=>by
 have m:=m6 hx;have h1:=bc (bM.mp h _ m);have mx:x∈xs:=by rw[<-e];exact List.mem_map_of_mem m
 have h2:=bM.mp q x mx;rw[aM]at h2;exact⟨h1,EN h2.1,h2.2⟩⟩
def M'(K:Frag)(c:Str)(xs:List Str):Bool:=xs.all fun x=>decide (exmOne K (.ref (clsAt K x)) (.ref (clsAt K c))=some true)
theorem CT{K:Frag}{mg:Str->Option Value}{c:Str}{xs:List Str}(m:mg c=some (.ref (clsAt K c)))(h:M' K c xs=true):yo K mg c xs:=⟨m,fun x hx=>bc (bM.mp h x hx)⟩
theorem JT{P:List Value->Prop}(h:P []):∀us:List Value,us.length=0->P us
 |[],_=>h
theorem Q9{P:List Value->Prop}{n:Nat}(h:∀a us,us.length=n->P (a::us)):∀us:List Value,us.length=n+1->P us
 |a::us,e=>h a us (Nat.succ.inj e)
theorem JU{P:List Value->Prop}(h:∀a,P [a]):∀us:List Value,us.length=1->P us:=Q9 fun a=>JT (P:=fun l=>P (a::l)) (h a)
theorem JV{P:List Value->Prop}(h:∀a b,P [a,b]):∀us:List Value,us.length=2->P us:=Q9 fun a=>JU (P:=fun l=>P (a::l)) (h a)
theorem Na{P:List Value->Prop}(h:∀a b c,P [a,b,c]):∀us:List Value,us.length=3->P us:=Q9 fun a=>JV (P:=fun l=>P (a::l)) (h a)
end L2
namespace L2
open PySem PySem.Spec PyProof.Rows PySem.W
section
variable {K:Frag}{c m f:Str}{C:Addr}
def EO(K:Frag)(C:Addr):Bool:=plainGet K C Str.empty&&(hasDictIn K C&&(plainOver K C&&decide (findIn K (.ref C) "__setattr__"=some (some (.builtin "object.__setattr__")))))
theorem CU(h:EO K C=true):Jx K C:=by
 unfold EO at h;rw[aM,aM,aM]at h;exact⟨h.1,h.2.1,h.2.2.1,bc h.2.2.2⟩
def Q_(K:Frag)(C:Addr)(fs:List Str):Bool:=fs.all fun f=>decide (findIn K (.ref C) f=some none)
end
end L2
namespace L2
open PySem PySem.Spec PyProof.Rows PySem.W
structure Df where
 c:Option Str
 x:Str
 q:Str
 st:Stmt
 ps:List Str
def Vq(K:Frag)(c m:Str):Addr:=match findIn K (.ref (clsAt K c)) m with
 |some (some (.ref a))=>a
 |_=>0
def Nb(K:Frag)(a:Addr):FuncData:=match K.lookup a with
 |some ⟨_,_,.func d,_⟩=>d
 |_=>default
def Ra(K:Frag)(a:Addr):Bool:=match K.lookup a with
 |some ⟨_,_,.func _,_⟩=>true
 |_=>false
theorem IV{K:Frag}{a:Addr}(h:Ra K a=true):∃oc od xK,K.lookup a=some ⟨oc,od,.func (Nb K a),xK⟩:=by
 unfold Ra at h;unfold Nb;split at h
 ·rename_i e;rw[e];exact⟨_,_,_,rfl⟩
 ·cases h
namespace Df
def adr(K:Frag)(d:Df):Addr:=match d.c with
 |none=>clsAt K d.x
 |some c=>Vq K c d.x
def fd(K:Frag)(d:Df):FuncData:=Nb K (d.adr K)
def re(d:Df)(f:FuncData):FuncData:=fnOf d.x d.q (nW d.st) (cF d.st) (aE d.st) .none f.kwdefaults f.doc f.pyModule f.annotations f.code f.closureTuple
def isAt(K:Frag)(d:Df):Bool:=match d.c with
 |none=>decide (nsIn K mainGlobals d.x=some (some (.ref (d.adr K))))
 |some c=>decide (findIn K (.ref (clsAt K c)) d.x=some (some (.ref (d.adr K))))&&(isFn K (.ref (d.adr K))&&EO K (clsAt K c))
def F4(K:Frag)(d:Df):Bool:=Ra K (d.adr K)&&(codeIn K (d.fd K).code d.q&&(keepIn K (.ref (d.adr K))&&d.isAt K))
structure Ok(K:Frag)(mg:Str->Option Value)(d:Df):Prop where
 fn:q_ K d.x d.q d.st (d.adr K) (d.fd K)
 m0:d.c=none->mg d.x=some (.ref (d.adr K))
 m1:∀c,d.c=some c->Meth K (clsAt K c) d.x (d.adr K)/\Jx K (clsAt K c)
theorem of{K:Frag}{mg:Str->Option Value}{d:Df}{h:Heap}(X:K.In h)(G:h.Ns mainGlobals mg)(e:d.fd K=d.re (d.fd K))(k:d.F4 K=true):d.Ok K mg:=by
 unfold F4 at k;rw[aM,aM,aM]at k;obtain⟨k1,k2,k3,k4⟩:=k;obtain⟨oc,od,xK,l⟩:=IV k1;refine⟨⟨⟨oc,od,_,_,_,_,_,_,xK,e,l,k2⟩,k3⟩,fun z=>?_,fun c z=>?_⟩<;>unfold isAt at k4<;>rw[z]at k4
 ·exact mg_of X G (bc k4)
 ·rw[aM,aM]at k4;exact⟨⟨bc k4.1,k4.2.1,k3⟩,CU k4.2.2⟩
end Df
theorem CV{K:Frag}{mg:Str->Option Value}{h:Heap}(X:K.In h)(G:h.Ns mainGlobals mg):∀{ds:List Df},ds.map (Df.fd K)=ds.map (fun d=>d.re (d.fd K))->ds.all (Df.F4 K)=true->∀d∈ds,d.Ok K mg
 |[],_,_,d,m=>nomatch m
 |a::ds,e,k,d,m=>by
  rw[fW,aM]at k;rw[aB,aB]at e;injection e with e1 e2
  rcases aO.mp m with rfl|m
  ·exact Df.of X G e1 k.1
  ·exact CV X G e2 k.2 d m
section
variable {P:Program}{w:World}{K:Frag}{mg:Str->Option Value}{base:Heap}{d:Df}{N:List Str}{k n:Nat}
structure rh(P:Program)(w:World)(K:Frag)(mg:Str->Option Value)(base:Heap)(CX:wC)(n:Nat)(d:Df)(sp:Sp):Prop where
 ok:fg P w K mg base CX n (d.adr K) (d.fd K) d.ps sp
 bd:Binds K (d.fd K) d.ps []
 df:d.Ok K mg
abbrev Nc(d:Df):Prop:=∀(kV doc pm:Value) (an:Option Addr) (cE ct:Value) (us:List Value),us.length=d.ps.length->bindArgs (fnOf d.x d.q (nW d.st) (cF d.st) (aE d.st) .none kV doc pm an cE ct) ⟨us,[]⟩=pure (d.ps.zip us)
abbrev Ot(CX:wC)(P:Program)(w:World)(K:Frag)(mg:Str->Option Value)(base:Heap)(N:List Str)(d:Df):=iM CX P w K mg base N d.q (aE d.st) (d.adr K)
abbrev yP(K:Frag)(d:Df)(k:Nat)(cE:Value)(A:Around)(s:Shared):Prop:=cM k (A.deeper (envOfC d.q (aE d.st) s.heap.objs.size (d.adr K) cE))
theorem Nd(N:List Str){a b:Nat}{G:ax->Ab->Rz Out}(D:d.Ok K mg)(hb:N.Nodup->∀cE A outer s H E,yP K d k cE A s->ZB (Ot (n_ P w) P w K mg base N d cE A outer s H E) (cF d.st) G)(S:c_ N d.ps (aE d.st):=by exact⟨rfl,rfl,rfl,by decide+kernel,rfl,by decide+kernel,by decide+kernel⟩) (B:Nc d:=by exact fun _ _ _ _ _ _=>by first|exact JT rfl|exact JU fun _=>rfl|exact JV fun _ _=>rfl|exact Na fun _ _ _=>rfl|exact Ou fun _ _ _ _=>rfl|exact Ov fun _ _ _ _ _=>rfl) (ha:d.ps.length=a:=by rfl) (hn:N.length=b:=by rfl):
  rh P w K mg base (n_ P w) (k+1) d (tO K (mT a b G)):=by
 subst ha;subst hn;exact⟨q_.P4 D.fn S (fun ts A e=>pY e) fun cE A outer s H E hr=>⟨G,hb S.nd cE A outer s H E hr,fun ts A e=>ym e⟩,D.fn.binds B,D⟩
theorem CW(N:List Str){a b:Nat}{G:ax->Rs Out}(D:d.Ok K mg)(hb:N.Nodup->∀cE A outer s H E,yP K d k cE A s->QB (Ot kc P w K mg base N d cE A outer s H E).AE (cF d.st) G)(S:c_ N d.ps (aE d.st):=by exact⟨rfl,rfl,rfl,by decide+kernel,rfl,by decide+kernel,by decide+kernel⟩) (B:Nc d:=by exact fun _ _ _ _ _ _=>by first|exact JT rfl|exact JU fun _=>rfl|exact JV fun _ _=>rfl|exact Na fun _ _ _=>rfl|exact Ou fun _ _ _ _=>rfl|exact Ov fun _ _ _ _ _=>rfl) (ha:d.ps.length=a:=by rfl) (hn:N.length=b:=by rfl):
  rh P w K mg base kc (k+1) d (spT K (AG a b G)):=by
 subst ha;subst hn;exact⟨q_.T4 D.fn S (fun ts t e=>Ei e) fun cE A outer s H E hr=>⟨G,hb S.nd cE A outer s H E hr,fun ts t e=>Hx e⟩,D.fn.binds B,D⟩
theorem IW(N:List Str){a b:Nat}{G:ax->Ab->Rz Out}(D:d.Ok K mg)(hb:N.Nodup->∀cE A outer s H E,yP K d k cE A s->ZB (Ot kc P w K mg base N d cE A outer s H E).AE (cF d.st) G)(S:c_ N d.ps (aE d.st):=by exact⟨rfl,rfl,rfl,by decide+kernel,rfl,by decide+kernel,by decide+kernel⟩) (B:Nc d:=by exact fun _ _ _ _ _ _=>by first|exact JT rfl|exact JU fun _=>rfl|exact JV fun _ _=>rfl|exact Na fun _ _ _=>rfl|exact Ou fun _ _ _ _=>rfl|exact Ov fun _ _ _ _ _=>rfl) (ha:d.ps.length=a:=by rfl) (hn:N.length=b:=by rfl):
  rh P w K mg base kc (k+1) d (spT K (rf a b G)):=by
 subst ha;subst hn;exact⟨q_.P0 D.fn S (fun ts t e=>BV e) fun cE A outer s H E hr=>⟨G,hb S.nd cE A outer s H E hr,fun ts t e=>Et e⟩,D.fn.binds B,D⟩
theorem Nf(D:d.Ok K mg)(B:Nc d:=by exact fun _ _ _ _ _ _=>by first|exact JT rfl|exact JU fun _=>rfl|exact JV fun _ _=>rfl|exact Na fun _ _ _=>rfl|exact Ou fun _ _ _ _=>rfl|exact Ov fun _ _ _ _ _=>rfl):rh P w K mg base kc k d (spT K fun _=>.bad):=
 ⟨⟨fun vs H Q E ⟨_,ts,_,_,t,e,_⟩=>(nomatch e),fun A outer s H args us vs Q E _ _ _ _ ⟨_,ts,_,_,t,e,_⟩=>(nomatch e)⟩,D.fn.binds B,D⟩
theorem rh.PY {h:List Tr->Rs Tr}(C:rh P w K mg base kc n d (spT K h)):rh P w K mg base (n_ P w) n d (tO K fun ts A=>aw (h ts) A):=⟨C.ok.PY,C.bd,C.df⟩
theorem rh.da {CX:wC}{sp:Sp}{x:Str}(C:rh P w K mg base CX n d sp)(hc:d.c=none)(hx:d.x=x)(hq:d.q=x):rK K mg x d.st d.ps (d.adr K) (d.fd K):=
 ⟨by have f:=C.df.fn;rw[hx,hq]at f;exact f,C.bd,by have m:=C.df.m0 hc;rw[hx]at m;exact m⟩
structure Rb(K:Frag)(mg:Str->Option Value)(c:Str):Prop where
 m:makesIn K (clsAt K c)=true
 k:keepIn K (.ref (clsAt K c))=true
 g:mg c=some (.ref (clsAt K c))
end
section
variable {X:Cx}{d:Df}{n k:Nat}{o e l:Expr}{es:List Expr}{p kp pos apos:Pos}{x c m:Str}
section
variable {F O:ax->Rs Tr}{L:ax->Rs (List Tr)}{h:List Tr->Rs Tr}(C:rh X.prog X.w X.K X.mg X.base kc n d (spT X.K h))
include C
theorem dZ(hr:cM k X.A)(ha:QA X (e::es) L)(hn:n<=k:=by first|decide|omega) (hc:d.c=none:=by rfl) (hx:d.x=x:=by rfl) (hq:d.q=x:=by rfl) (hg:Gl X x:=by rfl) (iu:(x==("__debug__":Str))=false:=by decide) (cS:aY (e::es)=true:=by rfl):QE X (.Call (.Name x p) (e::es) [] pos) (fun ρ=>aL h (L ρ)):=
 Mi (C.da hc hx hq) (C.ok.mono hn) hr ha hg iu cS
end
section
variable {F:ax->Ab->Rz Tr}{L:ax->Ab->Rz (List Tr)}{h:List Tr->Ab->Rz Tr}(C:rh X.prog X.w X.K X.mg X.base (n_ X.prog X.w) n d (tO X.K h))
include C
theorem yQ(hr:cM k X.A)(ha:ZL X (e::es) L)(hn:n<=k:=by first|decide|omega) (hc:d.c=none:=by rfl) (hx:d.x=x:=by rfl) (hq:d.q=x:=by rfl) (he:X.ex=[]:=by rfl) (hg:Gl X x:=by rfl) (iu:(x==("__debug__":Str))=false:=by decide) (cS:aY (e::es)=true:=by rfl):ZE X (.Call (.Name x p) (e::es) [] pos) (fun ρ A=>(L ρ A).bind h):=
 Mm (C.da hc hx hq) (C.ok.mono hn) hr ha he hg iu cS
end
end
end L2
namespace L2
open PySem PySem.Spec PyProof.Rows PySem.W
theorem Ng{k:Nat}{A:Around}(hr:cM k A):A.units+4<cLine:=by have:=hr.un;omega
theorem Vr{k:Nat}{A:Around}(hr:cM k A):A.units+6<cLine:=by have:=hr.un;omega
structure TabAt(K:Frag)(x:Str)(c P:Addr):Prop where
 t:tabIn K x=some (c,P)
 h:As K c P=true
theorem CY{K:Frag}{x:Str}{c P:Addr}(h:tabIn K x=some (c,P)):(Nb K (clsAt K x)).code=.ref c:=by
 unfold tabIn at h;unfold Nb clsAt;split at h
 ·rename_i f hf;rw[hf];split at h
  ·rename_i fd _ KN;show(match K.lookup f with|some ⟨_,_,.func d,_⟩=>d|_=>default).code=_;rw[KN];split at h
   ·rename_i c' hc;split at h
    ·split at h
     ·cases h;exact hc
     ·cases h
    ·cases h
   ·cases h
  ·cases h
 ·cases h
section
variable {P:Program}{w:World}{K:Frag}{mg:Str->Option Value}{base:Heap}{d:Df}{N:List Str}{k n:Nat}
theorem Nh(N:List Str){a b:Nat}{G:ax->Ab->Rz Out}(D:d.Ok K mg)(hb:N.Nodup->∀cE A outer s H E,cE=(d.fd K).code->yP K d k cE A s->ZB (Ot (n_ P w) P w K mg base N d cE A outer s H E) (cF d.st) G)(S:c_ N d.ps (aE d.st):=by exact⟨rfl,rfl,rfl,by decide+kernel,rfl,by decide+kernel,by decide+kernel⟩) (B:Nc d:=by exact fun _ _ _ _ _ _=>by first|exact JT rfl|exact JU fun _=>rfl|exact JV fun _ _=>rfl|exact Na fun _ _ _=>rfl|exact Ou fun _ _ _ _=>rfl|exact Ov fun _ _ _ _ _=>rfl) (ha:d.ps.length=a:=by rfl) (hn:N.length=b:=by rfl):
  rh P w K mg base (n_ P w) (k+1) d (tO K (mT a b G)):=by
 subst ha;subst hn;refine⟨?_,D.fn.binds B,D⟩;obtain⟨oc,od,kV,doc,pm,an,cE,ct,xK,e9,lk,nC⟩:=D.fn.ex;have Vs:cE=(d.fd K).code:=by rw[e9]
 rw[e9]at lk⊢;have nb:∀{B:bD} {A:Ab} {H:Hp} {E:XK} {ts:List Tr} {k:Tr->Ab->Prop},dg (N9 K B H E) (mT d.ps.length N.length G ts A) k->mT d.ps.length N.length G ts A≠ .bad:=fun{B A H E ts k} q z=>by rw[z]at q;exact q
 refine Bc lk nC S (fun vs H Q E ⟨B,A,ts,ha,r,q⟩=>by rw[r.length];exact pY (nb q)) fun A outer s H vs Q E hr ⟨B,A1,ts,ha,r,q⟩=>?_
 have hG:=(hb S.nd cE A outer s H E Vs hr).h;refine⟨_,hG,B,H,B,A1,startT N.length ts,ha.hb,.refl,ha,a7.start r,kz,?_⟩;rw[ym (nb q)]at q;refine(dg.bind q).imp (fun c A2 z B' H' g dF e s x=>ve x (z B' H' g dF))|>.mono fun o A2 z=>?_
 cases o with
 |nx ρ=>exact fun bA B' H' g dF r' n'=>z .bU B' H' g dF .bU
 |ret t=>exact fun v B' H' g dF r'=>z v B' H' g dF r'
 |bk ρ=>exact(show False from z).elim
 |ct ρ=>exact(show False from z).elim
end
theorem ER{X:Cx}{d x MY q:Str}{c P:Addr}{p pd p1 p2 p3 p4 p5 kp pos IK:Pos}{n1 k:Nat}{params:Arguments}{scope:Scope}(i:Nat)(hr:cM (k+2) X.A)(T:TabAt X.K MY c P)(sA:X.env.code=.ref c)(hm:X.mg "sorted"=none)(hN:X.N[i]?=some d:=by rfl) (IL:X.env.scope.names.lookup d=some .cell:=by rfl)
  (S:CG scope d x:=by exact⟨rfl,rfl,rfl,rfl,rfl,by decide,by decide,by decide,by decide⟩) (JK:∀y∈scope.names,y.2=.free->y.1=d:=by decide) (hq:X.env.qual++"<lambda>"=q:=by rfl)
  (IM:defaultsOf params X.env=([],[]):=by rfl) (uP:∀(nm qual:Str) (nU:List (Str×Addr)) (pm:Value) (c':Addr) (xt v:Value),bindArgs (PySem.W.kla_fn nm qual params (Ar d x p1 p2 p3 p4 p5 n1) scope nU pm (.ref c') xt) ⟨[v],[]⟩=pure [(x,v)]:=by exact fun _ _ _ _ _ _ _=>rfl)
  (JS:X.env.globals=mainGlobals:=by rfl) (hc:X.calm=true:=by rfl) (hg:Gl X "sorted":=by rfl) (hk:X.env.kindOf d=some .cell:=by rfl):
  ZE X (.Call (.Name "sorted" p) [.Name d pd] [⟨some "key",.Lambda params (Ar d x p1 p2 p3 p4 p5 n1) scope IK,kp⟩] pos) (fun ρ A=>kC MY q (az ρ i) A):=
 ⟨EM (sZ hr) (by have:=hr.dp;omega) T.t T.h sA hm hN IL S JK hq IM uP JS hc hg (fun env=>by have:=hr.un;show X.A.units+1+1+3+1<cLine;omega) hk⟩
end L2
namespace L2
open PySem PySem.Spec PyProof.Rows PySem.W
structure JW where
 bl:List Str
 own:List Str
 Sz:List Str
 fl:List (Str×List Str)
 kd:List Df
 er:List Str
 xs:List (Str⊕String)
 cs:List Str
 rs:List Str
namespace JW
def val(K:Frag):Str⊕String->Value
 |.inl c=>.ref (clsAt K c)
 |.inr c=>.type c
def tab(er:List Str):Str⊕String->List (Str×Bool)
 |.inl c=>er.map fun x=>(x,x==c)
 |.inr _=>er.map fun x=>(x,true)
def F4(K:Frag)(o:JW):Bool:=o.bl.all (fun x=>decide (nsIn K mainGlobals x=some none))&&(o.own.all (fun c=>decide (nsIn K mainGlobals c=some (some (.ref (clsAt K c)))))&&(o.Sz.all (fun c=>makesIn K (clsAt K c)&&(keepIn K (.ref (clsAt K c))&&decide (nsIn K mainGlobals c=some (some (.ref (clsAt K c))))))&&
 (o.fl.all (fun p=>EO K (clsAt K p.1)&&Q_ K (clsAt K p.1) p.2)&&(o.kd.all (fun d=>decide (specialIn K (.ref (d.adr K)) "__get__"=some (some (.builtin "function.__get__")))&&decide (takesIn K (.ref (d.adr K))=some false))&&
 (M_ K o.er&&(o.xs.all (fun c=>M9 K (val K c) (tab o.er c))&&(o.cs.all (fun c=>M' K c o.er)&&o.rs.all (fun c=>excIn K (clsAt K c) RM "ValueError.__new__"))))))))
structure Ok(o:JW)(K:Frag)(mg:Str->Option Value):Prop where
 bl:∀{x},o.bl.contains x=true->mg x=none
 Ow:∀{c},o.own.contains c=true->mg c=some (.ref (clsAt K c))
 V4:∀{c},o.Sz.contains c=true->Rb K mg c
 fl:∀{c f fs},o.fl.lookup c=some fs->fs.contains f=true->Mb K [c] f
 bn:∀(i:Nat) {d:Df},o.kd[i]?=some d->Mf K (d.adr K)
 xc:∀(i:Nat) {c},o.xs[i]?=some c->FG K (val K c) (tab o.er c)
 ca:∀{c},o.cs.contains c=true->o.own.contains c=true->yo K mg c o.er
 er:∀{c},o.rs.contains c=true->o.own.contains c=true->Ma K mg c
theorem ok{o:JW}{K:Frag}{mg:Str->Option Value}{h:Heap}(X:K.In h)(G:h.Ns mainGlobals mg)(k:o.F4 K=true):o.Ok K mg:=by
 unfold F4 at k;simp only[aM,bM,cA]at k;obtain⟨k1,k2,k3,k4,k5,k6,k7,k8,k9⟩:=k;have Ow:∀{c},o.own.contains c=true->mg c=some (.ref (clsAt K c)):=fun m=>mg_of X G (k2 _ (jL.mp m));refine⟨fun m=>mg_none_of X G (k1 _ (jL.mp m)),Ow,fun m=>?_,fun{c f fs} l m=>?_,fun i d e=>?_,fun i c e=>?_,fun m n=>CT (Ow n) (k8 _ (jL.mp m)),fun m n=>⟨Ow n,k9 _ (jL.mp m)⟩⟩
 ·have q:=k3 _ (jL.mp m);exact⟨q.1,q.2.1,mg_of X G q.2.2⟩
 ·have q:=k4 _ (m6 l);refine⟨fun x hx=>?_⟩;cases cz.mp hx;exact⟨CU q.1,(bc (bM.mp q.2 f (jL.mp m)):findIn K (.ref (clsAt K c)) f=some none)⟩
 ·have q:=k5 _ (bu e);exact⟨q.1,q.2⟩
 ·refine IU (k7 _ (bu e)) k6 ?_
  cases c<;>simp[tab,Function.comp_def]
end JW
end L2
namespace qz
open PySem L2
def top(i:Nat):Stmt:=PySem.Challenge.pw_talkhall_k31_heights_and_order.main.body.getD i (.Pass ⟨0,0,0,0⟩)
def d0:Df:=⟨none,"followers_of","followers_of",top 1,["known"]⟩
def d8:Df:=⟨none,"heights_of","heights_of",top 2,["letters"]⟩
def qA:Df:=⟨none,"height","height",top 3,["letters","mark"]⟩
def t_:Df:=⟨none,"order","order",top 4,["letters"]⟩
def qB:Df:=⟨none,"_law_cell","_law_cell",top 6,["_law_script","_law_k"]⟩
def ua:Df:=⟨none,"_law_mix","_law_mix",top 7,["_law_cell_here","_law_prime","_law_many"]⟩
def mj:Df:=⟨none,"_law_same","_law_same",top 8,["_law_found","_law_due"]⟩
def gA:Df:=⟨none,"_law_letters","_law_letters",top 9,["_law_cell_here","_law_many"]⟩
def m7:Df:=⟨none,"_law_mixed","_law_mixed",top 10,["_law_some","_law_cell_here"]⟩
def iA:Df:=⟨none,"_law_height","_law_height",top 11,["_law_letters_here","_law_mark"]⟩
def qC:Df:=⟨none,"law","law",top 12,["_law_script"]⟩
def DS:List Df:=[d0,d8,qA,t_,qB,ua,mj,gA,m7,iA,qC]
structure ES(K:PySem.W.Frag)(w:World)(mg:Str->Option Value)(tc tP:Addr):Prop where
 d:∀(i:Nat) {e:Df},DS[i]?=some e->e.Ok K mg
 all:mg "all"=none
 bool:mg "bool"=none
 dict:mg "dict"=none
 int:mg "int"=none
 isinstance:mg "isinstance"=none
 len:mg "len"=none
 list:mg "list"=none
 max:mg "max"=none
 range:mg "range"=none
 set:mg "set"=none
 sorted:mg "sorted"=none
 str:mg "str"=none
 tuple:mg "tuple"=none
 zip:mg "zip"=none
 tab:TabAt K "order" tc tP
abbrev CS(n:Nat)(d:Df)(a b:Nat):={F:ax->Ab->Rz Out//∀{P:Program} {w:World} {K:PySem.W.Frag} {mg:Str->Option Value} {base:Heap} {tc tP:Addr},ES K w mg tc tP->rh P w K mg base (n_ P w) n d (tO K (mT a b F))}
abbrev CP(n:Nat)(d:Df)(a b:Nat):={F:ax->Rs Out//∀{P:Program} {w:World} {K:PySem.W.Frag} {mg:Str->Option Value} {base:Heap} {tc tP:Addr},ES K w mg tc tP->rh P w K mg base kc n d (spT K (AG a b F))}
abbrev CZ(n:Nat)(d:Df)(a b:Nat):={F:ax->Ab->Rz Out//∀{P:Program} {w:World} {K:PySem.W.Frag} {mg:Str->Option Value} {base:Heap} {tc tP:Addr},ES K w mg tc tP->rh P w K mg base kc n d (spT K (rf a b F))}
abbrev CR(n:Nat)(d:Df)(a b:Nat)(r:List Tr->Rs Tr):={F:ax->Rs Out//∀{P:Program} {w:World} {K:PySem.W.Frag} {mg:Str->Option Value} {base:Heap} {k:Nat} {tc tP:Addr},ES K w mg tc tP->n<=k->rh P w K mg base kc k d (spT K r)->rh P w K mg base kc (k+1) d (spT K (AG a b F))}
abbrev KS(n:Nat)(d:Df)(m:List Tr->Ab->Rz Tr):Prop:=∀{P:Program} {w:World} {K:PySem.W.Frag} {mg:Str->Option Value} {base:Heap} {tc tP:Addr},ES K w mg tc tP->rh P w K mg base (n_ P w) n d (tO K m)
abbrev KP(n:Nat)(d:Df)(m:List Tr->Rs Tr):Prop:=∀{P:Program} {w:World} {K:PySem.W.Frag} {mg:Str->Option Value} {base:Heap} {tc tP:Addr},ES K w mg tc tP->rh P w K mg base kc n d (spT K m)
def d9:CS 1 d0 1 4:=⟨_,fun T=>Nd ["known","followers","mark","other"] (T.d 0 rfl) fun nd _ _ _ _ _ _ hr=>(bB (fq (i:=1) (Aj (l_ (Ng hr) rfl) T.dict (EF (N':=["mark"]) (ix:=[none]) (fN.of (N:=["known","followers","mark","other"]) (sc:=aE d0.st) rfl rfl (by decide+kernel)) (yy (aj 0)) (fun s H ex=>NB.of (by show List.Nodup (["mark"]:List Str);decide+kernel)))) nd) (bB (Il (yy (aj 0)) (fF 2 nd) (fz 2) (dC (yt (p7 (qa (fI hr) (aj 0) (aj 2))) (fF 3 nd) (fz 3) (dC (Cc (tV (jz (Cg (fI hr)) (aj 3) (aj 0))) (dC (mX (p9 ig jI eM mS (Ex (a8 (qa (fI hr) (aj 1) (aj 3)))) (dh (a8 (aj 2)) fG)))) vx))))) (dC (nv (a8 (aj 1))))))⟩
def d_:=mT 1 4 d9.1
theorem qE:KS 1 d0 d_:=d9.2
def fP:CZ 2 d8 1 10:=⟨_,fun T=>IW ["letters","known","followers","waits","heights","level","height_now","freed","mark","follower"] (T.d 1 rfl) fun nd _ _ _ _ _ _ hr=>(bB (fq (i:=1) (a8 (RP (l7 (l_ (Ng hr) rfl) T.dict (aq (aj 0) aW)))) nd) (bB (fq (i:=2) (yQ (qE T) hr (dh (a8 (aj 1)) fG)) nd) (bB (fq (i:=3) (p8 (l7 (l_ (Ng hr) rfl) T.dict (aq (Ml (N':=["mark","known"]) (ix:=[none,some 1]) (fN.of (N:=["letters","known","followers","waits","heights","level","height_now","freed","mark","follower"]) (sc:=aE d8.st) rfl rfl (by first|decide+kernel|exact rfl|kernel_rfl)) (yy (aj 1)) ⟨fun s H ex=>⟨(fF 0 (by show List.Nodup (["mark","known"]:List Str);decide+kernel)),yq,(nu (aq (aj 0) (aq (cp kx T.len (aq (Cb (N':=["other","known"]) (ix:=[none,some 1]) (fN.of (N:=["mark","known"]) (sc:=_) rfl rfl (by first|decide+kernel|exact rfl|kernel_rfl)) (p7 (qa (fI hr) (aj 1) (aj 0))) ⟨fun s H ex=>⟨(fF 0 (by show List.Nodup (["other","known"]:List Str);decide+kernel)),(yr (jz (Cg (fI hr)) (aj 0) (aj 1))),(aj 0)⟩⟩ (fz 0)) aW)) aW)))⟩⟩ (fz 0)) aW))) nd) (bB (fq (i:=4) (p8 Ib) nd) (bB (Ce (i:=5) (N':=["mark","waits"]) (ix:=[none,some 3]) (fN.of (N:=["letters","known","followers","waits","heights","level","height_now","freed","mark","follower"]) (sc:=aE d8.st) rfl rfl (by first|decide+kernel|exact rfl|kernel_rfl)) (yy (aj 1)) ⟨fun s H ex=>⟨(fF 0 (by show List.Nodup (["mark","waits"]:List Str);decide+kernel)),(yr (jz (wV (sZ hr)) (qa (fI hr) (aj 1) (aj 0)) bP)),(aj 0)⟩⟩ (fz 0) nd) (bB (fq (i:=6) (a8 bP) nd) (bB (yu 100 (tW (jz PH (cp kx T.len (aq (aj 5) aW)) bP)) (bB (fq (i:=7) (p8 (yv aW)) nd) (bB (yB 100 (a8 (aj 5)) (fF 8 nd) (fz 8) (bB (Ez (fI hr) (Ex (a8 (aj 4))) (a8 (aj 8)) (a8 (aj 6))) (dC (yB 100 (a8 (qa (fI hr) (aj 2) (aj 8))) (fF 9 nd) (fz 9) (bB (EA (fI hr) (Ex (a8 (aj 3))) (a8 (aj 9)) (a8 bP)) (dC (Cc (tW (jz (wV (sZ hr)) (qa (fI hr) (aj 3) (aj 9)) bP)) (dC (mX (p9 ig jI eM mS (Ex (a8 (aj 7))) (dh (a8 (aj 9)) fG)))) vx))))))) (bB (fq (i:=5) (a8 (aj 7)) nd) (dC (Ih 6 (a8 bP))))))) (dC (nv (a8 (aj 4)))))))))))⟩
def ef:=rf 1 10 fP.1
theorem ml:KP 2 d8 ef:=fP.2
def vU:CP 3 qA 2 2:=⟨_,fun T=>CW ["letters","mark"] (T.d 2 rfl) fun nd _ _ _ _ _ _ hr=>(j7 (j8 (Ij (fI hr) (dZ (ml T) hr (aq (aj 0) aW)) (aj 1))))⟩
def mm:=AG 2 2 vU.1
theorem C0:KP 3 qA mm:=vU.2
def uc:CS 6 t_ 1 2:=⟨_,fun T=>Nh ["letters","heights"] (T.d 3 rfl) fun nd _ _ _ _ _ _ nC hr=>(bB (fq (i:=1) (a8 (dZ (ml T) hr (aq (aj 0) aW))) nd) (dC (nv (Cd n6 T.tuple (dh (ER (q:="order.<locals>.<lambda>") 1 hr T.tab (nC.trans (CY T.tab.t)) T.sorted) fG)))))⟩
def gB:=mT 1 2 uc.1
theorem yR:KS 6 t_ gB:=uc.2
def vV:CP 1 qB 2 2:=⟨_,fun T=>CW ["_law_script","_law_k"] (T.d 4 rfl) fun nd _ _ _ _ _ _ hr=>(kA (B9 (jz PD (aj 1) (cp kx T.len (aq (aj 0) aW))) (j7 (j8 (Ia (fI hr) (aj 0) (aj 1)))) vu) (j7 (j8 bP)))⟩
def ie:=AG 2 2 vV.1
theorem vW:KP 1 qB ie:=vV.2
def yS:CP 1 ua 3 4:=⟨_,fun T=>CW ["_law_cell_here","_law_prime","_law_many","_law_blend"] (T.d 5 rfl) fun nd _ _ _ _ _ _ hr=>(kA (FN (i:=3) (fo Bz (fo uZ (aj 0) bP) (aj 1)) nd) (j7 (j8 (fo Bz (fo Bz (fo uZ (aj 3) (fo lW (aj 3) bP)) (aj 1)) (aj 2)))))⟩
def bz:=AG 3 4 yS.1
theorem iB:KP 1 ua bz:=yS.2
def vX(r:List Tr->Rs Tr):CR 0 mj 2 2 r:=⟨_,fun T hk G=>CW ["_law_found","_law_due"] (T.d 6 rfl) fun _ _ _ _ _ _ _ hr=>(kA (B9 (se (cp rQ T.isinstance (aq (aj 1) (aq (vt T.tuple) aW)))) (kA (B9 (B7 (Mh (FJ (se (cp rQ T.isinstance (aq (aj 0) (aq (vt T.tuple) aW))))) (FK (jz (PC (sZ hr)) (cp kx T.len (aq (aj 0) aW)) (cp kx T.len (aq (aj 1) aW)))))) (j7 (j8 H_)) vu) (j7 (j8 (cp (LA rfl) T.all (aq (Cb (N':=["_law_one","_law_other"]) (ix:=[none,none]) (fN.of (N:=["_law_found","_law_due"]) (sc:=aE mj.st) rfl rfl (by decide+kernel)) (Mj T.zip (aq (aj 0) (aq (aj 1) aW))) ⟨fun s H ex=>⟨(Ca (is:=[0,1]) (mW (i:=0) (mW (i:=1) B_ (by show List.Nodup (["_law_one","_law_other"]:List Str);decide+kernel)) (by show List.Nodup (["_law_one","_law_other"]:List Str);decide+kernel))),yq,(dZ G hr (aq (aj 0) (aq (aj 1) aW)))⟩⟩ (wO [0,1])) aW))))) vu) (kA (B9 (jz Lw (aj 1) FI) (j7 (j8 (B6 Lw (aj 0) FI))) vu) (kA (B9 (B7 (Mh (se (cp rQ T.isinstance (aq (aj 1) (aq (vt T.bool) aW)))) (FK (se (cp rQ T.isinstance (aq (aj 0) (aq (vt T.bool) aW))))))) (j7 (j8 (B8 (cp rQ T.isinstance (aq (aj 1) (aq (vt T.bool) aW))) (B8 (cp rQ T.isinstance (aq (aj 0) (aq (vt T.bool) aW))) (FL (B6 (wV (sZ hr)) (aj 0) (aj 1))))))) vu) (j7 (j8 (B8 (cp HG T.isinstance (aq (aj 0) (aq (nu (aq (vt T.int) (aq (vt T.str) aW))) aW))) (FL (B6 (wV (sZ hr)) (aj 0) (aj 1)))))))))⟩
def cw:Nat->List Tr->Rs Tr
 |0=>fun _=>.bad
 |n+1=>AG 2 2 (vX (cw n)).1
theorem m8{P:Program}{w:World}{K:PySem.W.Frag}{mg:Str->Option Value}{base:Heap}{tc tP:Addr}(T:ES K w mg tc tP):∀n:Nat,rh P w K mg base kc (0+n) mj (spT K (cw n))
 |0=>Nf (T.d 6 rfl)
 |n+1=>(vX _).2 T (gP ..) (m8 T n)
def jG:CZ 2 gA 2 8:=⟨_,fun T=>IW ["_law_cell_here","_law_many","_law_marks","_law_found","_law_k","_law_seed","_law_mark","_law_behind"] (T.d 7 rfl) fun nd _ _ _ _ _ _ hr=>(bB (fq (i:=2) (p8 (yv aW)) nd) (bB (fq (i:=3) (p8 (yv aW)) nd) (bB (yt (vw T.range (aq (dZ (iB T) hr (aq (aj 0) (aq bP (aq (fo lW (aj 1) bP) aW)))) aW)) (fF 4 nd) (fz 4) (bB (fq (i:=5) (a8 (fo lW (aj 0) (fo uZ bP (aj 4)))) nd) (bB (fq (i:=6) (a8 (nu (aq (dZ (iB T) hr (aq (aj 5) (aq bP (aq bP aW)))) (aq (aj 4) aW)))) nd) (bB (Ey (i:=7) (N':=["_law_one","_law_seed"]) (ix:=[none,some 5]) (fN.of (N:=["_law_cell_here","_law_many","_law_marks","_law_found","_law_k","_law_seed","_law_mark","_law_behind"]) (sc:=aE gA.st) rfl rfl (by first|decide+kernel|exact rfl|kernel_rfl)) (p7 (aj 2)) ⟨fun s H ex=>⟨(fF 0 (by show List.Nodup (["_law_one","_law_seed"]:List Str);decide+kernel)),(yr (jz (wV (sZ hr)) (dZ (iB T) hr (aq (fo lW (aj 1) (fo uZ bP (Ia (fI hr) (aj 0) bP))) (aq bP (aq bP aW)))) bP)),(aj 0)⟩⟩ (fz 0) nd) (bB (Cc (tV (jz (wV (sZ hr)) (dZ (iB T) hr (aq (aj 5) (aq bP (aq bP aW)))) bP)) (dC (mX (p9 ig jI eM mS (Ex (a8 (aj 7))) (dh (a8 (nu (aq (dZ (iB T) hr (aq (aj 5) (aq bP (aq bP aW)))) (aq (fo lW bP (dZ (iB T) hr (aq (aj 5) (aq bP (aq bP aW))))) aW)))) fG)))) vx) (bB (mX (p9 ig jI eM mS (Ex (a8 (aj 2))) (dh (a8 (aj 6)) fG))) (dC (mX (p9 ig jI eM mS (Ex (a8 (aj 3))) (dh (xi (nu (aq (aj 6) (aq (pZ n6 T.tuple (aq (EL (Vr hr) T.sorted T.set (aj 7)) aW)) aW)))) fG)))))))))) (dC (nv (a8 (aj 3)))))))⟩
def dD:=rf 2 8 jG.1
theorem vY:KP 2 gA dD:=jG.2
def m9:CZ 2 m7 2 4:=⟨_,fun T=>IW ["_law_some","_law_cell_here","_law_left","_law_found"] (T.d 8 rfl) fun nd _ _ _ _ _ _ hr=>(bB (fq (i:=2) (p8 (l7 Ew T.list (aq (aj 0) aW))) nd) (bB (fq (i:=3) (p8 (yv aW)) nd) (bB (yu 100 (tW (se (aj 2))) (dC (mX (p9 ig jI eM mS (Ex (a8 (aj 3))) (dh (p9 PySem.F.slot_list_pop PySem.F.type_list_pop Bi HU (Ex (a8 (aj 2))) (dh (xi (dZ (iB T) hr (aq (fo lW (aj 1) (fo uZ bP (cp kx T.len (aq (aj 2) aW)))) (aq bP (aq (cp kx T.len (aq (aj 2) aW)) aW))))) fG)) fG))))) (dC (nv (xi (pZ n6 T.tuple (aq (aj 3) aW))))))))⟩
def fR:=rf 2 4 m9.1
theorem Av:KP 2 m7 fR:=m9.2
def iC(r:List Tr->Rs Tr):CR 0 iA 2 3 r:=⟨_,fun T hk G=>CW ["_law_letters_here","_law_mark","_law_behind"] (T.d 9 rfl) fun nd _ _ _ _ _ _ hr=>(kA (FN (i:=2) (RP (l7 (l_ (Ng hr) rfl) T.dict (aq (aj 0) aW))) nd) (j7 (j8 (fo lW bP (IT T.max (Cb (N':=["_law_one","_law_behind","_law_letters_here"]) (ix:=[none,some 2,some 0]) (fN.of (N:=["_law_letters_here","_law_mark","_law_behind"]) (sc:=aE iA.st) rfl rfl (by first|decide+kernel|exact rfl|kernel_rfl)) (p7 (qa (fI hr) (aj 2) (aj 1))) ⟨fun s H ex=>⟨(fF 0 (by show List.Nodup (["_law_one","_law_behind","_law_letters_here"]:List Str);decide+kernel)),(yr (jz (Cg (fI hr)) (aj 0) (aj 1))),(dZ G hr (aq (aj 2) (aq (aj 0) aW)))⟩⟩ (fz 0)) bP)))))⟩
def cg:Nat->List Tr->Rs Tr
 |0=>fun _=>.bad
 |n+1=>AG 2 3 (iC (cg n)).1
theorem jH{P:Program}{w:World}{K:PySem.W.Frag}{mg:Str->Option Value}{base:Heap}{tc tP:Addr}(T:ES K w mg tc tP):∀n:Nat,rh P w K mg base kc (0+n) iA (spT K (cg n))
 |0=>Nf (T.d 9 rfl)
 |n+1=>(iC _).2 T (gP ..) (jH T n)
def yT:CS 14 qC 1 6:=⟨_,fun T=>Nd ["_law_script","_law_k","_law_letters_here","_law_mark","_law_behind","_law_due"] (T.d 10 rfl) fun nd _ _ _ _ _ _ hr=>(bB (yt (vw T.range (aq bP aW)) (fF 1 nd) (fz 1) (bB (fq (i:=2) (a8 (dZ (Av T) hr (aq (dZ (vY T) hr (aq (fo lW (dZ (vW T) hr (aq (aj 0) (aq (aj 1) aW))) (aj 1)) (aq bP aW))) (aq (fo lW (dZ (vW T) hr (aq (aj 0) (aq bP aW))) (aj 1)) aW)))) nd) (bB (yt (p7 (aj 2)) (Ca (is:=[3,4]) (mW (i:=3) (mW (i:=4) B_ nd) nd)) (wO [3,4]) (dC (Cc (tV (FJ (se (dZ (m8 T 5) hr (aq (dZ (C0 T) hr (aq (aj 2) (aq (aj 3) aW))) (aq (dZ (jH T 12) hr (aq (aj 2) (aq (aj 3) aW))) aW)))))) (dC (nv (a8 H_))) vx))) (bB (fq (i:=5) (a8 (cp (Am (Ng hr)) T.sorted (aq (Cb (N':=["_law_mark","_law_behind","_law_letters_here"]) (ix:=[none,none,some 2]) (fN.of (N:=["_law_script","_law_k","_law_letters_here","_law_mark","_law_behind","_law_due"]) (sc:=aE qC.st) rfl rfl (by first|decide+kernel|exact rfl|kernel_rfl)) (p7 (aj 2)) ⟨fun s H ex=>⟨(Ca (is:=[0,1]) (mW (i:=0) (mW (i:=1) B_ (by show List.Nodup (["_law_mark","_law_behind","_law_letters_here"]:List Str);decide+kernel)) (by show List.Nodup (["_law_mark","_law_behind","_law_letters_here"]:List Str);decide+kernel))),yq,(nu (aq (dZ (jH T 12) hr (aq (aj 2) (aq (aj 0) aW))) (aq (aj 0) aW)))⟩⟩ (wO [0,1])) aW))) nd) (dC (Cc (Ie (Ic (yQ (m8 T 5).PY hr (dh (yQ (yR T) hr (dh (a8 (aj 2)) fG)) (dh (a8 (pZ n6 T.tuple (aq (Cb (N':=["_law_pair"]) (ix:=[none]) (fN.of (N:=["_law_script","_law_k","_law_letters_here","_law_mark","_law_behind","_law_due"]) (sc:=aE qC.st) rfl rfl (by first|decide+kernel|exact rfl|kernel_rfl)) (p7 (aj 5)) ⟨fun s H ex=>⟨(fF 0 (by show List.Nodup (["_law_pair"]:List Str);decide+kernel)),yq,(Ia (fI hr) (aj 0) bP)⟩⟩ (fz 0)) aW))) fG))))) (dC (nv (a8 H_))) vx)))))) (dC (nv (Mn (wV (sZ hr)) (yQ (yR T) hr (dh (a8 (nu aW)) fG)) (a8 (nu aW))))))⟩
def sC:=mT 1 6 yT.1
theorem Ni:KS 14 qC sC:=yT.2
end qz
namespace qz
open PySem L2
abbrev Mk:=Int×Int
def tM(m:Mk):Tr:=.tup [.int m.1,.int m.2]
def kM(m:Mk):List Key:=[.inl m.1,.inl m.2]
theorem xw{a b:Mk}:kM a=kM b↔a=b:=by
 constructor
 ·intro e;unfold kM at e;injection e with e1 e2
  injection e2 with e2 _
  injection e1 with e1
  injection e2 with e2
  exact Prod.ext e1 e2
 ·intro e;rw[e]
theorem ET(m:Mk):l8 (tM m)=some (kM m):=rfl
def fD(ks:List Mk)(g:Mk->Tr):List (List Key×Tr):=ks.map fun m=>(kM m,g m)
theorem mn(g:Mk->Tr)(m:Mk):∀ks:List Mk,gI (fD ks g) (kM m)=if m∈ks then some (g m)else none
 |[]=>rfl
 |k::ks=>by
  unfold gI fD;rw[aB,cV];by_cases e:k=m
  ·subst e;simp
  ·have h:decide (kM k=kM m)=false:=a_ fun h=>e (xw.mp h);simp only[h];have:=mn g m ks;unfold gI fD at this;rw[this];have e':¬m=k:=fun h=>e h.symm;simp[e']
theorem C1(ks:List Mk)(g:Mk->Tr):Cm (fD ks g)=.ok (ks.map tM):=by
 unfold Cm;rw[ab]
 ·unfold fD;rw[bf];rfl
 ·rw[bM];intro p hp;obtain⟨m,_,rfl⟩:=a9.mp hp
  rfl
theorem om(ks:List Mk)(g:Mk->Tr):nO (.ok (.aX (fD ks g)))=.ok (ks.map tM):=C1 ks g
theorem yU(g:Mk->Tr):∀ks:List Mk,l9 (ks.map fun m=>.tup [tM m,g m])=some (fD ks g)
 |[]=>rfl
 |k::ks=>by
  rw[aB,l9,ET,yU g ks]
  rfl
theorem C2(ks:List Mk)(g:Mk->Tr)(m:Mk):((fD ks g).any fun kv=>decide (kv.1=kM m))=decide (m∈ks):=by
 induction ks with
 |nil=>rfl
 |cons k ks ih=>
  unfold fD at ih⊢;rw[aB,fV,ih];by_cases e:k=m
  ·subst e;simp
  ·have h:decide (kM k=kM m)=false:=a_ fun h=>e (xw.mp h);have e':¬m=k:=fun h=>e h.symm;simp only[h,lF];simp[e']
theorem vZ{ks:List Mk}{g:Mk->Tr}{m:Mk}{t:Tr}(h:m∉ks)(e:g m=t):jB (fD ks g) (kM m) t=fD (ks++[m]) g:=by
 unfold jB;rw[C2,a_ h,ae (by decide)];unfold fD;rw[cX,aB,List.map_nil,e]
theorem C3{ks:List Mk}{g:Mk->Tr}{m:Mk}{t:Tr}(h:m∈ks):jB (fD ks g) (kM m) t=fD ks (fun x=>if x=m then t else g x):=by
 unfold jB;rw[C2,bF h,ab rfl];unfold fD;rw[bf];refine eU fun x _=>?_
 show(if kM x=kM m then(kM x,t)else(kM x,g x))=(kM x,if x=m then t else g x);by_cases e:x=m
 ·subst e;rw[ab rfl,ab rfl]
 ·rw[ae (fun h=>e (xw.mp h)),ae e]
theorem v3(g:Mk->Tr):∀(ks pre:List Mk),(pre++ks).Nodup->jC (fD pre g) (fD ks g)=fD (pre++ks) g
 |[],pre,_=>by rw[dr];rfl
 |k::ks,pre,h=>by
  show jC (jB (fD pre g) (kM k) (g k)) (fD ks g)=_;have e:pre++k::ks=(pre++[k])++ks:=by simp
  have hk:k∉pre:=by
   intro m;rw[iS]at h;exact h.2.2 k m k (aK ..) rfl
  rw[vZ hk rfl,v3 g ks (pre++[k]) (by rw[<-e];exact h),e]
theorem qF{ks:List Mk}(g:Mk->Tr)(h:ks.Nodup)(hl:ks.length<=100):dn [.lst (ks.map fun m=>.tup [tM m,g m])]=.ok (.aX (fD ks g)):=by
 show(match l9 (ks.map fun m=>Tr.tup [tM m,g m])with
  |some aC=>if aC.length<=100000 then Rs.ok (Tr.aX (jC [] aC))else .bad
  |none=>.bad)=_
 rw[yU];show(if(fD ks g).length<=100000 then Rs.ok (Tr.aX (jC [] (fD ks g)))else .bad)=_;rw[ab (by unfold fD;rw[ai];omega)];have:=v3 g ks [] h;rw[ly]at this;exact bH (fun x=>Rs.ok (Tr.aX x)) this
theorem v5{ks:List Mk}(g:Mk->Tr)(h:ks.Nodup)(hl:ks.length<=100):dn [.tup (ks.map fun m=>.tup [tM m,g m])]=.ok (.aX (fD ks g)):=qF g h hl
theorem kD{ks:List Mk}{g:Mk->Tr}{m:Mk}(h:m∈ks):sg (.aX (fD ks g)) (tM m)=.ok (g m):=by
 show zA (gI (fD ks g) (kM m))=_;rw[mn,ab h];rfl
theorem ud(ks:List Mk)(g:Mk->Tr)(m:Mk):AJ (tM m) (.aX (fD ks g))=.ok (.bl (decide (m∈ks))):=by
 show Rs.ok (Tr.bl (gI (fD ks g) (kM m)).isSome)=_;rw[mn];by_cases e:m∈ks
 ·rw[ab e,bF e];rfl
 ·rw[ae e,a_ e];rfl
theorem v7{T:kn}{G:ax->Ab->Rz Out}{t:Tr}{ts:List Tr}{ρ ρ1 ρ2:ax}{A A2:Ab}(e1:T t ρ=.ok ρ1)(e2:G ρ1 A=.ok (.nx ρ2) A2):iN T G (t::ts) ρ A=iN T G ts ρ2 A2:=by
 rw[iN,e1];show(G ρ1 A).bind _=_;rw[e2];rfl
theorem SA{i j m:Nat}{G:ax->Ab->Rz Out}{us:List Tr}{t:Tr}{ρ ρ2:ax}{A A2:Ab}(h:A[j]?=some (.lst us))(ht:us[i]?=some t){x:Nat}(e2:G (ρ.set x (.sh t)) A=.ok (.nx ρ2) A2):fw (gN x) G j (m+1) i ρ A=fw (gN x) G j m (i+1) ρ2 A2:=by
 rw[fw,h];show(match us[i]? with
   |none=>Rz.ok (Out.nx ρ) A
   |some t=>_)=_
 rw[ht];show(G (ρ.set x (.sh t)) A).bind _=_;rw[e2];rfl
theorem SD{i j m:Nat}{G:ax->Ab->Rz Out}{us:List Tr}{ρ:ax}{A:Ab}(h:A[j]?=some (.lst us))(ht:us[i]?=none){x:Nat}:fw (gN x) G j (m+1) i ρ A=.ok (.nx ρ) A:=by
 rw[fw,h];show(match us[i]? with
   |none=>Rz.ok (Out.nx ρ) A
   |some t=>_)=_
 rw[ht]
theorem EU{a b:Mk}{ks:List Mk}(ha:a∈ks)(hb:b∈ks)(e:ks.idxOf a=ks.idxOf b):a=b:=by
 have h1:=List.getElem_idxOf (kH ha);have h2:=List.getElem_idxOf (kH hb);rw[<-h1,<-h2];congr 1
theorem yV:∀(ks:List Mk) (n:Nat),ks.Nodup->Iu n (ks.map tM)=ks.map fun m=>.tup [tM m,.at (n+ks.idxOf m)]
 |[],_,_=>rfl
 |k::ks,n,h=>by
  rw[cU]at h;rw[aB,Iu,yV ks (n+1) h.2,aB,List.idxOf_cons_self];refine bH _ (eU fun x hx=>?_);have e:¬k=x:=fun e=>h.1 (e▸hx);have e2:(k::ks).idxOf x=ks.idxOf x+1:=by
   rw[List.idxOf_cons,du e];rfl
  rw[e2,show n+1+ks.idxOf x=n+(ks.idxOf x+1) by omega]
theorem iD:∀ks:List Mk,fE (ks.map tM)=true
 |[]=>rfl
 |k::ks=>by rw[aB,fE,iD ks];rfl
end qz
namespace qz
open PySem L2
def bI:ax->Ab->Rz Out:=fun ρ A=>um (aw (kG (cG AJ (az ρ 3) (az ρ 0))) A) (fun A=>eJ (vh eQ (aw (cG sg (az ρ 1) (az ρ 3)) A) fun A=>b_ (aw (az ρ 2) A) fun A=>Rz.ok [] A) ρ) fun A=>Rz.ok (Out.nx ρ) A
def bO:ax->Ab->Rz Out:=fun ρ A=>jy (gN 3) bI (aw (jn (cG sg (az ρ 0) (az ρ 2))) A) ρ
def gF:ax->Ab->Rz Out:=fun ρ A=>bR (dj 1 (mZ dn (qj (nO (az ρ 0)) A)) ρ) fun ρ A=>bR (Mz (jy (gN 2) bO (aw (nO (az ρ 0)) A) ρ)) fun ρ A=>jx (aw (az ρ 1) A)
theorem Nj:d9.1=gF:=rfl
def tB(bh:Mk->List Mk)(m:Mk):Tr:=.tup ((bh m).map tM)
def tI(ks:List Mk)(m:Mk):Tr:=.at (ks.idxOf m)
def AF(ks:List Mk)(F:Mk->List Mk)(A:Ab):Prop:=A.length=ks.length/\∀m∈ks,A[ks.idxOf m]?=some (.lst ((F m).map tM))
theorem AF.congr {ks:List Mk}{F G:Mk->List Mk}{A:Ab}(h:AF ks F A)(e:∀m∈ks,F m=G m):AF ks G A:=⟨h.1,fun m hm=>by rw[<-e m hm];exact h.2 m hm⟩
theorem Nk{ks:List Mk}{bh:Mk->List Mk}{F:Mk->List Mk}{A:Ab}{m b:Mk}(h:AF ks F A)(hb:b∈ks)(hl:(F b).length<=1000):
  bI [.sh (.aX (fD ks (tB bh))),.sh (.aX (fD ks (tI ks))),.sh (tM m),.sh (tM b)] A=.ok (.nx [.sh (.aX (fD ks (tB bh))),.sh (.aX (fD ks (tI ks))),.sh (tM m),.sh (tM b)]) (A.set (ks.idxOf b) (.lst ((F b++[m]).map tM))):=by
 show um (aw (kG (AJ (tM b) (.aX (fD ks (tB bh))))) A) (fun A=>eJ (vh eQ (aw (sg (.aX (fD ks (tI ks))) (tM b)) A) fun A=>b_ (aw (Rs.ok (tM m)) A) fun A=>Rz.ok [] A) _) _=_;rw[ud,bF hb,kD hb];show eJ (if zW A (ks.idxOf b)=true then eQ (ks.idxOf b) [tM m] A else .bad) _=_;have e:=h.2 b hb;have e1:zW A (ks.idxOf b)=true:=by unfold zW;rw[e]
 have e2:eQ (ks.idxOf b) [tM m] A=.ok .bU (A.set (ks.idxOf b) (.lst ((F b++[m]).map tM))):=by
  unfold eQ;simp only[e];rw[ab (by rw[ai];unfold iE;omega),cX]
  rfl
 rw[ab e1,e2]
 rfl
theorem IX{ks:List Mk}{bh:Mk->List Mk}{A:Ab}{m b:Mk}{FO:Tr}(hb:b∉ks):
  bI [.sh (.aX (fD ks (tB bh))),.sh FO,.sh (tM m),.sh (tM b)] A=.ok (.nx [.sh (.aX (fD ks (tB bh))),.sh FO,.sh (tM m),.sh (tM b)]) A:=by
 show um (aw (kG (AJ (tM b) (.aX (fD ks (tB bh))))) A) _ (fun A=>_)=_;rw[ud,a_ hb]
 rfl
theorem AF.put {ks:List Mk}{F:Mk->List Mk}{A:Ab}{b:Mk}(h:AF ks F A)(hb:b∈ks)(l:List Mk):AF ks (fun x=>if x=b then l else F x) (A.set (ks.idxOf b) (.lst (l.map tM))):=by
 refine⟨by rw[fS];exact h.1,fun m hm=>?_⟩;by_cases e:m=b
 ·subst e;have:ks.idxOf m<A.length:=by rw[h.1];exact kH hm
  rw[dI this];simp
 ·have:ks.idxOf b≠ks.idxOf m:=fun q=>e (EU hb hm q).symm;rw[cb this,h.2 m hm];simp[e]
theorem inner{ks:List Mk}{bh:Mk->List Mk}(m:Mk):∀(bs:List Mk) (F:Mk->List Mk) (A:Ab) (c:Cell),bs.Nodup->AF ks F A->(∀b∈bs,(F b).length<=1000)->
  ∃A' c',iN (gN 3) bI (bs.map tM) [.sh (.aX (fD ks (tB bh))),.sh (.aX (fD ks (tI ks))),.sh (tM m),c] A=.ok (.nx [.sh (.aX (fD ks (tB bh))),.sh (.aX (fD ks (tI ks))),.sh (tM m),c']) A'/\AF ks (fun b=>if b∈bs then F b++[m]else F b) A'
 |[],F,A,c,_,h,_=>⟨A,c,rfl,h.congr fun _ _=>by simp⟩
 |b::bs,F,A,c,nd,h,hl=>by
  rw[cU]at nd;by_cases hb:b∈ks
  ·have h1:=h.put hb (F b++[m]);obtain⟨A',c',e,h2⟩:=inner (bh:=bh) m bs _ _ (.sh (tM b)) nd.2 h1 fun x hx=>by
    have:¬x=b:=fun e=>nd.1 (e▸hx);simp only[this,bp];exact hl x (aR _ hx)
   refine⟨A',c',?_,h2.congr fun x hx=>?_⟩
   ·rw[aB,v7 (ρ1:=[.sh (.aX (fD ks (tB bh))),.sh (.aX (fD ks (tI ks))),.sh (tM m),.sh (tM b)]) rfl (Nk h hb (hl b (aK ..)))];exact e
   ·by_cases e:x=b
    ·subst e;simp[nd.1]
    ·simp[e]
  ·obtain⟨A',c',e,h2⟩:=inner (bh:=bh) m bs F A (.sh (tM b)) nd.2 h fun x hx=>hl x (aR _ hx);refine⟨A',c',?_,h2.congr fun x hx=>?_⟩
   ·rw[aB,v7 (ρ1:=[.sh (.aX (fD ks (tB bh))),.sh (.aX (fD ks (tI ks))),.sh (tM m),.sh (tM b)]) rfl (IX hb)];exact e
   ·have:¬x=b:=fun e=>hb (e▸hx);simp[this]
def mq(bh:Mk->List Mk)(ks:List Mk)(b:Mk):List Mk:=ks.filter fun m=>decide (b∈bh m)
theorem outer{ks:List Mk}{bh:Mk->List Mk}:∀(rest pre:List Mk) (A:Ab) (c d:Cell),(∀m∈rest,m∈ks/\(bh m).Nodup)->pre.length+rest.length<=100->AF ks (mq bh pre) A->
  ∃A' c' d',iN (gN 2) bO (rest.map tM) [.sh (.aX (fD ks (tB bh))),.sh (.aX (fD ks (tI ks))),c,d] A=.ok (.nx [.sh (.aX (fD ks (tB bh))),.sh (.aX (fD ks (tI ks))),c',d']) A'/\AF ks (mq bh (pre++rest)) A'
 |[],pre,A,c,d,_,_,h=>⟨A,c,d,rfl,by rw[dr];exact h⟩
 |m::rest,pre,A,c,d,hm,hl,h=>by
  obtain⟨hk,nd⟩:=hm m (aK ..);rw[bb]at hl;obtain⟨A1,c1,e1,h1⟩:=inner (bh:=bh) m (bh m) _ _ d nd h fun b _=>by
   have:(mq bh pre b).length<=pre.length:=kZ _ _;omega
  have Ii:AF ks (mq bh (pre++[m])) A1:=h1.congr fun x _=>by
   unfold mq;rw[List.filter_append,ip,List.filter_nil];by_cases e:x∈bh m<;>simp[e]
  obtain⟨A2,c2,d2,e2,h2⟩:=outer rest (pre++[m]) A1 (.sh (tM m)) c1 (fun x hx=>hm x (aR _ hx)) (by rw[ba,bb,dt];omega) Ii;refine⟨A2,c2,d2,?_,by rw[gw]at h2;exact h2⟩;have eb:bO [.sh (.aX (fD ks (tB bh))),.sh (.aX (fD ks (tI ks))),.sh (tM m),d] A=.ok (.nx [.sh (.aX (fD ks (tB bh))),.sh (.aX (fD ks (tI ks))),.sh (tM m),c1]) A1:=by
   show jy (gN 3) bI (aw (jn (sg (.aX (fD ks (tB bh))) (tM m))) A) _=_;rw[kD hk];exact e1
  rw[aB,v7 (ρ1:=[.sh (.aX (fD ks (tB bh))),.sh (.aX (fD ks (tI ks))),.sh (tM m),d]) rfl eb];exact e2
theorem v8{ks:List Mk}{bh:Mk->List Mk}(nd:ks.Nodup)(hl:ks.length<=100)(hb:∀m∈ks,(bh m).Nodup):
  ∃A,d_ [.aX (fD ks (tB bh))] []=.ok (.aX (fD ks (tI ks))) A/\AF ks (mq bh ks) A:=by
 have h0:AF ks (mq bh []) (List.replicate ks.length (.lst [])):=⟨kY,fun m hm=>by
  rw[kQ,ab (kH hm)]
  rfl⟩
 obtain⟨A,c,d,e,h⟩:=outer (bh:=bh) ks [] _ .no .no (fun m hm=>⟨hm,hb m hm⟩) (by rw[dt];omega) h0;refine⟨A,?_,h⟩;show gj (d9.1 [.sh (.aX (fD ks (tB bh))),.no,.no,.no] [])=_;rw[Nj];have e1:mZ dn (qj (nO (.ok (.aX (fD ks (tB bh))))) [])=.ok (.aX (fD ks (tI ks))) (List.replicate ks.length (.lst [])):=by
  rw[om];show mZ dn (if fE (ks.map tM)=true/\(ks.map tM).length<=iE then Rz.ok (.lst (Iu 0 (ks.map tM))) ([]++List.replicate (ks.map tM).length (.lst []))else .bad)=_;rw[ab ⟨iD ks,by rw[ai];unfold iE;omega⟩];show aw (dn [.lst (Iu 0 (ks.map tM))]) _=_;rw[yV ks 0 nd,qF (fun m=>.at (0+ks.idxOf m)) nd hl,ai];have:(fun m:Mk=>Tr.at (0+ks.idxOf m))=tI ks:=funext fun m=>by unfold tI;rw[i5]
  rw[this]
  rfl
 show gj (bR (dj 1 (mZ dn (qj (nO (.ok (.aX (fD ks (tB bh))))) [])) [.sh (.aX (fD ks (tB bh))),.no,.no,.no]) _)=_;rw[e1];show gj (bR (Mz (jy (gN 2) bO (aw (nO (.ok (.aX (fD ks (tB bh))))) _) _)) _)=_;rw[om];show gj (bR (Mz (iN (gN 2) bO (ks.map tM) [.sh (.aX (fD ks (tB bh))),.sh (.aX (fD ks (tI ks))),.no,.no] _)) _)=_;rw[e]
 rfl
end qz
namespace qz
open PySem L2
def Aw(s:(Mk->Int)×List Mk)(f:Mk):(Mk->Int)×List Mk:=(fun x=>if x=f then s.1 f - 1 else s.1 x,if s.1 f - 1=0 then s.2++[f]else s.2)
def oj(E:List Mk)(s:(Mk->Int)×List Mk):(Mk->Int)×List Mk:=E.foldl Aw s
theorem mr{f:Mk}{E:List Mk}{s:(Mk->Int)×List Mk}:oj (f::E) s=oj E (Aw s f):=rfl
theorem EV{E E':List Mk}{s:(Mk->Int)×List Mk}:oj (E++E') s=oj E' (oj E s):=List.foldl_append
theorem yW(s:(Mk->Int)×List Mk)(f:Mk):(Aw s f).2.length<=s.2.length+1:=by
 unfold Aw;by_cases e:s.1 f - 1=0
 ·simp[e]
 ·simp[e]
theorem yX:∀(E:List Mk) (s:(Mk->Int)×List Mk),(oj E s).2.length<=s.2.length+E.length
 |[],s=>by show s.2.length<=_;omega
 |f::E,s=>by
  rw[mr,bb];have:=yX E (Aw s f);have:=yW s f;omega
theorem v9:∀(E:List Mk) (w:Mk->Int) (fs:List Mk),(∀m∈E,(E.count m:Int)<=w m)->
  (∀m,(oj E (w,fs)).1 m=w m - E.count m)/\∃X,(oj E (w,fs)).2=fs++X/\X.Nodup/\∀m,m∈X↔m∈E/\(E.count m:Int)=w m
 |[],w,fs,_=>⟨fun m=>by show w m=_;simp,[],by show fs=_;simp,fU,fun m=>by simp⟩
 |f::E,w,fs,h=>by
  have hc:∀m,(f::E).count m=E.count m+if m=f then 1 else 0:=fun m=>by
   rw[List.count_cons];by_cases e:m=f
   ·subst e;simp
   ·have:¬f=m:=fun h=>e h.symm;simp[e,this]
  obtain⟨h1,X,h2,h3,h4⟩:=v9 E (fun x=>if x=f then w f - 1 else w x) (if w f - 1=0 then fs++[f]else fs) (fun m hm=>by
   have:=h m (aR _ hm);rw[hc]at this;by_cases e:m=f
   ·subst e;simp at this⊢;omega
   ·simp[e]at this⊢;exact this)
  refine⟨fun m=>?_,?_⟩
  ·rw[mr];unfold Aw;rw[h1 m,hc];by_cases e:m=f
   ·subst e;simp;omega
   ·simp[e]
  ·rw[mr];unfold Aw;show∃X,(oj E (fun x=>if x=f then w f - 1 else w x,if w f - 1=0 then fs++[f]else fs)).2=fs++X/\_;have hf:=h f (aK ..);rw[hc,ab rfl]at hf;have Nl:f∈E↔0<E.count f:=(List.count_pos_iff).symm;by_cases e0:w f - 1=0
   ·rw[ab e0]at h2⊢;have hz:E.count f=0:=by omega
    have Vt:f∉E:=fun h=>by have:=Nl.mp h;omega
    refine⟨f::X,by rw[h2];simp,?_,fun m=>?_⟩
    ·rw[cU];exact⟨fun hx=>Vt ((h4 f).mp hx).1,h3⟩
    ·rw[aO,aO,h4 m,hc];by_cases e:m=f
     ·subst e;simp[hz];omega
     ·simp[e]
   ·rw[ae e0]at h2⊢;refine⟨X,h2,h3,fun m=>?_⟩;rw[h4 m,aO,hc];by_cases e:m=f
    ·subst e;simp only[fc,true_or,true_and];constructor
     ·intro⟨_,q⟩;omega
     ·intro q;refine⟨Nl.mpr ?_,by omega⟩;omega
    ·simp[e]
structure uq(ks:List Mk)(bh:Mk->List Mk)(H:Mk->Nat):Prop where
 nd:ks.Nodup
 len:ks.length<=20
 SE:∀m∈ks,(bh m).Nodup
 Nm:∀m∈ks,(bh m).length<=20
 pos:∀m∈ks,1<=H m
 lt:∀m∈ks,∀b∈bh m,b∈ks->H b<H m
 ex:∀m∈ks,H m=1\/∃b∈bh m,b∈ks/\H m=H b+1
 top:∀m∈ks,H m<=50
section
variable {ks:List Mk}{bh:Mk->List Mk}{H:Mk->Nat}
def cnt(ks:List Mk)(bh:Mk->List Mk)(H:Mk->Nat)(h:Nat)(m:Mk):Nat:=((bh m).filter fun b=>decide (b∈ks)&&decide (h<=H b)).length
structure Lv(ks:List Mk)(bh:Mk->List Mk)(H:Mk->Nat)(h:Nat)(hs ls:List Mk)(w:Mk->Int):Prop where
 h1:1<=h
 nd:hs.Nodup
 mem:∀m,m∈hs↔m∈ks/\H m<h
 JX:ls.Nodup
 ue:∀m,m∈ls↔m∈ks/\H m=h
 w:∀m∈ks,w m=cnt ks bh H h m
theorem ez{α:Type}{p:α->Bool}{l:List α}(h:l.Nodup):(l.filter p).Nodup:=List.Nodup.sublist List.filter_sublist h
theorem Ax(K:uq ks bh H){m:Mk}(hm:m∈ks)(b:Mk):(mq bh ks b).count m=if b∈bh m then 1 else 0:=by
 unfold mq;rw[List.Nodup.count (ez K.nd)];simp[bN,hm]
theorem yY:∀(ls:List Mk) (p:Mk->Prop) [DecidablePred p],(ls.map fun b=>if p b then 1 else 0).sum=(ls.filter fun b=>decide (p b)).length
 |[],_,_=>rfl
 |b::ls,p,_=>by
  rw[aB,List.sum_cons,yY ls p,ip];by_cases e:p b
  ·simp[e];omega
  ·simp[e]
theorem C4(K:uq ks bh H){ls:List Mk}{h:Nat}(JX:ls.Nodup)(lm:∀m,m∈ls↔m∈ks/\H m=h){m:Mk}(hm:m∈ks):
  (ls.flatMap (mq bh ks)).count m=((bh m).filter fun b=>decide (b∈ks)&&decide (H b=h)).length:=by
 rw[List.count_flatMap];have e:(List.count m∘mq bh ks)=fun b=>if b∈bh m then 1 else 0:=funext fun b=>Ax K hm b
 rw[e,yY];refine List.Perm.length_eq ((ou (ez JX) (ez (K.SE m hm))).mpr fun b=>?_);rw[bN,bN,lm];simp only[cA,aM];constructor
 ·rintro ⟨⟨a,b⟩,c⟩;exact⟨c,a,b⟩
 ·rintro ⟨c,a,b⟩;exact⟨⟨a,b⟩,c⟩
theorem mw{α:Type}:∀(l:List α) (p q r:α->Bool),(∀x∈l,p x=(q x||r x))->(∀x∈l,(q x&&r x)=false)->(l.filter p).length=(l.filter q).length+(l.filter r).length
 |[],_,_,_,_,_=>rfl
 |x::l,p,q,r,h1,h2=>by
  have e1:=h1 x (aK ..);have e2:=h2 x (aK ..);have ih:=mw l p q r (fun y hy=>h1 y (aR _ hy)) (fun y hy=>h2 y (aR _ hy));rw[ip,ip,ip,e1];cases hq:q x<;>cases hr:r x<;>simp[hq,hr]at e2⊢<;>omega
theorem Ay(h:Nat)(m:Mk):cnt ks bh H h m=((bh m).filter fun b=>decide (b∈ks)&&decide (H b=h)).length+cnt ks bh H (h+1) m:=by
 unfold cnt;refine mw _ _ _ _ (fun b _=>?_) fun b _=>?_
 ·by_cases e:b∈ks
  ·simp only[e,decide_true,Bool.true_and];by_cases e1:h<=H b
   ·by_cases e2:H b=h
    ·simp[e2]
    ·have:h+1<=H b:=by omega
     simp[e1,e2,this]
   ·have a:¬H b=h:=by omega
    have b:¬h+1<=H b:=by omega
    simp[e1,a,b]
  ·simp[e]
 ·by_cases e2:H b=h
  ·have:¬h+1<=H b:=by omega
   simp[this]
  ·simp[e2]
theorem Lv.next (K:uq ks bh H){h:Nat}{hs ls:List Mk}{w:Mk->Int}(L:Lv ks bh H h hs ls w):Lv ks bh H (h+1) (hs++ls) (oj (ls.flatMap (mq bh ks)) (w,[])).2 (oj (ls.flatMap (mq bh ks)) (w,[])).1:=by
 have sub:∀m∈ls.flatMap (mq bh ks),m∈ks:=fun m hm=>by
  obtain⟨b,_,hb⟩:=o4.mp hm;exact(bN.mp hb).1
 have hc:∀m∈ks,((ls.flatMap (mq bh ks)).count m:Int)=w m - cnt ks bh H (h+1) m:=fun m hm=>by
  rw[C4 K L.JX L.ue hm,L.w m hm,Ay h m];omega
 obtain⟨h1,X,h2,h3,h4⟩:=v9 (ls.flatMap (mq bh ks)) w [] (fun m hm=>by rw[hc m (sub m hm)];omega);rw[ly]at h2;refine⟨by have:=L.h1;omega,?_,fun m=>?_,by rw[h2];exact h3,fun m=>?_,fun m hm=>?_⟩
 ·rw[iS];refine⟨L.nd,L.JX,fun a ha b hb e=>?_⟩;subst e;have:=((L.mem a).mp ha).2;have:=((L.ue a).mp hb).2;omega
 ·rw[fM,L.mem,L.ue];constructor
  ·rintro (⟨a,b⟩|⟨a,b⟩)
   ·exact⟨a,by omega⟩
   ·exact⟨a,by omega⟩
  ·rintro ⟨a,b⟩
   by_cases e:H m=h
   ·exact .inr ⟨a,e⟩
   ·exact .inl ⟨a,by omega⟩
 ·rw[h2,h4];constructor
  ·rintro ⟨hm,he⟩
   have hk:=sub m hm;refine⟨hk,?_⟩;rw[hc m hk]at he;have hz:cnt ks bh H (h+1) m=0:=by omega
   obtain⟨b,hb,hf⟩:=o4.mp hm;have jQ:=(L.ue b).mp hb;have KG:b∈bh m:=bc (bN.mp hf).2;have g1:=K.lt m hk b KG jQ.1;rcases K.ex m hk with e|⟨b2,k1,k2,k3⟩
   ·have:=K.pos b jQ.1;omega
   ·by_cases q:h+1<=H b2
    ·exfalso;unfold cnt at hz;have:b2∈(bh m).filter fun b=>decide (b∈ks)&&decide (h+1<=H b):=bN.mpr ⟨k1,by simp[k2,q]⟩;rw[kU.mp hz]at this;cases this
    ·omega
  ·rintro ⟨hk,he⟩
   rcases K.ex m hk with e|⟨b,k1,k2,k3⟩
   ·have:=L.h1;omega
   ·refine⟨o4.mpr ⟨b,(L.ue b).mpr ⟨k2,by omega⟩,bN.mpr ⟨hk,bF k1⟩⟩,?_⟩;rw[hc m hk];have hz:cnt ks bh H (h+1) m=0:=by
     unfold cnt;rw[kU,oD];intro a ha;by_cases q:a∈ks
     ·have:=K.lt m hk a ha q;have:¬h+1<=H a:=by omega
      simp[this]
     ·simp[q]
    omega
 ·rw[h1 m,hc m hm];omega
theorem Lv.last (K:uq ks bh H){h:Nat}{hs:List Mk}{w:Mk->Int}(L:Lv ks bh H h hs [] w):∀m∈ks,H m<h:=by
 have key:∀(n:Nat) (m:Mk),m∈ks->H m=h+n->False:=fun n=>by
  induction n with
  |zero=>exact fun m hm e=>by have:=(L.ue m).mpr ⟨hm,e⟩;cases this
  |succ n ih=>
   intro m hm e;rcases K.ex m hm with q|⟨b,k1,k2,k3⟩
   ·have:=L.h1;omega
   ·exact ih b k2 (by omega)
 intro m hm;by_cases q:H m<h
 ·exact q
 ·exact(key (H m - h) m hm (by omega)).elim
theorem Lv.start (K:uq ks bh H)(w:Mk->Int)(hw:∀m∈ks,w m=((bh m).filter fun b=>decide (b∈ks)).length):Lv ks bh H 1 [] (ks.filter fun m=>w m==0) w:=by
 have hc:∀m∈ks,cnt ks bh H 1 m=((bh m).filter fun b=>decide (b∈ks)).length:=fun m hm=>by
  unfold cnt;congr 1;refine List.filter_congr fun b _=>?_
  by_cases e:b∈ks
  ·have:=K.pos b e;simp[e];omega
  ·simp[e]
 refine⟨ak _,fU,fun m=>?_,ez K.nd,fun m=>?_,fun m hm=>by rw[hw m hm,hc m hm]⟩
 ·constructor
  ·intro h;cases h
  ·rintro ⟨a,b⟩;have:=K.pos m a;omega
 ·rw[bN];refine and_congr_right fun hm=>?_
  rw[hw m hm,g6];constructor
  ·intro e;rcases K.ex m hm with q|⟨b,k1,k2,k3⟩
   ·exact q
   ·have:b∈(bh m).filter fun b=>decide (b∈ks):=bN.mpr ⟨k1,bF k2⟩;have z:((bh m).filter fun b=>decide (b∈ks)).length=0:=by omega
    rw[kU.mp z]at this;cases this
  ·intro e;have:(bh m).filter (fun b=>decide (b∈ks))=[]:=by
    rw[oD];intro b hb q;have q:=bc q;have:=K.lt m hm b hb q;have:=K.pos b q;omega
   rw[this];rfl
end
end qz
namespace qz
open PySem L2
def bE:ax->Ab->Rz Out:=fun ρ A=>bR (Cj (fun A=>aw (az ρ 3) A) (fun A=>aw (az ρ 9) A) (fun A=>aw (Rs.ok (Tr.int 1)) A) ρ A) fun ρ A=>um (aw (kG (cG rP (cG sg (az (aZ A ρ) 3) (az (aZ A ρ) 9)) (Rs.ok (Tr.int 0)))) A) (fun A=>eJ (vh eQ (aw (az ρ 7) A) fun A=>b_ (aw (az ρ 9) A) fun A=>Rz.ok [] A) ρ) fun A=>Rz.ok (Out.nx ρ) A
def bL:ax->Ab->Rz Out:=fun ρ A=>bR (FP (aw (az ρ 6) A) (fun A=>aw (az ρ 4) A) (fun A=>aw (az ρ 8) A) ρ) fun ρ A=>loopAt (gN 9) bE 100 (aw (cG sg (az ρ 2) (az ρ 8)) A) ρ
def bW:ax->Ab->Rz Out:=fun ρ A=>bR (dj 7 (eD (wL (Rs.ok [])) A) ρ) fun ρ A=>bR (loopAt (gN 8) bL 100 (aw (az ρ 5) A) ρ) fun ρ A=>bR (dj 5 (aw (az ρ 7) A) ρ) fun ρ A=>Ig 6 (fun A=>aw (Rs.ok (Tr.int 1)) A) ρ A
def cW:ax->Ab->Rz Bool:=fun ρ A=>aw (kG (cG NW (aL ia (ag (az (aZ A ρ) 5) (Rs.ok []))) (Rs.ok (Tr.int 0)))) A
def Ox(A:Ab)(ρ:ax):Rs Tr:=iF [none,some 1] (gN 0) (fun _=>Rs.ok true) (fun ρ=>gc (ag (az ρ 0) (ag (aL ia (ag (iF [none,some 1] (gN 0) (fun ρ=>kG (cG AJ (az ρ 0) (az ρ 1))) (fun ρ=>az ρ 0) (jn (cG sg (az ρ 1) (az ρ 0))) ρ) (Rs.ok []))) (Rs.ok [])))) (nO (az (aZ A ρ) 1)) (aZ A ρ)
def Oy(A:Ab)(ρ:ax):Rs Tr:=iF [none,some 3] (gN 0) (fun ρ=>kG (cG rP (cG sg (az ρ 1) (az ρ 0)) (Rs.ok (Tr.int 0)))) (fun ρ=>az ρ 0) (nO (az (aZ A ρ) 1)) (aZ A ρ)
def gH:ax->Ab->Rz Out:=fun ρ A=>bR (dj 1 (aw (aL dn (ag (az ρ 0) (Rs.ok []))) A) ρ) fun ρ A=>bR (dj 2 ((b_ (aw (az ρ 1) A) fun A=>Rz.ok [] A).bind d_) ρ) fun ρ A=>bR (dj 3 (eD (aL dn (ag (Ox A ρ) (Rs.ok []))) A) ρ) fun ρ A=>bR (dj 4 (eD (Rs.ok (Tr.aX [])) A) ρ) fun ρ A=>bR (dj 5 (eD (Oy A ρ) A) ρ) fun ρ A=>bR (dj 6 (aw (Rs.ok (Tr.int 1)) A) ρ) fun ρ A=>bR (dY cW bW 100 ρ A) fun ρ A=>jx (aw (az ρ 4) A)
theorem Nn:fP.1=gH:=rfl
def tH(H:Mk->Nat)(m:Mk):Tr:=.int (H m)
structure Sy(ks:List Mk)(bh:Mk->List Mk)(H:Mk->Nat)(A:Ab)(w:Mk->Int)(hs:List Mk)(lv:Nat)(ls:List Mk):Prop where
 f:∀m∈ks,A[ks.idxOf m]?=some (.lst ((mq bh ks m).map tM))
 w:A[ks.length]?=some (.aX (fD ks fun m=>.int (w m)))
 h:A[ks.length+1]?=some (.aX (fD hs (tH H)))
 l:A[lv]?=some (.lst (ls.map tM))
 hl:ks.length+1<lv
structure Sx(ks:List Mk)(bh:Mk->List Mk)(H:Mk->Nat)(A:Ab)(w:Mk->Int)(hs:List Mk)(lv:Nat)(ls:List Mk)(fr:Nat)(fs:List Mk):Prop where
 y:Sy ks bh H A w hs lv ls
 r:A[fr]?=some (.lst (fs.map tM))
 hr:lv<fr
section
variable {ks:List Mk}{bh:Mk->List Mk}{H:Mk->Nat}{A:Ab}{w:Mk->Int}{hs ls fs:List Mk}{lv fr:Nat}
theorem dz{α:Type}{l:List α}{i:Nat}{x:α}(h:l[i]?=some x):i<l.length:=by
 by_cases q:i<l.length
 ·exact q
 ·rw[List.getElem?_eq_none (by omega)]at h;cases h
theorem qG{m:Mk}(h:m∈ks):ks.idxOf m<ks.length:=kH h
theorem Sx.Rc (S:Sx ks bh H A w hs lv ls fr fs)(w':Mk->Int):Sx ks bh H (A.set ks.length (.aX (fD ks fun m=>.int (w' m)))) w' hs lv ls fr fs:=by
 have:=S.hr;have:=S.y.hl;refine⟨⟨fun m hm=>?_,?_,?_,?_,S.y.hl⟩,?_,S.hr⟩
 ·rw[cb (by have:=qG hm;omega)];exact S.y.f m hm
 ·rw[dI (dz S.y.w)]
 ·rw[cb (by omega)];exact S.y.h
 ·rw[cb (by omega)];exact S.y.l
 ·rw[cb (by omega)];exact S.r
theorem Sx.Rf (S:Sx ks bh H A w hs lv ls fr fs)(EW:List Mk):Sx ks bh H (A.set (ks.length+1) (.aX (fD EW (tH H)))) w EW lv ls fr fs:=by
 have:=S.hr;have:=S.y.hl;refine⟨⟨fun m hm=>?_,?_,?_,?_,S.y.hl⟩,?_,S.hr⟩
 ·rw[cb (by have:=qG hm;omega)];exact S.y.f m hm
 ·rw[cb (by omega)];exact S.y.w
 ·rw[dI (dz S.y.h)]
 ·rw[cb (by omega)];exact S.y.l
 ·rw[cb (by omega)];exact S.r
theorem Sx.Rg (S:Sx ks bh H A w hs lv ls fr fs)(zh:List Mk):Sx ks bh H (A.set fr (.lst (zh.map tM))) w hs lv ls fr zh:=by
 have:=S.hr;have:=S.y.hl;refine⟨⟨fun m hm=>?_,?_,?_,?_,S.y.hl⟩,?_,S.hr⟩
 ·rw[cb (by have:=qG hm;omega)];exact S.y.f m hm
 ·rw[cb (by omega)];exact S.y.w
 ·rw[cb (by omega)];exact S.y.h
 ·rw[cb (by omega)];exact S.y.l
 ·rw[dI (dz S.r)]
def rW(T K:Tr)(ks:List Mk)(lv:Nat)(h:Int)(fr c d:Cell):ax:=[.sh T,.sh K,.sh (.aX (fD ks (tI ks))),.sh (.at ks.length),.sh (.at (ks.length+1)),.sh (.at lv),.sh (.int h),fr,c,d]
theorem qH{n:Nat}{us:List Mk}{g:Mk->Int}(e:A[n]?=some (.aX (fD us fun m=>.int (g m))))(k:Nat):bq (k+1) A (.at n)=.aX (fD us fun m=>.int (g m)):=by
 rw[bq];simp only[e];unfold fD;rw[bf];congr 1;refine eU fun m _=>?_
 cases k<;>rfl
theorem qI{n:Nat}{us:List Mk}(e:A[n]?=some (.lst (us.map tM)))(k:Nat):bq (k+1) A (.at n)=.lst (us.map tM):=by
 rw[bq];simp only[e];rw[bf];congr 1;refine eU fun m _=>?_
 cases k<;>rfl
theorem Np(a b:Int):rP (.int a) (.int b)=.ok (.bl (a==b)):=ab ⟨rfl,rfl,by show 0<=40;decide⟩
theorem Nq(S:Sx ks bh H A w hs lv ls fr fs)(kl:ks.length<=1000){T K:Tr}{h:Int}{c:Cell}{f:Mk}(hf:f∈ks)(hl:fs.length<=1000):
  ∃A',bE (rW T K ks lv h (.sh (.at fr)) c (.sh (tM f))) A=.ok (.nx (rW T K ks lv h (.sh (.at fr)) c (.sh (tM f)))) A'/\Sx ks bh H A' (Aw (w,fs) f).1 hs lv ls fr (Aw (w,fs) f).2:=by
 have S1:=S.Rc fun x=>if x=f then w f - 1 else w x
 have e1:Cj (fun A=>aw (az (rW T K ks lv h (.sh (.at fr)) c (.sh (tM f))) 3) A) (fun A=>aw (az (rW T K ks lv h (.sh (.at fr)) c (.sh (tM f))) 9) A) (fun A=>aw (Rs.ok (Tr.int 1)) A) (rW T K ks lv h (.sh (.at fr)) c (.sh (tM f))) A=.ok (.nx (rW T K ks lv h (.sh (.at fr)) c (.sh (tM f)))) (A.set ks.length (.aX (fD ks fun m=>.int (if m=f then w f - 1 else w m)))):=by
  have g1:Ci A (.at ks.length) (tM f)=some (w f):=by
   show(match A[ks.length]? with
    |some (.aX aC)=>(match gI aC (kM f)with
     |some (.int n)=>some n
     |_=>none)
    |_=>none)=_
   rw[S.y.w];show(match gI (fD ks fun m=>.int (w m)) (kM f)with
     |some (.int n)=>some n
     |_=>none)=_
   rw[mn,ab hf]
  have g2:ny A (.at ks.length) (tM f) (.int (w f - 1))=some (A.set ks.length (.aX (fD ks fun m=>.int (if m=f then w f - 1 else w m)))):=by
   show(match A[ks.length]? with
    |some (.aX aC)=>if aC.length<iE then some (A.set ks.length (.aX (jB aC (kM f) (.int (w f - 1)))))else none
    |_=>none)=_
   rw[S.y.w];show(if(fD ks fun m=>.int (w m)).length<iE then some (A.set ks.length (.aX (jB (fD ks fun m=>.int (w m)) (kM f) (.int (w f - 1)))))else none)=_;rw[ab (by unfold fD iE;rw[ai];omega),C3 hf];have:(fun x=>if x=f then Tr.int (w f - 1)else Tr.int (w x))=fun m=>Tr.int (if m=f then w f - 1 else w m):=funext fun x=>by by_cases e:x=f<;>simp[e]
   rw[this]
  show(match Ci A (.at ks.length) (tM f)with
   |some n=>_
   |none=>Rz.bad)=_
  rw[g1];show(match ny A (.at ks.length) (tM f) (.int (w f - 1))with
   |some A'=>Rz.ok (Out.nx _) A'
   |none=>Rz.bad)=_
  rw[g2]
 have key:bE (rW T K ks lv h (.sh (.at fr)) c (.sh (tM f))) A=um (aw (kG (cG rP (cG sg (.ok (bq 5 (A.set ks.length (.aX (fD ks fun m=>.int (if m=f then w f - 1 else w m)))) (.at ks.length))) (.ok (tM f))) (Rs.ok (Tr.int 0)))) (A.set ks.length (.aX (fD ks fun m=>.int (if m=f then w f - 1 else w m))))) (fun A=>eJ (vh eQ (aw (Rs.ok (.at fr)) A) fun A=>b_ (aw (.ok (tM f)) A) fun A=>Rz.ok [] A) (rW T K ks lv h (.sh (.at fr)) c (.sh (tM f)))) fun A=>Rz.ok (Out.nx (rW T K ks lv h (.sh (.at fr)) c (.sh (tM f)))) A:=by
  unfold bE;rw[e1]
  rfl
 rw[key,qH S1.y.w];show∃A',um (aw (kG (cG rP (sg (.aX (fD ks fun m=>.int (if m=f then w f - 1 else w m))) (tM f)) (Rs.ok (Tr.int 0)))) _) _ _=_/\_;rw[kD hf,ab rfl];show∃A',um (aw (kG (rP (.int (w f - 1)) (Tr.int 0))) _) _ _=_/\_;rw[Np];by_cases z:w f - 1=0
 ·have e0:(Aw (w,fs) f)=(fun x=>if x=f then w f - 1 else w x,fs++[f]):=by unfold Aw;simp only[z,fc]
  rw[e0];refine⟨_,?_,S1.Rg (fs++[f])⟩;have b0:((w f - 1:Int)==0)=true:=by rw[z];rfl
  rw[b0];show eJ (if zW _ fr=true then eQ fr [tM f] _ else .bad) _=_;have r1:=S1.r;have i1:zW (A.set ks.length (.aX (fD ks fun m=>.int (if m=f then w f - 1 else w m)))) fr=true:=by unfold zW;rw[r1]
  have a1:eQ fr [tM f] (A.set ks.length (.aX (fD ks fun m=>.int (if m=f then w f - 1 else w m))))=.ok .bU ((A.set ks.length (.aX (fD ks fun m=>.int (if m=f then w f - 1 else w m)))).set fr (.lst ((fs++[f]).map tM))):=by
   unfold eQ;simp only[r1];rw[ab (by rw[ai];unfold iE;omega),cX]
   rfl
  rw[ab i1,a1]
  rfl
 ·have e0:(Aw (w,fs) f)=(fun x=>if x=f then w f - 1 else w x,fs):=by unfold Aw;simp only[z,bp]
  rw[e0];refine⟨_,?_,S1⟩;have b0:((w f - 1:Int)==0)=false:=by simp[z]
  rw[b0]
  rfl
theorem yZ(kl:ks.length<=1000){T K:Tr}{h:Int}{c:Cell}{b:Mk}(hb:b∈ks):∀(rem pre:List Mk) (n:Nat) (d:Cell) (A:Ab) (w:Mk->Int) (fs:List Mk),mq bh ks b=pre++rem->rem.length<n->fs.length+rem.length<=1000->Sx ks bh H A w hs lv ls fr fs->
  ∃A' d',fw (gN 9) bE (ks.idxOf b) n pre.length (rW T K ks lv h (.sh (.at fr)) c d) A=.ok (.nx (rW T K ks lv h (.sh (.at fr)) c d')) A'/\Sx ks bh H A' (oj rem (w,fs)).1 hs lv ls fr (oj rem (w,fs)).2
 |[],pre,n+1,d,A,w,fs,e,hn,hl,S=>⟨A,d,SD (S.y.f b hb) (by rw[e];simp),S⟩
 |f::rem,pre,n+1,d,A,w,fs,e,hn,hl,S=>by
  have hf:f∈ks:=(bN.mp (show f∈mq bh ks b by rw[e];simp)).1;rw[bb]at hl hn;obtain⟨A1,e1,S1⟩:=Nq S kl (T:=T) (K:=K) (h:=h) (c:=c) hf (by omega);obtain⟨A2,d2,e2,S2⟩:=yZ kl (T:=T) (K:=K) (h:=h) (c:=c) hb rem (pre++[f]) n (.sh (tM f)) A1 _ _ (by rw[e];simp) (by omega) (by have:=yW (w,fs) f;simp only at this;omega) S1;refine⟨A2,d2,?_,by rw[mr];exact S2⟩;rw[SA (S.y.f b hb) (t:=tM f) (by rw[e];simp) (ρ2:=rW T K ks lv h (.sh (.at fr)) c (.sh (tM f))) e1];rw[ba,bb,dt]at e2;exact e2
 |[],_,0,_,_,_,_,_,hn,_,_=>by omega
 |_::_,_,0,_,_,_,_,_,hn,_,_=>by omega
end
end qz
namespace qz
open PySem L2
section
variable {ks:List Mk}{bh:Mk->List Mk}{H:Mk->Nat}{A:Ab}{w:Mk->Int}{hs ls fs:List Mk}{lv fr:Nat}
theorem y0(b:Mk):(mq bh ks b).length<=ks.length:=kZ _ _
theorem Nr(kl:ks.length<=20)(S:Sx ks bh H A w hs lv ls fr fs){T K:Tr}{h:Int}{d:Cell}{m:Mk}(hm:m∈ks)(hh:(H m:Int)=h)(hn:m∉hs)(V5:hs.length<=1000)(hl:fs.length+(mq bh ks m).length<=1000):
  ∃A' d',bL (rW T K ks lv h (.sh (.at fr)) (.sh (tM m)) d) A=.ok (.nx (rW T K ks lv h (.sh (.at fr)) (.sh (tM m)) d')) A'/\Sx ks bh H A' (oj (mq bh ks m) (w,fs)).1 (hs++[m]) lv ls fr (oj (mq bh ks m) (w,fs)).2:=by
 have S1:=S.Rf (hs++[m]);have g2:ny A (.at (ks.length+1)) (tM m) (.int h)=some (A.set (ks.length+1) (.aX (fD (hs++[m]) (tH H)))):=by
  show(match A[ks.length+1]? with
   |some (.aX aC)=>if aC.length<iE then some (A.set (ks.length+1) (.aX (jB aC (kM m) (.int h))))else none
   |_=>none)=_
  rw[S.y.h];show(if(fD hs (tH H)).length<iE then some (A.set (ks.length+1) (.aX (jB (fD hs (tH H)) (kM m) (.int h))))else none)=_;rw[ab (by unfold fD iE;rw[ai];omega),vZ hn (by unfold tH;rw[hh])]
 obtain⟨A2,d2,e2,S2⟩:=yZ (by omega) (T:=T) (K:=K) (h:=h) (c:=.sh (tM m)) hm (mq bh ks m) [] 100 d _ _ _ rfl (by have:=y0 (ks:=ks) (bh:=bh) m;omega) hl S1;refine⟨A2,d2,?_,S2⟩;show bR (match ny A (.at (ks.length+1)) (tM m) (.int h)with
  |some A'=>Rz.ok (Out.nx (rW T K ks lv h (.sh (.at fr)) (.sh (tM m)) d)) A'
  |none=>Rz.bad) (fun ρ A=>loopAt (gN 9) bE 100 (aw (cG sg (az ρ 2) (az ρ 8)) A) ρ)=_
 rw[g2];show loopAt (gN 9) bE 100 (aw (sg (.aX (fD ks (tI ks))) (tM m)) _) _=_;rw[kD hm];show(match(A.set (ks.length+1) (.aX (fD (hs++[m]) (tH H))))[ks.idxOf m]? with
   |some (.lst ts)=>fw (gN 9) bE (ks.idxOf m) 100 0 (rW T K ks lv h (.sh (.at fr)) (.sh (tM m)) d) (A.set (ks.length+1) (.aX (fD (hs++[m]) (tH H))))
   |_=>Rz.bad)=_
 rw[S1.y.f m hm];exact e2
theorem y1(kl:ks.length<=20){T K:Tr}{h:Int}:∀(rem pre:List Mk) (n:Nat) (c d:Cell) (A:Ab) (w:Mk->Int) (hs fs:List Mk),ls=pre++rem->rem.length<n->(∀m∈rem,m∈ks/\(H m:Int)=h/\m∉hs)->rem.Nodup->hs.length+rem.length<=500->fs.length+rem.length*20<=1000->Sx ks bh H A w hs lv ls fr fs->
  ∃A' c' d',fw (gN 8) bL lv n pre.length (rW T K ks lv h (.sh (.at fr)) c d) A=.ok (.nx (rW T K ks lv h (.sh (.at fr)) c' d')) A'/\Sx ks bh H A' (oj (rem.flatMap (mq bh ks)) (w,fs)).1 (hs++rem) lv ls fr (oj (rem.flatMap (mq bh ks)) (w,fs)).2
 |[],pre,n+1,c,d,A,w,hs,fs,e,hn,hm,nd,h1,h2,S=>⟨A,c,d,SD S.y.l (by rw[e];simp),by rw[dr];exact S⟩
 |m::rem,pre,n+1,c,d,A,w,hs,fs,e,hn,hm,nd,h1,h2,S=>by
  rw[bb]at h1 h2 hn;rw[cU]at nd;obtain⟨m1,m2,m3⟩:=hm m (aK ..);have fl:=y0 (ks:=ks) (bh:=bh) m;obtain⟨A1,d1,e1,S1⟩:=Nr kl S (T:=T) (K:=K) (h:=h) (d:=d) m1 m2 m3 (by omega) (by omega);obtain⟨A2,c2,d2,e2,S2⟩:=y1 kl (T:=T) (K:=K) (h:=h) rem (pre++[m]) n (.sh (tM m)) d1 A1 _ _ _ (by rw[e];simp) (by omega) (fun x hx=>by
   obtain⟨a,b,c⟩:=hm x (aR _ hx);refine⟨a,b,fun q=>?_⟩;rcases fM.mp q with q|q
   ·exact c q
   ·rw[cz]at q;exact nd.1 (q▸hx)) nd.2 (by rw[ba,bb,dt];omega) (by have:=yX (mq bh ks m) (w,fs);simp only at this;omega) S1
  refine⟨A2,c2,d2,?_,?_⟩
  ·rw[SA S.y.l (t:=tM m) (by rw[e];simp) (ρ2:=rW T K ks lv h (.sh (.at fr)) (.sh (tM m)) d1) e1];rw[ba,bb,dt]at e2;exact e2
  ·rw[List.flatMap_cons,EV];rw[gw]at S2;exact S2
 |[],_,0,_,_,_,_,_,_,_,hn,_,_,_,_,_=>by omega
 |_::_,_,0,_,_,_,_,_,_,_,hn,_,_,_,_,_=>by omega
theorem Sy.new (S:Sy ks bh H A w hs lv ls):Sx ks bh H (A++[Ao.lst []]) w hs lv ls A.length []:=by
 have l1:=dz S.w;have l2:=dz S.h;have l3:=dz S.l;refine⟨⟨fun m hm=>?_,?_,?_,?_,S.hl⟩,?_,l3⟩
 ·rw[bX (by have:=qG hm;omega)];exact S.f m hm
 ·rw[bX l1];exact S.w
 ·rw[bX l2];exact S.h
 ·rw[bX l3];exact S.l
 ·rw[dH (ak _),fY];rfl
theorem Nt(S:Sy ks bh H A w hs lv ls){T K:Tr}{h:Int}{b c d:Cell}:cW (rW T K ks lv h b c d) A=.ok (decide (0<ls.length)) A:=by
 show aw (kG (cG NW (aL ia (ag (.ok (bq 5 A (.at lv))) (Rs.ok []))) (Rs.ok (Tr.int 0)))) A=_;rw[qI S.l];show Rz.ok (decide ((0:Int)<((ls.map tM).length:Int))) A=_;rw[ai];congr 1;exact decide_eq_decide.mpr (by omega)
theorem Nu(K0:uq ks bh H){h:Nat}(L:Lv ks bh H h hs ls w)(S:Sy ks bh H A w hs lv ls){T K:Tr}{b c d:Cell}:
  ∃A' JY b' c' d',bW (rW T K ks lv h b c d) A=.ok (.nx (rW T K ks JY ((h+1:Nat):Int) b' c' d')) A'/\Sy ks bh H A' (oj (ls.flatMap (mq bh ks)) (w,[])).1 (hs++ls) JY (oj (ls.flatMap (mq bh ks)) (w,[])).2:=by
 have Sn:=S.new;have hl:ls.length<=20:=bo (uu L.JX fun m hm=>((L.ue m).mp hm).1) K0.len;have V6:hs.length<=20:=bo (uu L.nd fun m hm=>((L.mem m).mp hm).1) K0.len;obtain⟨A1,c1,d1,e1,S1⟩:=y1 K0.len (T:=T) (K:=K) (h:=(h:Int)) ls [] 100 c d _ w hs [] rfl (by omega) (fun m hm=>by
  have:=(L.ue m).mp hm;exact⟨this.1,by omega,fun q=>by have:=((L.mem m).mp q).2;omega⟩) L.JX (by omega) (by rw[dt];omega) Sn
 refine⟨A1,A.length,.sh (.at A.length),c1,d1,?_,?_⟩
 ·show bR (loopAt (gN 8) bL 100 (.ok (.at lv) (A++[Ao.lst []])) (rW T K ks lv h (.sh (.at A.length)) c d)) _=_;have:loopAt (gN 8) bL 100 (.ok (.at lv) (A++[Ao.lst []])) (rW T K ks lv h (.sh (.at A.length)) c d)=fw (gN 8) bL lv 100 0 (rW T K ks lv h (.sh (.at A.length)) c d) (A++[Ao.lst []]):=by
   show(match(A++[Ao.lst []])[lv]? with
    |some (.lst ts)=>fw (gN 8) bL lv 100 0 (rW T K ks lv h (.sh (.at A.length)) c d) (A++[Ao.lst []])
    |_=>Rz.bad)=_
   rw[Sn.y.l]
  rw[this,show(0:Nat)=([]:List Mk).length from rfl,e1]
  rfl
 ·exact⟨S1.y.f,S1.y.w,S1.y.h,S1.r,by have:=Sn.hr;have:=S.hl;omega⟩
theorem F5(K0:uq ks bh H){T K:Tr}:∀(k n h lv:Nat) (A:Ab) (w:Mk->Int) (hs ls:List Mk) (b c d:Cell),k<n->(∀m∈ks,H m<h+k)->Lv ks bh H h hs ls w->Sy ks bh H A w hs lv ls->
  ∃A' JY h' EW b' c' d',dY cW bW n (rW T K ks lv (h:Int) b c d) A=.ok (.nx (rW T K ks JY h' b' c' d')) A'/\A'[ks.length+1]?=some (.aX (fD EW (tH H)))/\EW.Perm ks
 |k,0,h,lv,A,w,hs,ls,b,c,d,hk,_,_,_=>by omega
 |k,n+1,h,lv,A,w,hs,ls,b,c,d,hk,ht,L,S=>by
  rw[dY,Nt S]
  match ls,L,S with
  |[],L,S=>
   refine⟨A,lv,h,hs,b,c,d,rfl,S.h,(ou L.nd K0.nd).mpr fun m=>?_⟩;rw[L.mem m];exact⟨fun q=>q.1,fun q=>⟨q,L.last K0 m q⟩⟩
  |m::ls,L,S=>
   have hm:=(L.ue m).mp (aK ..);have:=ht m hm.1;obtain⟨A1,Vu,b1,c1,d1,e1,S1⟩:=Nu K0 L S (T:=T) (K:=K) (b:=b) (c:=c) (d:=d)
   match k,hk,ht with
   |0,_,ht=>exact absurd (ht m hm.1) (by omega)
   |k+1,hk,ht=>
    obtain⟨A2,r⟩:=F5 K0 (T:=T) (K:=K) k n (h+1) Vu A1 _ _ _ b1 c1 d1 (by omega) (fun x hx=>by have:=ht x hx;omega) (L.next K0) S1;refine⟨A2,?_⟩;show∃JY h' EW b' c' d',(bW (rW T K ks lv h b c d) A).bind _=_/\_;rw[e1];exact r
theorem JZ{P:Mk->Bool}{f:Mk->Tr}{Q:ax->Rs Bool}{F:ax->Rs Tr}{xs:List Cell}:∀(ms:List Mk) (c:Cell),(∀m∈ms,Q (.sh (tM m)::xs)=.ok (P m))->(∀m∈ms,P m=true->F (.sh (tM m)::xs)=.ok (f m))->mC (gN 0) Q F (ms.map tM) (c::xs)=.ok ((ms.filter P).map f)
 |[],c,_,_=>rfl
 |m::ms,c,hQ,hF=>by
  have ih:=JZ (P:=P) (f:=f) (Q:=Q) (F:=F) (xs:=xs) ms (.sh (tM m)) (fun x hx=>hQ x (aR _ hx)) (fun x hx=>hF x (aR _ hx));rw[aB,mC];show(D3 (Q (.sh (tM m)::xs))).bind _=_;rw[hQ m (aK ..)];cases p:P m with
  |true=>
   show(D3 (F (.sh (tM m)::xs))).bind _=_;rw[hF m (aK ..) p];show(mC (gN 0) Q F (ms.map tM) (.sh (tM m)::xs)).bind _=_;rw[ih,ip,p]
   rfl
  |false=>
   show mC (gN 0) Q F (ms.map tM) (.sh (tM m)::xs)=_;rw[ih,ip,p]
   rfl
def w0(ks:List Mk)(bh:Mk->List Mk)(m:Mk):Int:=((bh m).filter fun b=>decide (b∈ks)).length
theorem qJ{ix:List (Option Nat)}{Q:ax->Rs Bool}{F:ax->Rs Tr}{ms:List Mk}{ρ:ax}(h:ms.length<=1000):iF ix (gN 0) Q F (.ok (ms.map tM)) ρ=(mC (gN 0) Q F (ms.map tM) (lV ix ρ)).bind fun ys=>.ok (.lst ys):=by
 show(if(ms.map tM).length<=iE then(mC (gN 0) Q F (ms.map tM) (lV ix ρ)).bind fun ys=>Rs.ok (Tr.lst ys)else .bad)=_;rw[ab (by rw[ai];unfold iE;omega)]
theorem IY(K0:uq ks bh H){T:Tr}{FO c3 c4 c5 c6 c7 c8 c9:Cell}:Ox A [.sh T,.sh (.aX (fD ks (tB bh))),FO,c3,c4,c5,c6,c7,c8,c9]=.ok (.lst (ks.map fun m=>.tup [tM m,.int (w0 ks bh m)])):=by
 have kl:=K0.len;unfold Ox;show iF [none,some 1] (gN 0) _ _ (nO (.ok (.aX (fD ks (tB bh))))) _=_;rw[om,qJ (by omega)];show(mC (gN 0) _ _ (ks.map tM) [.no,.sh (.aX (fD ks (tB bh)))]).bind _=_;rw[JZ (P:=fun _=>true) (f:=fun m=>.tup [tM m,.int (w0 ks bh m)]) ks .no (fun _ _=>rfl) fun m hm _=>?_]
 ·rw[List.filter_eq_self.mpr (fun _ _=>rfl)];rfl
 ·show gc (ag (.ok (tM m)) (ag (aL ia (ag (iF [none,some 1] (gN 0) _ _ (jn (sg (.aX (fD ks (tB bh))) (tM m))) _) (Rs.ok []))) (Rs.ok [])))=_;rw[kD hm];have bl:=K0.Nm m hm;have e:iF [none,some 1] (gN 0) (fun ρ=>kG (cG AJ (az ρ 0) (az ρ 1))) (fun ρ=>az ρ 0) (jn (.ok (tB bh m))) [.sh (tM m),.sh (.aX (fD ks (tB bh)))]=.ok (.lst (((bh m).filter fun b=>decide (b∈ks)).map tM)):=by
   show iF [none,some 1] (gN 0) (fun ρ=>kG (cG AJ (az ρ 0) (az ρ 1))) (fun ρ=>az ρ 0) (.ok ((bh m).map tM)) _=_;rw[qJ (by omega)];show(mC (gN 0) _ _ ((bh m).map tM) [.no,.sh (.aX (fD ks (tB bh)))]).bind _=_;rw[JZ (P:=fun b=>decide (b∈ks)) (f:=tM) (bh m) .no (fun b _=>by
    show kG (AJ (tM b) (.aX (fD ks (tB bh))))=_;rw[ud];rfl) (fun _ _ _=>rfl)]
   rfl
  rw[e];show Rs.ok (Tr.tup [tM m,.int ((((bh m).filter fun b=>decide (b∈ks)).map tM).length:Int)])=_;rw[ai]
  rfl
theorem v_:∀(us:List Mk) (g:Mk->Int),fE ((fD us fun m=>.int (g m)).map (·.2))=true
 |[],_=>rfl
 |u::us,g=>by
  show(true&&fE ((fD us fun m=>.int (g m)).map (·.2)))=true;rw[v_ us g];rfl
theorem IZ(K0:uq ks bh H){T:Tr}{FO c4 c5 c6 c7 c8 c9:Cell}{i:Nat}(e:A[i]?=some (.aX (fD ks fun m=>.int (w m)))):Oy A [.sh T,.sh (.aX (fD ks (tB bh))),FO,.sh (.at i),c4,c5,c6,c7,c8,c9]=.ok (.lst ((ks.filter fun m=>w m==0).map tM)):=by
 have kl:=K0.len;unfold Oy;show iF [none,some 3] (gN 0) _ _ (nO (.ok (.aX (fD ks (tB bh))))) _=_;rw[om,qJ (by omega)];show(mC (gN 0) _ _ (ks.map tM) [.no,.sh (bq 5 A (.at i))]).bind _=_;rw[qH e];rw[JZ (P:=fun m=>w m==0) (f:=tM) ks .no (fun m hm=>by
  show kG (cG rP (sg (.aX (fD ks fun m=>.int (w m))) (tM m)) (Rs.ok (Tr.int 0)))=_;rw[kD hm];show kG (rP (.int (w m)) (Tr.int 0))=_;rw[Np];rfl) (fun _ _ _=>rfl)]
 rfl
theorem my{i:Nat}{t:Tr}{A:Ab}{ρ:ax}{G:ax->Ab->Rz Out}:bR (dj i (.ok t A) ρ) G=G (ρ.set i (.sh t)) A:=rfl
def gm(ks:List Mk)(bh:Mk->List Mk):Tr:=.tup (ks.map fun m=>.tup [tM m,tB bh m])
theorem wa:∀ms:List Mk,cu (ms.map tM)=true
 |[]=>rfl
 |m::ms=>by rw[aB,cu,wa ms];rfl
theorem uf(bh:Mk->List Mk):∀ms:List Mk,cu (ms.map fun m=>.tup [tM m,tB bh m])=true
 |[]=>rfl
 |m::ms=>by
  rw[aB,cu,uf bh ms];show((true&&(cu ((bh m).map tM)&&true))&&true)=true;rw[wa];rfl
theorem sD:∀(us:List Mk) (g:Mk->Int),rS (fD us fun m=>.int (g m))=true
 |[],_=>rfl
 |u::us,g=>by
  show(true&&rS (fD us fun m=>.int (g m)))=true;rw[sD us g];rfl
theorem sE(K0:uq ks bh H):∃hs:List Mk,ef [gm ks bh]=.ok (.aX (fD hs (tH H)))/\hs.Perm ks:=by
 have kl:=K0.len;obtain⟨A0,e0,h0⟩:=v8 K0.nd (by omega) K0.SE
 let A1:Ab:=A0++[.aX (fD ks fun m=>.int (w0 ks bh m))]
 let A2:Ab:=A1++[.aX []]
 let A3:Ab:=A2++[.lst ((ks.filter fun m=>w0 ks bh m==0).map tM)]
 have n0:A0.length=ks.length:=h0.1;have n1:A1.length=ks.length+1:=by show(A0++[_]).length=_;rw[ba,n0];rfl
 have n2:A2.length=ks.length+2:=by show(A1++[_]).length=_;rw[ba,n1];rfl
 have q1:A1[ks.length]?=some (.aX (fD ks fun m=>.int (w0 ks bh m))):=by
  show(A0++[_])[ks.length]?=_
  rw[dH (by omega),n0,fY];rfl
 have q2:A2[ks.length]?=some (.aX (fD ks fun m=>.int (w0 ks bh m))):=by
  show(A1++[_])[ks.length]?=_
  rw[bX (by omega)];exact q1
 have Vv:Sy ks bh H A3 (w0 ks bh) [] (ks.length+2) (ks.filter fun m=>w0 ks bh m==0):=by
  refine⟨fun m hm=>?_,?_,?_,?_,by omega⟩
  ·have:=qG hm;show((A1++[_])++[_])[ks.idxOf m]?=_
   rw[bX (by rw[ba,n1];omega),bX (by omega)];show(A0++[_])[ks.idxOf m]?=_
   rw[bX (by omega)];exact h0.2 m hm
  ·show(A2++[_])[ks.length]?=_
   rw[bX (by omega)];exact q2
  ·show(A2++[_])[ks.length+1]?=_
   rw[bX (by omega)];show(A1++[_])[ks.length+1]?=_
   rw[dH (by omega),n1,fY];rfl
  ·show(A2++[_])[ks.length+2]?=_
   rw[dH (by omega),n2,fY];rfl
 obtain⟨A',JY,h',EW,b',c',d',ew,q,hp⟩:=F5 K0 (T:=gm ks bh) (K:=.aX (fD ks (tB bh))) 50 100 1 _ A3 _ _ _ .no .no .no (by omega) (fun m hm=>by have:=K0.top m hm;omega) (Lv.start K0 (w0 ks bh) fun _ _=>rfl) Vv;refine⟨EW,?_,hp⟩;have key:ef [gm ks bh]=eK (gH [.sh (gm ks bh),.no,.no,.no,.no,.no,.no,.no,.no,.no] []):=by
  show(if _/\_ then eK (fP.1 _ _)else Rs.bad)=_;rw[ab ⟨rfl,by show(cu _&&true)=true;rw[uf];rfl⟩,Nn]
  rfl
 rw[key];unfold gH;have d1:aL dn (ag (az [.sh (gm ks bh),.no,.no,.no,.no,.no,.no,.no,.no,.no] 0) (Rs.ok []))=.ok (.aX (fD ks (tB bh))):=v5 (tB bh) K0.nd (by omega);rw[d1];show eK (bR (dj 2 (d_ [.aX (fD ks (tB bh))] []) [.sh (gm ks bh),.sh (.aX (fD ks (tB bh))),.no,.no,.no,.no,.no,.no,.no,.no]) _)=_;rw[e0];show eK (bR (dj 3 (eD (aL dn (ag (Ox A0 [.sh (gm ks bh),.sh (.aX (fD ks (tB bh))),.sh (.aX (fD ks (tI ks))),.no,.no,.no,.no,.no,.no,.no]) (Rs.ok []))) A0) [.sh (gm ks bh),.sh (.aX (fD ks (tB bh))),.sh (.aX (fD ks (tI ks))),.no,.no,.no,.no,.no,.no,.no]) _)=_;rw[IY K0];have d2:aL dn (ag (.ok (.lst (ks.map fun m=>.tup [tM m,.int (w0 ks bh m)]))) (Rs.ok []))=.ok (.aX (fD ks fun m=>.int (w0 ks bh m))):=qF (fun m=>.int (w0 ks bh m)) K0.nd (by omega);rw[d2];have d3:eD (.ok (.aX (fD ks fun m=>.int (w0 ks bh m)))) A0=.ok (.at ks.length) A1:=by
  show(if fE ((fD ks fun m=>.int (w0 ks bh m)).map (·.2))=true then Rz.ok (Tr.at A0.length) A1 else .bad)=_;rw[ab (v_ _ _),n0]
 rw[d3];rw[my];have d5:eD (Rs.ok (Tr.aX [])) A1=.ok (.at (ks.length+1)) A2:=by
  show Rz.ok (Tr.at A1.length) A2=_;rw[n1]
 rw[d5,my];show eK (bR (dj 5 (eD (Oy A2 [.sh (gm ks bh),.sh (.aX (fD ks (tB bh))),.sh (.aX (fD ks (tI ks))),.sh (.at ks.length),.sh (.at (ks.length+1)),.no,.no,.no,.no,.no]) A2) [.sh (gm ks bh),.sh (.aX (fD ks (tB bh))),.sh (.aX (fD ks (tI ks))),.sh (.at ks.length),.sh (.at (ks.length+1)),.no,.no,.no,.no,.no]) _)=_;rw[IZ K0 q2];have d4:eD (.ok (.lst ((ks.filter fun m=>w0 ks bh m==0).map tM))) A2=.ok (.at (ks.length+2)) A3:=by
  show(if fE ((ks.filter fun m=>w0 ks bh m==0).map tM)=true then Rz.ok (Tr.at A2.length) A3 else .bad)=_;rw[ab (iD _),n2]
 rw[d4];show eK (bR (dY cW bW 100 (rW (gm ks bh) (.aX (fD ks (tB bh))) ks (ks.length+2) 1 .no .no .no) A3) _)=_;rw[show(1:Int)=((1:Nat):Int)from rfl,ew];show(if gn (bq 3 A' (.at (ks.length+1)))=true then Rs.ok (bq 3 A' (.at (ks.length+1)))else Rs.bad)=_;rw[qH (g:=fun m=>(H m:Int)) q];have nz:gn (Tr.aX (fD EW fun m=>Tr.int (H m:Int)))=true:=by rw[gn];exact sD _ _
 rw[ab nz]
 rfl
end
end qz
namespace qz
open PySem L2
theorem sF:∀(ns:List Int) (c:Int),∃m,gq (some c) ns=some m/\c<=m/\(∀n∈ns,n<=m)/\(m=c\/m∈ns)
 |[],c=>⟨c,rfl,Int.le_refl _,fun _ h=>(by cases h),.inl rfl⟩
 |n::ns,c=>by
  obtain⟨m,e,h1,h2,h3⟩:=sF ns (if n>c then n else c);refine⟨m,by rw[gq];exact e,?_,fun k hk=>?_,?_⟩
  ·by_cases q:n>c
   ·rw[ab q]at h1;omega
   ·rw[ae q]at h1;exact h1
  ·rcases aO.mp hk with rfl|hk
   ·by_cases q:k>c
    ·rw[ab q]at h1;exact h1
    ·rw[ae q]at h1;omega
   ·exact h2 k hk
  ·by_cases q:n>c
   ·rw[ab q]at h3;rcases h3 with h3|h3
    ·exact .inr (by rw[h3];exact aK ..)
    ·exact .inr (aR _ h3)
   ·rw[ae q]at h3;rcases h3 with h3|h3
    ·exact .inl h3
    ·exact .inr (aR _ h3)
theorem I0{ns:List Int}{M:Int}(h:∀n∈ns,n<=M)(e:(ns=[]/\M=0)\/M∈ns):(gq none ns).getD 0=M:=by
 match ns,h,e with
 |[],_,e=>
  rcases e with⟨_,rfl⟩|e
  ·rfl
  ·cases e
 |n::ns,h,e=>
  have e:M∈n::ns:=by
   rcases e with⟨e,_⟩|e
   ·cases e
   ·exact e
  obtain⟨m,q,h1,h2,h3⟩:=sF ns n;rw[gq,q];show m=M;have a:m<=M:=by
   rcases h3 with rfl|h3
   ·exact h _ (aK ..)
   ·exact h m (aR _ h3)
  have b:M<=m:=by
   rcases aO.mp e with rfl|e
   ·exact h1
   ·exact h2 M e
  omega
theorem sG{α:Type}(f:α->Int):∀l:List α,jv (l.map fun a=>.int (f a))=some (l.map f)
 |[]=>rfl
 |a::l=>by rw[aB,jv,sG f l];rfl
def SF(r:List Tr->Rs Tr):ax->Rs Out:=fun ρ=>sV (D0 2 (aL dn (ag (az ρ 0) (Rs.ok []))) ρ) fun ρ=>jl (cG fi (Rs.ok (Tr.int 1)) ((iF [none,some 2,some 0] (gN 0) (fun ρ=>kG (cG AJ (az ρ 0) (az ρ 1))) (fun ρ=>aL r (ag (az ρ 2) (ag (az ρ 0) (Rs.ok [])))) (jn (cG sg (az ρ 2) (az ρ 1))) ρ).bind fun a=>(Rs.ok (Tr.int 0)).bind fun b=>vS a b))
theorem I_(r:List Tr->Rs Tr):(iC r).1=SF r:=rfl
section
variable {ks:List Mk}{bh:Mk->List Mk}{H:Mk->Nat}
theorem m_(K0:uq ks bh H):∀(n:Nat) (m:Mk),m∈ks->H m<=n->cg n [gm ks bh,tM m]=.ok (.int (H m))
 |0,m,hm,h=>by have:=K0.pos m hm;omega
 |n+1,m,hm,h=>by
  have kl:=K0.len;have bl:=K0.Nm m hm;show fh ((iC (cg n)).1 [.sh (gm ks bh),.sh (tM m),.no])=_;rw[I_];unfold SF;have d1:aL dn (ag (az [.sh (gm ks bh),.sh (tM m),.no] 0) (Rs.ok []))=.ok (.aX (fD ks (tB bh))):=v5 (tB bh) K0.nd (by omega);rw[d1];show fh (jl (cG fi (Rs.ok (Tr.int 1)) ((iF [none,some 2,some 0] (gN 0) _ _ (jn (sg (.aX (fD ks (tB bh))) (tM m))) [.sh (gm ks bh),.sh (tM m),.sh (.aX (fD ks (tB bh)))]).bind _)))=_;rw[kD hm];show fh (jl (cG fi (Rs.ok (Tr.int 1)) ((iF [none,some 2,some 0] (gN 0) _ _ (.ok ((bh m).map tM)) [.sh (gm ks bh),.sh (tM m),.sh (.aX (fD ks (tB bh)))]).bind _)))=_;rw[qJ (by omega)];show fh (jl (cG fi (Rs.ok (Tr.int 1)) (((mC (gN 0) _ _ ((bh m).map tM) [.no,.sh (.aX (fD ks (tB bh))),.sh (gm ks bh)]).bind _).bind _)))=_;rw[JZ (P:=fun b=>decide (b∈ks)) (f:=fun b=>.int (H b:Int)) (bh m) .no (fun b _=>by
   show kG (AJ (tM b) (.aX (fD ks (tB bh))))=_;rw[ud];rfl) (fun b hb p=>by
   have hk:=bc p;have:=K0.lt m hm b hb hk;show cg n [gm ks bh,tM b]=_;exact m_ K0 n b hk (by omega))]
  show fh (jl (cG fi (Rs.ok (Tr.int 1)) (match jv (((bh m).filter fun b=>decide (b∈ks)).map fun b=>.int (H b:Int))with
   |some ns=>Rs.ok (Tr.int ((gq none ns).getD 0))
   |none=>.bad)))=_
  rw[sG fun b=>(H b:Int)];show Rs.ok (Tr.int (1+(gq none (((bh m).filter fun b=>decide (b∈ks)).map fun b=>(H b:Int))).getD 0))=_;rw[I0 (M:=(H m:Int) - 1)]
  ·congr 2;omega
  ·intro i hi;obtain⟨b,hb,rfl⟩:=a9.mp hi;have hb:=bN.mp hb;have:=K0.lt m hm b hb.1 (bc hb.2);omega
  ·rcases K0.ex m hm with e|⟨b,k1,k2,k3⟩
   ·refine .inl ⟨?_,by omega⟩;rw[List.map_eq_nil_iff,oD];intro b hb q;have:=K0.lt m hm b hb (bc q);have:=K0.pos b (bc q);omega
   ·exact .inr (a9.mpr ⟨b,bN.mpr ⟨k1,bF k2⟩,by omega⟩)
theorem C5(K0:uq ks bh H){m:Mk}(hm:m∈ks):mm [gm ks bh,tM m]=.ok (.int (H m)):=by
 obtain⟨hs,e,p⟩:=sE K0;show fh (jl (FQ (ef [gm ks bh]) (.ok (tM m))))=_;rw[e];show Rs.ok ((gI (fD hs (tH H)) (kM m)).getD Tr.bU)=_;rw[mn,ab (p.mem_iff.mpr hm)]
 rfl
def nA(k:Nat)(t:Tr):Prop:=cw k [t,t]=.ok (.bl true)
theorem same_int(k:Nat)(i:Int):nA (k+1) (.int i):=by
 show fh (jl (Hh (.ok (.bl true)) (rP (.int i) (.int i))))=_;rw[Np,br];rfl
def gZ(k:Nat):ax->Rs Tr:=fun ρ=>aL (cw k) (ag (az ρ 0) (ag (az ρ 1) (.ok [])))
theorem y3{k:Nat}:∀(ts:List Tr) (a b:Cell),(∀t∈ts,nA k t)->mC (gT [0,1]) (fun _=>.ok true) (gZ k) (zR ts ts) [a,b]=.ok (ts.map fun _=>.bl true)
 |[],a,b,_=>rfl
 |t::ts,a,b,h=>by
  have e:=h t (aK ..);unfold nA at e;show(D3 (cw k [t,t])).bind (fun y=>(mC (gT [0,1]) (fun _=>.ok true) (gZ k) (zR ts ts) [.sh t,.sh t]).bind fun ys=>.ok (y::ys))=_;rw[e,y3 ts (.sh t) (.sh t) fun u m=>h u (aR _ m)]
  rfl
theorem wb:∀ts:List Tr,zC (ts.map fun _=>Tr.bl true)=.ok (ts.map fun _=>true)
 |[]=>rfl
 |t::ts=>by rw[aB,zC,wb ts];rfl
theorem all_true:∀ts:List Tr,(ts.map fun _=>true).all id=true
 |[]=>rfl
 |t::ts=>by rw[aB,fW,all_true ts];rfl
theorem Ja{b:Bool}:kG (.ok (.bl b))=.ok b:=rfl
theorem Nv{a b:Bool}:NT (.ok a) (.ok b)=.ok (a||b):=by cases a<;>rfl
theorem wc{k:Nat}{ts:List Tr}(hl:ts.length<=1000)(h:∀t∈ts,nA k t):nA (k+1) (.tup ts):=by
 unfold nA;have e1:E6 (.int (ts.length:Int)) (.int (ts.length:Int))=.ok (.bl (!((ts.length:Int)==(ts.length:Int)))):=rfl;show fh (sV (Lj (.ok true) (sV (Lj (NT (.ok false) (kG (E6 (.int (ts.length:Int)) (.int (ts.length:Int))))) (jl (Rs.ok (.bl false))) (.ok (.nx [.sh (.tup ts),.sh (.tup ts)]))) fun ρ=>jl (aL zD (ag (iF [none,none] (gT [0,1]) (fun _=>.ok true) (gZ k) (PQ (ag (az ρ 0) (ag (az ρ 1) (.ok [])))) ρ) (.ok [])))) (.ok (.nx [.sh (.tup ts),.sh (.tup ts)]))) _)=_;rw[e1,br,Ja,Nv];show fh (sV (jl (aL zD (ag (iF [none,none] (gT [0,1]) (fun _=>.ok true) (gZ k) (if ts.length<=ts.length then .ok (zR ts ts)else .bad) [.sh (.tup ts),.sh (.tup ts)]) (.ok [])))) _)=_;rw[ab (ak _)];have e2:iF [none,none] (gT [0,1]) (fun _=>.ok true) (gZ k) (.ok (zR ts ts)) [.sh (.tup ts),.sh (.tup ts)]=.ok (.lst (ts.map fun _=>.bl true)):=by
  show(if(zR ts ts).length<=iE then(mC (gT [0,1]) (fun _=>.ok true) (gZ k) (zR ts ts) [.no,.no]).bind fun ys=>Rs.ok (Tr.lst ys)else Rs.bad)=_;rw[ab (by
   have:(zR ts ts).length<=ts.length:=by unfold zR;rw[oK];omega
   exact bo this (bo hl (by decide))),y3 ts .no .no h]
  rfl
 rw[e2];have e3:zD [.lst (ts.map fun _=>.bl true)]=.ok (.bl true):=by
  show(zC (ts.map fun _=>Tr.bl true)).bind (fun bs=>Rs.ok (Tr.bl (bs.all id)))=_;rw[wb];show Rs.ok (Tr.bl ((ts.map fun _=>true).all id))=_;rw[all_true]
 show fh (sV (jl (zD [.lst (ts.map fun _=>.bl true)])) _)=_;rw[e3]
 rfl
theorem Az(k:Nat)(m:Mk):nA (k+2) (tM m):=wc (by show 2<=1000;decide) fun t ht=>by
 rcases aO.mp ht with rfl|ht
 ·exact same_int k _
 ·rw[cz]at ht;subst ht;exact same_int k _
theorem xx(k:Nat){ms:List Mk}(h:ms.length<=1000):nA (k+3) (.tup (ms.map tM)):=wc (by rw[ai];exact h) fun t ht=>by
 obtain⟨m,_,rfl⟩:=a9.mp ht;exact Az k m
def tP(H:Mk->Nat)(m:Mk):Tr:=.tup [.int (H m),tM m]
theorem C6(m:Mk):dG (tP H m)=[(H m:Int),m.1,m.2]:=rfl
theorem C7{a b:Mk}(e:dG (tP H a)=dG (tP H b)):a=b:=by
 rw[C6,C6]at e;injection e with _ e
 injection e with e1 e
 injection e with e2 _
 exact Prod.ext e1 e2
def C8(H:Mk->Nat)(a b:Mk):Bool:=m4 (dG (tP H a)) (dG (tP H b))
def gr(H:Mk->Nat)(ks:List Mk):List Mk:=ks.mergeSort (C8 H)
theorem AA{l l':List Mk}(h:l.Perm l'):gr H l=gr H l':=by
 unfold gr;refine kP (le:=fun a b=>C8 H a b=true) (fun a b _ _ h1 h2=>C7 (jE h1 h2)) ?_ ?_ (((jO l _).trans h).trans (jO l' _).symm)
 ·exact kT (le:=C8 H) (fun a b c h1 h2=>jU h1 h2) (fun a b=>jV _ _) _
 ·exact kT (le:=C8 H) (fun a b c h1 h2=>jU h1 h2) (fun a b=>jV _ _) _
theorem y4(ms:List Mk):cR (ms.map (tP H))=(gr H ms).map (tP H):=by
 unfold cR gr;exact(List.map_mergeSort (r:=C8 H) (s:=fun a b=>m4 (dG a) (dG b)) (f:=tP H) fun a _ b _=>rfl).symm
theorem C9{ms:List Mk}(nd:ms.Nodup)(hl:ms.length<=20):qT (ms.map (tP H))=true/\((ms.map (tP H)).all fun t=>(dG t).length==3)=true:=by
 have a3:((ms.map (tP H)).all fun t=>(dG t).length==3)=true:=by
  rw[bM];intro t ht;obtain⟨m,_,rfl⟩:=a9.mp ht
  rfl
 refine⟨?_,a3⟩;unfold qT;have a1:((ms.map (tP H)).all fun t=>(Cz t).isSome)=true:=by
  rw[bM];intro t ht;obtain⟨m,_,rfl⟩:=a9.mp ht
  rfl
 have a2:((ms.map (tP H)).map dG).Nodup:=by
  rw[bf];unfold List.Nodup at nd⊢;rw[iT];exact nd.imp fun{a b} h e=>h (C7 e)
 rw[a1,a3,bF a2,bF (by rw[ai];omega),Bool.or_true]
 rfl
def TB:Ab:=[Ao.tb "order" "order.<locals>.<lambda>"]
theorem wd(ms:List Mk):(gr H ms).length=ms.length:=(jO ms _).length_eq
theorem y6(K0:uq ks bh H):gB [gm ks bh] TB=.ok (.tup ((gr H ks).map tM)) TB:=by
 obtain⟨hs,e,p⟩:=sE K0;have e1:kC "order" "order.<locals>.<lambda>" (.ok (.aX (fD hs (tH H)))) TB=.ok (.lst ((gr H ks).map tM)) TB:=by
  have hi:gk (fD hs (tH H))=hs.map (tP H):=by
   unfold gk fD;rw[bf]
   rfl
  obtain⟨o1,o2⟩:=C9 (H:=H) (p.nodup_iff.mpr K0.nd) (by rw[p.length_eq];exact K0.len);show aw (if qT (gk (fD hs (tH H)))=true/\((gk (fD hs (tH H))).all fun t=>(dG t).length==3)=true then Rs.ok (Tr.lst ((cR (gk (fD hs (tH H)))).map CL))else .bad) TB=_;rw[hi,ab ⟨o1,o2⟩,y4,AA p,bf]
  rfl
 show gj (uc.1 [.sh (gm ks bh),.no] TB)=_;show gj (bR (dj 1 (aw (ef [gm ks bh]) TB) [.sh (gm ks bh),.no]) fun ρ A=>jx (vl fA (b_ (kC "order" "order.<locals>.<lambda>" (az ρ 1) A) fun A=>Rz.ok [] A)))=_;rw[e];show gj (jx (vl fA (b_ (kC "order" "order.<locals>.<lambda>" (.ok (.aX (fD hs (tH H)))) TB) fun A=>Rz.ok [] A)))=_;rw[e1];show gj (jx (if vb (.tup ((gr H ks).map tM))=true then Rz.ok (.tup ((gr H ks).map tM)) TB else .bad))=_;have:vb (.tup ((gr H ks).map tM))=true:=by rw[vb];exact iD _
 rw[ab this]
 rfl
end
end qz
namespace qz
open PySem L2
def mix(c p m:Int):Int:=(c*48271 % p)*(c*48271 % p+7) % p % m
theorem ug{c p m:Int}(hm:0<m):0<=mix c p m/\mix c p m<m:=⟨o9 _ (by omega),oP _ hm⟩
theorem xy{i j:Int}(h:pP i j):jq (.int i) (.int j)=.ok (.int (i*j)):=ab h
theorem qK(c p m:Int)(hp:0<p)(GP:p<=1048576)(hm:0<m):bz [.int c,.int p,.int m]=.ok (.int (mix c p m)):=by
 have b0:0<=c*48271 % p:=o9 _ (by omega);have b1:c*48271 % p<p:=oP _ hp;show fh (sV (D0 3 (cG ra (jq (.int c) (.int 48271)) (.ok (.int p))) [.sh (.int c),.sh (.int p),.sh (.int m),.no]) fun ρ=>jl (cG ra (cG ra (cG jq (az ρ 3) (cG fi (az ρ 3) (Rs.ok (.int 7)))) (az ρ 1)) (az ρ 2)))=_;have q1:jq (.int c) (.int 48271)=.ok (.int (c*48271)):=ab (.inr ⟨by decide,by decide⟩);rw[q1];have q2:cG ra (.ok (.int (c*48271))) (.ok (.int p))=.ok (.int (c*48271 % p)):=ab hp;rw[q2];show fh (jl (cG ra (cG ra (jq (.int (c*48271 % p)) (.int (c*48271 % p+7))) (.ok (.int p))) (.ok (.int m))))=_;have q3:jq (.int (c*48271 % p)) (.int (c*48271 % p+7))=.ok (.int ((c*48271 % p)*(c*48271 % p+7))):=ab (.inl ⟨by omega,by omega⟩);rw[q3];have q4:cG ra (.ok (.int ((c*48271 % p)*(c*48271 % p+7)))) (.ok (.int p))=.ok (.int ((c*48271 % p)*(c*48271 % p+7) % p)):=ab hp;rw[q4];have q5:cG ra (.ok (.int ((c*48271 % p)*(c*48271 % p+7) % p))) (.ok (.int m))=.ok (.int (mix c p m)):=ab hm;rw[q5]
 rfl
theorem C_(ns:List Int)(k:Int)(h:0<=k):∃c,ie [.j1 ns,.int k]=.ok (.int c):=by
 show∃c,fh (sV (Lj (.ok (decide (k<(ns.length:Int)))) (jl ((zA (L2.qQ ns k)).bind fun n=>.ok (.int n))) (.ok (.nx [.sh (.j1 ns),.sh (.int k)]))) fun ρ=>jl (Rs.ok (.int 0)))=_;by_cases hk:k<(ns.length:Int)
 ·have hl:k.toNat<ns.length:=by omega
  have e:L2.qQ ns k=some (ns[k.toNat]):=by
   have q:=DI (xs:=ns) (j:=k.toNat) (aH hl);rw[Int.toNat_of_nonneg h]at q;exact q
  rw[bF hk,e];exact⟨_,rfl⟩
 ·rw[a_ hk];exact⟨0,rfl⟩
def sd(c:Int)(k:Nat):Int:=c+37*(k:Int)
def ri(c:Int)(k:Nat):Mk:=(mix (sd c k) 9601 3,(k:Int))
def marks(c:Int)(k:Nat):List Mk:=(List.range k).map (ri c)
def we(c:Int)(k:Nat):List Mk:=if mix (sd c k) 9551 5==0 then[(mix (sd c k) 9547 4,90+mix (sd c k) 9539 4)]else[]
def C'(c:Int)(k:Nat):List Mk:=(marks c k).filter fun o=>mix (sd c k+11*o.2) 9587 3==0
def ur(c:Int)(k:Nat):List Mk:=C' c k++we c k
def F6(a b:Mk):Bool:=m4 (dG (tM a)) (dG (tM b))
def AB(c:Int)(m:Mk):List Mk:=(ur c m.2.toNat).mergeSort F6
def b8(c:Int)(m:Mk):Tr:=.tup [tM m,tB (AB c) m]
theorem qL(c:Int)(k:Nat):marks c (k+1)=marks c k++[ri c k]:=by unfold marks;rw[List.range_succ,cX];rfl
theorem eR(c:Int)(k:Nat):(marks c k).length=k:=by unfold marks;rw[ai,fK]
theorem nc{c:Int}{k:Nat}{m:Mk}:m∈marks c k↔∃j,j<k/\m=ri c j:=by
 unfold marks;rw[a9];constructor
 ·rintro ⟨j,hj,rfl⟩;exact⟨j,cD.mp hj,rfl⟩
 ·rintro ⟨j,hj,rfl⟩;exact⟨j,cD.mpr hj,rfl⟩
theorem wg(c:Int)(k:Nat):(marks c k).Nodup:=by
 unfold marks List.Nodup;rw[iT];refine(oZ (n:=k)).imp fun{a b} h e=>h ?_
 have:(a:Int)=(b:Int):=bH Prod.snd e;omega
theorem Dc(c:Int)(k:Nat)(hk:k<20):(ur c k).Nodup:=by
 unfold ur;rw[iS];refine⟨ez (wg c k),?_,fun a ha b hb e=>?_⟩
 ·unfold we;split
  ·simp
  ·exact fU
 ·subst e;obtain⟨j,hj,rfl⟩:=nc.mp (bN.mp ha).1;unfold we at hb;split at hb
  ·rw[cz]at hb;have:(j:Int)=90+mix (sd c k) 9539 4:=bH Prod.snd hb;have:=(ug (c:=sd c k) (p:=9539) (m:=4) (by decide)).1;omega
  ·cases hb
theorem y8(c:Int)(k:Nat):(ur c k).length<=k+1:=by
 unfold ur;rw[ba];have a:(C' c k).length<=(marks c k).length:=kZ _ _;rw[eR]at a;have b:(we c k).length<=1:=by
  unfold we;split
  ·exact ak 1
  ·exact bx 1
 omega
theorem Jb{a b:Mk}(e:dG (tM a)=dG (tM b)):a=b:=by
 have e:[a.1,a.2]=[b.1,b.2]:=e;injection e with e1 e
 injection e with e2 _
 exact Prod.ext e1 e2
theorem EY(ms:List Mk):cR (ms.map tM)=(ms.mergeSort F6).map tM:=by
 unfold cR;exact(List.map_mergeSort (r:=F6) (s:=fun a b=>m4 (dG a) (dG b)) (f:=tM) fun a _ b _=>rfl).symm
theorem EZ{ms:List Mk}(nd:ms.Nodup)(hl:ms.length<=18):di (.lst (ms.map tM))=.ok (.lst ((ms.mergeSort F6).map tM)):=by
 have a3:((ms.map tM).all fun t=>(dG t).length==2)=true:=by
  rw[bM];intro t ht;obtain⟨m,_,rfl⟩:=a9.mp ht
  rfl
 have a1:((ms.map tM).all fun t=>(Cz t).isSome)=true:=by
  rw[bM];intro t ht;obtain⟨m,_,rfl⟩:=a9.mp ht
  rfl
 have a2:((ms.map tM).map dG).Nodup:=by
  rw[bf];unfold List.Nodup at nd⊢;rw[iT];exact nd.imp fun{a b} h e=>h (Jb e)
 have ok:qT (ms.map tM)=true:=by
  unfold qT;rw[a1,a3,bF a2,bF (by rw[ai];omega),lI]
  rfl
 show(if qT (ms.map tM)=true/\(ms.map tM).length<=18/\((ms.map tM).all fun t=>(dG t).length==2)=true then Rs.ok (Tr.lst (cR (ms.map tM)))else .bad)=_;rw[ab ⟨ok,by rw[ai];exact hl,a3⟩,EY]
def J0(A:Ab)(ρ:ax):Rs Tr:=iF [none,some 5] (gN 0) (fun ρ=>kG (cG rP (aL bz (ag (cG fi (az ρ 1) (cG jq (Rs.ok (Tr.int 11)) (cG Hw (az ρ 0) (Rs.ok (Tr.int 1))))) (ag (Rs.ok (Tr.int 9587)) (ag (Rs.ok (Tr.int 3)) (Rs.ok []))))) (Rs.ok (Tr.int 0)))) (fun ρ=>az ρ 0) (jn (az (aZ A ρ) 2)) (aZ A ρ)
def Rh:ax->Ab->Rz Out:=fun ρ A=>um (aw (kG (cG rP (aL bz (ag (az ρ 5) (ag (Rs.ok (Tr.int 9551)) (ag (Rs.ok (Tr.int 5)) (Rs.ok []))))) (Rs.ok (Tr.int 0)))) A) (fun A=>eJ (vh eQ (aw (az ρ 7) A) fun A=>b_ (aw (gc (ag (aL bz (ag (az ρ 5) (ag (Rs.ok (Tr.int 9547)) (ag (Rs.ok (Tr.int 4)) (Rs.ok []))))) (ag (cG fi (Rs.ok (Tr.int 90)) (aL bz (ag (az ρ 5) (ag (Rs.ok (Tr.int 9539)) (ag (Rs.ok (Tr.int 4)) (Rs.ok [])))))) (Rs.ok [])))) A) fun A=>Rz.ok [] A) ρ) fun A=>Rz.ok (Out.nx ρ) A
def Ri:ax->Ab->Rz Out:=fun ρ A=>eJ (vh eQ (aw (az ρ 2) A) fun A=>b_ (aw (az ρ 6) A) fun A=>Rz.ok [] A) ρ
def Rj:ax->Ab->Rz Out:=fun ρ A=>eJ (vh eQ (aw (az ρ 3) A) fun A=>b_ (uk (gc (ag (az (aZ A ρ) 6) (ag (aL fA (ag ((az (aZ A ρ) 7).bind di) (Rs.ok []))) (Rs.ok [])))) A) fun A=>Rz.ok [] A) ρ
def J1:ax->Ab->Rz Out:=fun ρ A=>bR (dj 5 (aw (cG fi (az ρ 0) (cG jq (Rs.ok (Tr.int 37)) (az ρ 4))) A) ρ) fun ρ A=>bR (dj 6 (aw (gc (ag (aL bz (ag (az ρ 5) (ag (Rs.ok (Tr.int 9601)) (ag (Rs.ok (Tr.int 3)) (Rs.ok []))))) (ag (az ρ 4) (Rs.ok [])))) A) ρ) fun ρ A=>bR (dj 7 (eD (J0 A ρ) A) ρ) fun ρ A=>bR (Rh ρ A) fun ρ A=>bR (Ri ρ A) fun ρ A=>Rj ρ A
def SG:ax->Ab->Rz Out:=fun ρ A=>bR (dj 2 (eD (wL (Rs.ok [])) A) ρ) fun ρ A=>bR (dj 3 (eD (wL (Rs.ok [])) A) ρ) fun ρ A=>bR (jy (gN 4) J1 (aw (pO (ag (aL bz (ag (az ρ 0) (ag (Rs.ok (Tr.int 9613)) (ag (cG fi (az ρ 1) (Rs.ok (Tr.int 1))) (Rs.ok []))))) (Rs.ok []))) A) ρ) fun ρ A=>jx (aw (az ρ 3) A)
theorem Jc:jG.1=SG:=rfl
theorem xA{A:Ab}{i:Nat}{ts:List Tr}{t:Tr}(e:A[i]?=some (.lst ts))(hl:ts.length<=1000):vh eQ (.ok (.at i) A) (fun A=>.ok [t] A)=.ok .bU (A.set i (.lst (ts++[t]))):=by
 show(if zW A i=true then eQ i [t] A else .bad)=_;have e1:zW A i=true:=by unfold zW;rw[e]
 have e2:eQ i [t] A=.ok .bU (A.set i (.lst (ts++[t]))):=by
  unfold eQ;simp only[e];rw[ab (by unfold iE;omega)]
 rw[ab e1,e2]
theorem Jd(c:Int)(k:Nat)(hk:k<20){A:Ab}(h0:A[0]?=some (.lst ((marks c k).map tM))){a b d e f g:Cell}:J0 A [a,b,.sh (.at 0),d,e,.sh (.int (sd c k)),f,g]=.ok (.lst ((C' c k).map tM)):=by
 unfold J0;show iF [none,some 5] (gN 0) _ _ (jn (.ok (bq 5 A (.at 0)))) _=_;rw[qI h0];show iF [none,some 5] (gN 0) _ _ (.ok ((marks c k).map tM)) _=_;rw[qJ (by rw[eR];omega)];show(mC (gN 0) _ _ ((marks c k).map tM) [.no,.sh (.int (sd c k))]).bind _=_;rw[JZ (P:=fun o=>mix (sd c k+11*o.2) 9587 3==0) (f:=tM) (marks c k) .no (fun o ho=>?_) (fun _ _ _=>rfl)]
 ·rfl
 ·show kG (cG rP (aL bz (ag (cG fi (.ok (.int (sd c k))) (jq (Tr.int 11) (.int o.2))) (ag (Rs.ok (Tr.int 9587)) (ag (Rs.ok (Tr.int 3)) (Rs.ok []))))) (Rs.ok (Tr.int 0)))=_;rw[xy (.inl ⟨by decide,by decide⟩)];show kG (cG rP (bz [.int (sd c k+11*o.2),.int 9587,.int 3]) (Rs.ok (Tr.int 0)))=_;rw[qK _ _ _ (by decide) (by decide) (by decide)];show kG (rP (.int (mix (sd c k+11*o.2) 9587 3)) (Tr.int 0))=_;rw[Np]
  rfl
def rL(c k:Int)(c5 c6 c7:Cell):ax:=[.sh (.int c),.sh (.int 9),.sh (.at 0),.sh (.at 1),.sh (.int k),c5,c6,c7]
theorem mz{A:Ab}{i j:Nat}{o:Ao}(h:i≠j):(A.set i o)[j]?=A[j]? :=cb h
set_option maxHeartbeats 1000000 in
theorem Je(c:Int)(k:Nat)(hk:k<15){A:Ab}(h0:A[0]?=some (.lst ((marks c k).map tM)))(h1:A[1]?=some (.lst ((marks c k).map (b8 c)))){c5 c6 c7:Cell}:
  ∃A' d5 d6 d7,J1 (rL c k c5 c6 c7) A=.ok (.nx (rL c k d5 d6 d7)) A'/\A'[0]?=some (.lst ((marks c (k+1)).map tM))/\A'[1]?=some (.lst ((marks c (k+1)).map (b8 c))):=by
 have l1:=dz h1;have s5:cG fi (az (rL c k c5 c6 c7) 0) (cG jq (Rs.ok (Tr.int 37)) (az (rL c k c5 c6 c7) 4))=.ok (.int (sd c k)):=by
  show cG fi (.ok (.int c)) (jq (Tr.int 37) (.int k))=_;rw[xy (.inl ⟨by decide,by decide⟩)]
  rfl
 let R5:ax:=rL c k (.sh (.int (sd c k))) c6 c7
 let R6:ax:=rL c k (.sh (.int (sd c k))) (.sh (tM (ri c k))) c7
 let R7:ax:=rL c k (.sh (.int (sd c k))) (.sh (tM (ri c k))) (.sh (.at A.length))
 have s6:gc (ag (aL bz (ag (az R5 5) (ag (Rs.ok (Tr.int 9601)) (ag (Rs.ok (Tr.int 3)) (Rs.ok []))))) (ag (az R5 4) (Rs.ok [])))=.ok (tM (ri c k)):=by
  show gc (ag (bz [.int (sd c k),.int 9601,.int 3]) (ag (.ok (.int k)) (Rs.ok [])))=_;rw[qK _ _ _ (by decide) (by decide) (by decide)]
  rfl
 let A1:Ab:=A++[.lst ((C' c k).map tM)]
 have s7:eD (J0 A R6) A=.ok (.at A.length) A1:=by
  have:J0 A R6=.ok (.lst ((C' c k).map tM)):=Jd c k (by omega) h0;rw[this];show(if fE ((C' c k).map tM)=true then Rz.ok (Tr.at A.length) A1 else .bad)=_;rw[ab (iD _)]
 have Vx:A1[0]?=some (.lst ((marks c k).map tM)):=by
  show(A++[_])[0]?=_
  rw[bX (by omega)];exact h0
 have Vy:A1[1]?=some (.lst ((marks c k).map (b8 c))):=by
  show(A++[_])[1]?=_
  rw[bX (by omega)];exact h1
 have SH:A1[A.length]?=some (.lst ((C' c k).map tM)):=by
  show(A++[_])[A.length]?=_
  rw[dH (ak _),fY];rfl
 have al:A1.length=A.length+1:=by show(A++[_]).length=_;rw[ba];rfl
 let A2:Ab:=A1.set A.length (.lst ((ur c k).map tM))
 have bl:=y8 c k;have V7:(C' c k).length<=k:=by
  have:(C' c k).length<=(marks c k).length:=kZ _ _;rw[eR]at this;exact this
 have s8:Rh R7 A1=.ok (.nx R7) A2:=by
  show um (aw (kG (cG rP (bz [.int (sd c k),.int 9551,.int 5]) (Rs.ok (Tr.int 0)))) A1) (fun A=>eJ (vh eQ (aw (Rs.ok (.at _)) A) fun A=>b_ (aw (gc (ag (bz [.int (sd c k),.int 9547,.int 4]) (ag (cG fi (Rs.ok (Tr.int 90)) (bz [.int (sd c k),.int 9539,.int 4])) (Rs.ok [])))) A) fun A=>Rz.ok [] A) R7) (fun A=>Rz.ok (Out.nx R7) A)=_;rw[qK _ _ _ (by decide) (by decide) (by decide),qK _ _ _ (by decide) (by decide) (by decide),qK _ _ _ (by decide) (by decide) (by decide)];show um (aw (kG (rP (.int (mix (sd c k) 9551 5)) (Tr.int 0))) A1) _ _=_;rw[Np];cases z:mix (sd c k) 9551 5==0 with
  |true=>
   show eJ (vh eQ (.ok (.at A.length) A1) fun A=>.ok [tM (mix (sd c k) 9547 4,90+mix (sd c k) 9539 4)] A) R7=_;rw[xA SH (by rw[ai];omega)];show Rz.ok (Out.nx R7) (A1.set A.length (.lst ((C' c k).map tM++[tM (mix (sd c k) 9547 4,90+mix (sd c k) 9539 4)])))=.ok (.nx R7) (A1.set A.length (.lst ((ur c k).map tM)));unfold ur we;rw[z,cX]
   rfl
  |false=>
   show Rz.ok (Out.nx R7) A1=.ok (.nx R7) (A1.set A.length (.lst ((ur c k).map tM)));have:ur c k=C' c k:=by
    unfold ur we;rw[z];exact dr _
   rw[this];congr 1;refine(oU fun i=>?_);by_cases e:A.length=i
   ·subst e;rw[dI (by omega),SH]
   ·rw[cb e]
 have Vz:A2[0]?=some (.lst ((marks c k).map tM)):=by
  show(A1.set A.length _)[0]?=_
  rw[mz (by omega)];exact Vx
 have VA:A2[1]?=some (.lst ((marks c k).map (b8 c))):=by
  show(A1.set A.length _)[1]?=_
  rw[mz (by omega)];exact Vy
 have VB:A2[A.length]?=some (.lst ((ur c k).map tM)):=dI (by omega)
 let A3:Ab:=A2.set 0 (.lst ((marks c (k+1)).map tM))
 have s9:Ri R7 A2=.ok (.nx R7) A3:=by
  show eJ (vh eQ (.ok (.at 0) A2) fun A=>.ok [tM (ri c k)] A) R7=_;rw[xA Vz (by rw[ai,eR];omega)];show Rz.ok (Out.nx R7) (A2.set 0 (.lst ((marks c k).map tM++[tM (ri c k)])))=.ok (.nx R7) (A2.set 0 (.lst ((marks c (k+1)).map tM)));rw[qL,cX]
  rfl
 have V8:A2.length=A.length+1:=by show(A1.set _ _).length=_;rw[fS];exact al
 have VC:A3[1]?=some (.lst ((marks c k).map (b8 c))):=by
  show(A2.set 0 _)[1]?=_
  rw[mz (by omega)];exact VA
 have VD:A3[A.length]?=some (.lst ((ur c k).map tM)):=by
  show(A2.set 0 _)[A.length]?=_
  rw[mz (by omega)];exact VB
 have Pp:Rj R7 A3=.ok (.nx R7) (A3.set 1 (.lst ((marks c (k+1)).map (b8 c)))):=by
  have e:(b_ (uk (gc (ag (az (aZ A3 R7) 6) (ag (aL fA (ag ((az (aZ A3 R7) 7).bind di) (Rs.ok []))) (Rs.ok [])))) A3) fun A=>Rz.ok [] A)=.ok [b8 c (ri c k)] A3:=by
   show(b_ (uk (gc (ag (.ok (tM (ri c k))) (ag (aL fA (ag (di (bq 5 A3 (.at A.length))) (Rs.ok []))) (Rs.ok [])))) A3) fun A=>Rz.ok [] A)=_;rw[qI VD,EZ (Dc c k (by omega)) (by omega)];show(b_ (if vb (.tup [tM (ri c k),.tup (((ur c k).mergeSort F6).map tM)])=true then Rz.ok (.tup [tM (ri c k),.tup (((ur c k).mergeSort F6).map tM)]) A3 else .bad) fun A=>Rz.ok [] A)=_;have tf:vb (.tup [tM (ri c k),.tup (((ur c k).mergeSort F6).map tM)])=true:=by
    show(true&&(fE (((ur c k).mergeSort F6).map tM)&&true))=true;rw[iD];rfl
   rw[ab tf]
   rfl
  have e2:(vh eQ (aw (az R7 3) A3) fun A=>b_ (uk (gc (ag (az (aZ A R7) 6) (ag (aL fA (ag ((az (aZ A R7) 7).bind di) (Rs.ok []))) (Rs.ok [])))) A) fun A=>Rz.ok [] A)=vh eQ (.ok (.at 1) A3) fun A=>.ok [b8 c (ri c k)] A:=by
   show(if zW A3 1=true then(b_ (uk (gc (ag (az (aZ A3 R7) 6) (ag (aL fA (ag ((az (aZ A3 R7) 7).bind di) (Rs.ok []))) (Rs.ok [])))) A3) fun A=>Rz.ok [] A).bind _ else .bad)=_;rw[e]
   rfl
  unfold Rj;rw[e2,xA VC (by rw[ai,eR];omega)];show Rz.ok (Out.nx R7) (A3.set 1 (.lst ((marks c k).map (b8 c)++[b8 c (ri c k)])))=_;rw[qL,cX]
  rfl
 refine⟨A3.set 1 (.lst ((marks c (k+1)).map (b8 c))),.sh (.int (sd c k)),.sh (tM (ri c k)),.sh (.at A.length),?_,?_,?_⟩
 ·unfold J1;rw[s5];show bR (dj 6 (aw (gc (ag (aL bz (ag (az R5 5) (ag (Rs.ok (Tr.int 9601)) (ag (Rs.ok (Tr.int 3)) (Rs.ok []))))) (ag (az R5 4) (Rs.ok [])))) A) R5) _=_;rw[s6];show bR (dj 7 (eD (J0 A R6) A) R6) _=_;rw[s7];rw[my];show bR (Rh R7 A1) _=_;rw[s8];show bR (Ri R7 A2) _=_;rw[s9];exact Pp
 ·rw[mz (by omega)];exact dI (by omega)
 ·exact dI (by show _<(A2.set 0 _).length;rw[fS];omega)
end qz
namespace qz
open PySem L2
def Dr(l:List Nat):Nat:=l.foldr max 0
theorem F7:∀{l:List Nat} {n:Nat},n∈l->n<=Dr l
 |a::l,n,h=>by
  show n<=max a (Dr l);rcases aO.mp h with rfl|h
  ·omega
  ·have:=F7 h;omega
theorem De:∀(l:List Nat),l=[]\/Dr l∈l
 |[]=>.inl rfl
 |a::l=>by
  refine .inr ?_
  show max a (Dr l)∈a::l;rcases De l with rfl|h
  ·have:max a (Dr [])=a:=o8 (bx _);rw[this];exact aK ..
  ·by_cases q:Dr l<=a
   ·rw[o8 q];exact aK ..
   ·rw[Nat.max_eq_right (by omega)];exact aR _ h
def hh(ks:List Mk)(bh:Mk->List Mk)(rk:Mk->Nat):Nat->Mk->Nat
 |0,_=>0
 |j+1,m=>if rk m<j then hh ks bh rk j m else 1+Dr (((bh m).filter fun b=>decide (b∈ks)).map (hh ks bh rk j))
theorem Dg{ks:List Mk}{bh:Mk->List Mk}{rk:Mk->Nat}{m:Mk}:∀(j i:Nat),rk m<j->hh ks bh rk (j+i) m=hh ks bh rk j m
 |j,0,_=>rfl
 |j,i+1,h=>by
  show(if rk m<j+i then hh ks bh rk (j+i) m else _)=_;rw[ab (by omega)];exact Dg j i h
theorem hx{ks:List Mk}{bh:Mk->List Mk}{rk:Mk->Nat}(hr:∀m∈ks,∀b∈bh m,b∈ks->rk b<rk m){N:Nat}(hN:∀m∈ks,rk m<N):
  ∃H:Mk->Nat,(∀m∈ks,1<=H m)/\(∀m∈ks,∀b∈bh m,b∈ks->H b<H m)/\(∀m∈ks,H m=1\/∃b∈bh m,b∈ks/\H m=H b+1)/\∀m∈ks,H m<=rk m+1:=by
 have eq:∀m∈ks,hh ks bh rk N m=1+Dr (((bh m).filter fun b=>decide (b∈ks)).map (hh ks bh rk N)):=fun m hm=>by
  have h1:=hN m hm;have:hh ks bh rk N m=hh ks bh rk (rk m+1) m:=by
   have e:=Dg (ks:=ks) (bh:=bh) (rk:=rk) (m:=m) (rk m+1) (N - (rk m+1)) (by omega);rw[<-e];congr 1;omega
  rw[this];show(if rk m<rk m then _ else 1+Dr (((bh m).filter fun b=>decide (b∈ks)).map (hh ks bh rk (rk m))))=_;rw[ae (by omega)];congr 2;refine eU fun b hb=>?_
  have hb:=bN.mp hb;have:=hr m hm b hb.1 (bc hb.2);have e:=Dg (ks:=ks) (bh:=bh) (rk:=rk) (m:=b) (rk m) (N - rk m) this;rw[<-e];congr 1;omega
 refine⟨hh ks bh rk N,fun m hm=>by rw[eq m hm];omega,fun m hm b hb hk=>?_,fun m hm=>?_,?_⟩
 ·rw[eq m hm];have:hh ks bh rk N b<=Dr (((bh m).filter fun b=>decide (b∈ks)).map (hh ks bh rk N)):=F7 (a9.mpr ⟨b,bN.mpr ⟨hb,bF hk⟩,rfl⟩);omega
 ·rcases De (((bh m).filter fun b=>decide (b∈ks)).map (hh ks bh rk N))with e|e
  ·left;rw[eq m hm,e];rfl
  ·right;obtain⟨b,hb,q⟩:=a9.mp e;have hb:=bN.mp hb;exact⟨b,hb.1,bc hb.2,by rw[eq m hm];omega⟩
 ·have key:∀(n:Nat) (m:Mk),m∈ks->rk m=n->hh ks bh rk N m<=n+1:=fun n=>by
   induction n using Nat.strongRecOn with
   |ind n ih=>
    intro m hm e;rw[eq m hm];rcases De (((bh m).filter fun b=>decide (b∈ks)).map (hh ks bh rk N))with q|q
    ·rw[q];show 1+0<=_;omega
    ·obtain⟨b,hb,q⟩:=a9.mp q;have hb:=bN.mp hb;have h1:=hr m hm b hb.1 (bc hb.2);have:=ih (rk b) (by omega) b (bc hb.2) rfl;omega
  exact fun m hm=>key (rk m) m hm rfl
theorem bC{c:Int}{n:Nat}(hn:n<=9){ks:List Mk}(p:ks.Perm (marks c n)):∃H,uq ks (AB c) H/\∀m∈ks,H m<=12:=by
 have sp:∀m:Mk,(AB c m).Perm (ur c m.2.toNat):=fun m=>jO _ _;have mk:∀m∈ks,∃j,j<n/\m=ri c j:=fun m hm=>nc.mp (p.mem_iff.mp hm);have tn:∀j:Nat,(ri c j).2.toNat=j:=fun j=>dN j;obtain⟨H,h1,h2,h3,h4⟩:=hx (ks:=ks) (bh:=AB c) (rk:=fun m=>m.2.toNat) (fun m hm b hb hk=>by
  obtain⟨j,hj,rfl⟩:=mk m hm;obtain⟨i,hi,rfl⟩:=mk b hk;show(ri c i).2.toNat<(ri c j).2.toNat;rw[tn,tn];have hb:=(sp _).mem_iff.mp hb;rw[tn]at hb;rcases fM.mp hb with hb|hb
  ·obtain⟨i',tj,e⟩:=nc.mp (bN.mp hb).1;have:(i:Int)=(i':Int):=bH Prod.snd e;omega
  ·unfold we at hb;split at hb
   ·rw[cz]at hb;have:(i:Int)=90+mix (sd c j) 9539 4:=bH Prod.snd hb;have:=(ug (c:=sd c j) (p:=9539) (m:=4) (by decide)).1;omega
   ·cases hb) (N:=9) (fun m hm=>by
  obtain⟨j,hj,rfl⟩:=mk m hm;show(ri c j).2.toNat<9;rw[tn];omega)
 have h5:∀m∈ks,H m<=10:=fun m hm=>by
  have:=h4 m hm;obtain⟨j,hj,rfl⟩:=mk m hm;rw[tn]at this;omega
 refine⟨H,⟨p.nodup_iff.mpr (wg c n),by rw[p.length_eq,eR];omega,fun m hm=>?_,fun m hm=>?_,h1,h2,h3,fun m hm=>by have:=h5 m hm;omega⟩,fun m hm=>by have:=h5 m hm;omega⟩
 ·obtain⟨j,hj,rfl⟩:=mk m hm;rw[(sp _).nodup_iff,tn];exact Dc c j (by omega)
 ·obtain⟨j,hj,rfl⟩:=mk m hm;rw[(sp _).length_eq,tn];have:=y8 c j;omega
theorem y9(c:Int):∀(j k:Nat) (A:Ab) (c4 c5 c6 c7:Cell),k+j<=10->A[0]?=some (.lst ((marks c k).map tM))->A[1]?=some (.lst ((marks c k).map (b8 c)))->
  ∃A' d4 d5 d6 d7,iN (gN 4) J1 ((List.range' k j).map fun(i:Nat)=>Tr.int (i:Int)) [.sh (.int c),.sh (.int 9),.sh (.at 0),.sh (.at 1),c4,c5,c6,c7] A=.ok (.nx [.sh (.int c),.sh (.int 9),.sh (.at 0),.sh (.at 1),d4,d5,d6,d7]) A'/\A'[1]?=some (.lst ((marks c (k+j)).map (b8 c)))
 |0,k,A,c4,c5,c6,c7,_,_,h1=>⟨A,c4,c5,c6,c7,rfl,h1⟩
 |j+1,k,A,c4,c5,c6,c7,hk,h0,h1=>by
  obtain⟨A1,d5,d6,d7,e,q0,q1⟩:=Je c k (by omega) h0 h1 (c5:=c5) (c6:=c6) (c7:=c7);obtain⟨A2,r4,r5,r6,r7,e2,q2⟩:=y9 c j (k+1) A1 (.sh (.int k)) d5 d6 d7 (by omega) q0 q1;refine⟨A2,r4,r5,r6,r7,?_,by rw[show k+(j+1)=k+1+j by omega];exact q2⟩;rw[List.range'_succ,aB,v7 (ρ1:=rL c k c5 c6 c7) rfl e];exact e2
theorem Jf(n:Nat):uW 0 n=(List.range' 0 n).map fun(i:Nat)=>Tr.int (i:Int):=by
 unfold uW;rw[List.range_eq_range'];refine eU fun k _=>?_
 rw[Int.zero_add]
theorem qM(c:Int):∀ms:List Mk,cu (ms.map (b8 c))=true:=fun ms=>uf (AB c) ms
theorem qN(c:Int):∀ms:List Mk,fE (ms.map (b8 c))=true
 |[]=>rfl
 |m::ms=>by
  rw[aB,fE,qN c ms];show((true&&(fE ((AB c m).map tM)&&true))&&true)=true;rw[iD];rfl
theorem mB(c:Int){A:Ab}{i:Nat}{ms:List Mk}(e:A[i]?=some (.lst (ms.map (b8 c))))(k:Nat):bq (k+1) A (.at i)=.lst (ms.map (b8 c)):=by
 rw[bq];simp only[e];rw[bf];congr 1;refine eU fun m _=>?_
 cases k<;>rfl
theorem wj(ts:List Tr):gn (.lst ts)=cu ts:=by rw[gn]
theorem Dh(ts:List Tr):gn (.tup ts)=cu ts:=by rw[gn]
theorem y_{n m:Nat}{G:ax->Ab->Rz Out}{ts:List Tr}(h1:ts.length=n)(h2:cu ts=true):rf n m G ts=eK (G (startT m ts) []):=ab ⟨h1,h2⟩
theorem AD(c:Int):∃n,n<=9/\dD [.int c,.int 9]=.ok (.lst ((marks c n).map (b8 c))):=by
 obtain⟨m0,m1⟩:=ug (c:=c) (p:=9613) (m:=10) (by decide);refine⟨(mix c 9613 10).toNat,by omega,?_⟩;have key:dD [.int c,.int 9]=eK (SG [.sh (.int c),.sh (.int 9),.no,.no,.no,.no,.no,.no] []):=by
  rw[<-Jc];exact y_ rfl rfl
 have er:pO (ag (aL bz (ag (.ok (.int c)) (ag (Rs.ok (Tr.int 9613)) (ag (cG fi (.ok (.int 9)) (Rs.ok (Tr.int 1))) (Rs.ok []))))) (Rs.ok []))=.ok ((List.range' 0 (mix c 9613 10).toNat).map fun(i:Nat)=>Tr.int (i:Int)):=by
  show pO (ag (bz [.int c,.int 9613,.int 10]) (Rs.ok []))=_;rw[qK _ _ _ (by decide) (by decide) (by decide)];show(if-4611686018427387904<=mix c 9613 10/\mix c 9613 10<4611686018427387904 then Rs.ok (uW 0 (mix c 9613 10).toNat)else .bad)=_;rw[ab ⟨by omega,by omega⟩,Jf]
 obtain⟨A',d4,d5,d6,d7,el,q⟩:=y9 c (mix c 9613 10).toNat 0 [.lst [],.lst []] .no .no .no .no (by omega) rfl rfl;rw[i5]at q;rw[key];show eK (bR (jy (gN 4) J1 (aw (pO (ag (aL bz (ag (.ok (.int c)) (ag (Rs.ok (Tr.int 9613)) (ag (cG fi (.ok (.int 9)) (Rs.ok (Tr.int 1))) (Rs.ok []))))) (Rs.ok []))) [.lst [],.lst []]) [.sh (.int c),.sh (.int 9),.sh (.at 0),.sh (.at 1),.no,.no,.no,.no]) fun ρ A=>jx (aw (az ρ 3) A))=_;rw[er];show eK (bR (iN (gN 4) J1 _ _ _) _)=_;rw[el];show(if gn (bq 3 A' (.at 1))=true then Rs.ok (bq 3 A' (.at 1))else Rs.bad)=_;rw[mB c q,ab (by rw[wj];exact qM c _)]
theorem sH{α β:Type}(f:α->β):∀(l:List α) (i:Nat),(l.map f).eraseIdx i=(l.eraseIdx i).map f
 |[],_=>rfl
 |a::l,0=>rfl
 |a::l,i+1=>by
  show f a::(l.map f).eraseIdx i=f a::(l.eraseIdx i).map f;rw[sH f l i]
theorem qO{α:Type}:∀(l:List α) (i:Nat) (h:i<l.length),(l[i]::l.eraseIdx i).Perm l
 |a::l,0,_=>List.Perm.refl _
 |a::l,i+1,h=>by
  have hi:i<l.length:=by rw[bb]at h;omega
  have ih:=qO l i hi;show(l[i]::a::l.eraseIdx i).Perm (a::l);exact(List.Perm.swap a _ _).trans (List.Perm.cons a ih)
def Oz:ax->Ab->Rz Bool:=fun ρ A=>aw ((az (aZ A ρ) 2).bind mL) A
def Nw:ax->Ab->Rz Out:=fun ρ A=>eJ (vh eQ (aw (az ρ 3) A) fun A=>b_ (vh zX (aw (az ρ 2) A) fun A=>b_ (uk (aL bz (ag (cG fi (az (aZ A ρ) 1) (cG jq (Rs.ok (Tr.int 7)) (aL ia (ag (az (aZ A ρ) 2) (Rs.ok []))))) (ag (Rs.ok (Tr.int 9533)) (ag (aL ia (ag (az (aZ A ρ) 2) (Rs.ok []))) (Rs.ok []))))) A) fun A=>Rz.ok [] A) fun A=>Rz.ok [] A) ρ
def Rk:ax->Ab->Rz Out:=fun ρ A=>bR (dj 2 (eD (aL yc (ag (az (aZ A ρ) 0) (Rs.ok []))) A) ρ) fun ρ A=>bR (dj 3 (eD (wL (Rs.ok [])) A) ρ) fun ρ A=>bR (dY Oz Nw 100 ρ A) fun ρ A=>jx (uk (aL fA (ag (az (aZ A ρ) 3) (Rs.ok []))) A)
theorem Jg:m9.1=Rk:=rfl
theorem Jh(c d:Int){T:Tr}{ls fs:List Mk}(h0:0<ls.length)(h1:ls.length<=20)(h2:fs.length<=100):
  ∃Nx zh:List Mk,Nw [.sh T,.sh (.int d),.sh (.at 0),.sh (.at 1)] [.lst (ls.map (b8 c)),.lst (fs.map (b8 c))]=.ok (.nx [.sh T,.sh (.int d),.sh (.at 0),.sh (.at 1)]) [.lst (Nx.map (b8 c)),.lst (zh.map (b8 c))]/\Nx.length+1=ls.length/\zh.length=fs.length+1/\(zh++Nx).Perm (fs++ls):=by
 have th:bq 5 [.lst (ls.map (b8 c)),.lst (fs.map (b8 c))] (.at 0)=.lst (ls.map (b8 c)):=mB c rfl 4;obtain⟨m0,m1⟩:=ug (c:=d+7*(ls.length:Int)) (p:=9533) (m:=(ls.length:Int)) (by omega);have hj:(mix (d+7*(ls.length:Int)) 9533 (ls.length:Int)).toNat<ls.length:=by omega
 refine⟨ls.eraseIdx (mix (d+7*(ls.length:Int)) 9533 (ls.length:Int)).toNat,fs++[ls[(mix (d+7*(ls.length:Int)) 9533 (ls.length:Int)).toNat]],?_,?_,by rw[ba];rfl,?_⟩
 ·have em:uk (aL bz (ag (cG fi (.ok (.int d)) (cG jq (Rs.ok (Tr.int 7)) (aL ia (ag (.ok (bq 5 [.lst (ls.map (b8 c)),.lst (fs.map (b8 c))] (.at 0))) (Rs.ok []))))) (ag (Rs.ok (Tr.int 9533)) (ag (aL ia (ag (.ok (bq 5 [.lst (ls.map (b8 c)),.lst (fs.map (b8 c))] (.at 0))) (Rs.ok []))) (Rs.ok []))))) [.lst (ls.map (b8 c)),.lst (fs.map (b8 c))]=.ok (.int (mix (d+7*(ls.length:Int)) 9533 (ls.length:Int))) [.lst (ls.map (b8 c)),.lst (fs.map (b8 c))]:=by
   rw[th];show uk (aL bz (ag (cG fi (.ok (.int d)) (jq (Tr.int 7) (.int ((ls.map (b8 c)).length:Int)))) (ag (Rs.ok (Tr.int 9533)) (ag (.ok (.int ((ls.map (b8 c)).length:Int))) (Rs.ok []))))) _=_;rw[ai,xy (.inl ⟨by decide,by decide⟩)];show uk (bz [.int (d+7*(ls.length:Int)),.int 9533,.int (ls.length:Int)]) _=_;rw[qK _ _ _ (by decide) (by decide) (by omega)]
   rfl
  have ep:zX 0 [.int (mix (d+7*(ls.length:Int)) 9533 (ls.length:Int))] [.lst (ls.map (b8 c)),.lst (fs.map (b8 c))]=.ok (b8 c ls[(mix (d+7*(ls.length:Int)) 9533 (ls.length:Int)).toNat]) [.lst ((ls.eraseIdx (mix (d+7*(ls.length:Int)) 9533 (ls.length:Int)).toNat).map (b8 c)),.lst (fs.map (b8 c))]:=by
   show(if-9223372036854775808<=mix (d+7*(ls.length:Int)) 9533 (ls.length:Int)/\mix (d+7*(ls.length:Int)) 9533 (ls.length:Int)<9223372036854775808 then
    (match seqIndex? (mix (d+7*(ls.length:Int)) 9533 (ls.length:Int)) (ls.map (b8 c)).length with
    |some j=>(match(ls.map (b8 c))[j]? with
     |some t=>Rz.ok t [Ao.lst ((ls.map (b8 c)).eraseIdx j),.lst (fs.map (b8 c))]
     |none=>Rz.bad)
    |none=>Rz.bad)else Rz.bad)=_
   rw[ab ⟨by omega,by omega⟩,ai,PySem.StrLaws.seqIndex_nonneg m0 m1];show(match(ls.map (b8 c))[(mix (d+7*(ls.length:Int)) 9533 (ls.length:Int)).toNat]? with
     |some t=>Rz.ok t [Ao.lst ((ls.map (b8 c)).eraseIdx (mix (d+7*(ls.length:Int)) 9533 (ls.length:Int)).toNat),.lst (fs.map (b8 c))]
     |none=>Rz.bad)=_
   rw[aS,aH hj,sH]
   rfl
  show eJ ((b_ ((b_ (uk (aL bz (ag (cG fi (.ok (.int d)) (cG jq (Rs.ok (Tr.int 7)) (aL ia (ag (.ok (bq 5 [.lst (ls.map (b8 c)),.lst (fs.map (b8 c))] (.at 0))) (Rs.ok []))))) (ag (Rs.ok (Tr.int 9533)) (ag (aL ia (ag (.ok (bq 5 [.lst (ls.map (b8 c)),.lst (fs.map (b8 c))] (.at 0))) (Rs.ok []))) (Rs.ok []))))) [.lst (ls.map (b8 c)),.lst (fs.map (b8 c))]) fun A=>Rz.ok [] A).bind fun ts A=>zX 0 ts A) fun A=>Rz.ok [] A).bind fun ts A=>eQ 1 ts A) _=_;rw[em];show eJ ((b_ (zX 0 [.int (mix (d+7*(ls.length:Int)) 9533 (ls.length:Int))] [.lst (ls.map (b8 c)),.lst (fs.map (b8 c))]) fun A=>Rz.ok [] A).bind fun ts A=>eQ 1 ts A) _=_;rw[ep];show eJ (if(fs.map (b8 c)).length<iE then Rz.ok Tr.bU [_,Ao.lst (fs.map (b8 c)++[b8 c ls[(mix (d+7*(ls.length:Int)) 9533 (ls.length:Int)).toNat]])]else .bad) _=_;rw[ab (by rw[ai];unfold iE;omega),cX]
  rfl
 ·rw[oq hj];omega
 ·rw[gw];refine List.Perm.append_left fs ?_
  exact qO _ _ hj
theorem zc(c d:Int){T:Tr}:∀(n k:Nat) (ls fs:List Mk),ls.length=k->k<n->k<=20->fs.length+k<=100->
  ∃zh:List Mk,dY Oz Nw n [.sh T,.sh (.int d),.sh (.at 0),.sh (.at 1)] [.lst (ls.map (b8 c)),.lst (fs.map (b8 c))]=.ok (.nx [.sh T,.sh (.int d),.sh (.at 0),.sh (.at 1)]) [.lst [],.lst (zh.map (b8 c))]/\zh.Perm (fs++ls)
 |0,k,ls,fs,_,hk,_,_=>by omega
 |n+1,k,ls,fs,hl,hk,h1,h2=>by
  have ec:Oz [.sh T,.sh (.int d),.sh (.at 0),.sh (.at 1)] [.lst (ls.map (b8 c)),.lst (fs.map (b8 c))]=.ok (!(ls.map (b8 c)).isEmpty) [.lst (ls.map (b8 c)),.lst (fs.map (b8 c))]:=by
   show aw ((Rs.ok (bq 5 [.lst (ls.map (b8 c)),.lst (fs.map (b8 c))] (.at 0))).bind mL) _=_;rw[mB c rfl]
   rfl
  rw[dY,ec]
  match ls,hl with
  |[],_=>exact⟨fs,rfl,by rw[dr]⟩
  |m::ls,hl=>
   obtain⟨Nx,zh,e,l1,l2,p⟩:=Jh c d (T:=T) (ls:=m::ls) (fs:=fs) (by rw[bb];omega) (by omega) (by omega);obtain⟨VE,e2,p2⟩:=zc c d (T:=T) n (k - 1) Nx zh (by omega) (by omega) (by omega) (by omega);refine⟨VE,?_,p2.trans p⟩;show(Nw [.sh T,.sh (.int d),.sh (.at 0),.sh (.at 1)] [.lst ((m::ls).map (b8 c)),.lst (fs.map (b8 c))]).bind _=_;rw[e];exact e2
theorem E1(c d:Int){ms:List Mk}(hl:ms.length<=20):∃ks:List Mk,fR [.lst (ms.map (b8 c)),.int d]=.ok (gm ks (AB c))/\ks.Perm ms:=by
 obtain⟨ks,e,p⟩:=zc c d (T:=.lst (ms.map (b8 c))) 100 ms.length ms [] rfl (by omega) hl (by rw[dt];omega);rw[ly]at p;refine⟨ks,?_,p⟩;have key:fR [.lst (ms.map (b8 c)),.int d]=eK (Rk [.sh (.lst (ms.map (b8 c))),.sh (.int d),.no,.no] []):=by
  rw[<-Jg];exact y_ rfl (by
   show(gn (.lst (ms.map (b8 c)))&&(true&&true))=true;rw[wj,qM];rfl)
 rw[key];unfold Rk;have e1:eD (aL yc (ag (az (aZ [] [.sh (.lst (ms.map (b8 c))),.sh (.int d),.no,.no]) 0) (Rs.ok []))) []=.ok (.at 0) [.lst (ms.map (b8 c))]:=by
  show(if fE (ms.map (b8 c))=true then Rz.ok (Tr.at 0) [Ao.lst (ms.map (b8 c))]else .bad)=_;rw[ab (qN c ms)]
 rw[e1,my];have e2:eD (wL (Rs.ok [])) [.lst (ms.map (b8 c))]=.ok (.at 1) [.lst (ms.map (b8 c)),.lst []]:=rfl;rw[e2,my];show eK (bR (dY Oz Nw 100 [.sh (.lst (ms.map (b8 c))),.sh (.int d),.sh (.at 0),.sh (.at 1)] [.lst (ms.map (b8 c)),.lst (([]:List Mk).map (b8 c))]) _)=_;rw[e];have th:bq 5 [Ao.lst [],.lst (ks.map (b8 c))] (.at 1)=.lst (ks.map (b8 c)):=mB c rfl 4;show eK (jx (uk (aL fA (ag (.ok (bq 5 [Ao.lst [],.lst (ks.map (b8 c))] (.at 1))) (Rs.ok []))) [Ao.lst [],.lst (ks.map (b8 c))]))=_;rw[th];have tf:vb (.tup (ks.map (b8 c)))=true:=by rw[vb];exact qN c ks
 show eK (jx (if vb (.tup (ks.map (b8 c)))=true then Rz.ok (.tup (ks.map (b8 c))) _ else .bad))=_;rw[ab tf];show(if gn (.tup (ks.map (b8 c)))=true then Rs.ok (Tr.tup (ks.map (b8 c)))else Rs.bad)=_;rw[ab (by rw[Dh];exact qM c _)]
 rfl
end qz
namespace qz
open PySem L2
def OA:ax->Ab->Rz Out:=fun ρ A=>um (aw (Bt ((aL (cw 5) (ag (aL mm (ag (az ρ 2) (ag (az ρ 3) (Rs.ok [])))) (ag (aL (cg 12) (ag (az ρ 2) (ag (az ρ 3) (Rs.ok [])))) (Rs.ok [])))).bind mL)) A) (fun A=>jx (aw (Rs.ok (Tr.bl false)) A)) fun A=>Rz.ok (Out.nx ρ) A
def SI(ρ:ax):Rs Tr:=aL fR (ag (aL dD (ag (cG fi (aL ie (ag (az ρ 0) (ag (az ρ 1) (Rs.ok [])))) (az ρ 1)) (ag (Rs.ok (Tr.int 9)) (Rs.ok [])))) (ag (cG fi (aL ie (ag (az ρ 0) (ag (Rs.ok (Tr.int 3)) (Rs.ok [])))) (az ρ 1)) (Rs.ok [])))
def E2(ρ:ax):Rs Tr:=aL qw (ag (iF [none,none,some 2] (gT [0,1]) (fun _=>Rs.ok true) (fun ρ=>gc (ag (aL (cg 12) (ag (az ρ 2) (ag (az ρ 0) (Rs.ok [])))) (ag (az ρ 0) (Rs.ok [])))) (jn (az ρ 2)) ρ) (Rs.ok []))
def E3(ρ:ax):Rs Tr:=aL fA (ag (iF [none] (gN 0) (fun _=>Rs.ok true) (fun ρ=>cG Hw (az ρ 0) (Rs.ok (Tr.int 1))) (jn (az ρ 5)) ρ) (Rs.ok []))
def Ji(ρ:ax)(A:Ab):Rz Out:=um (B5 (BZ ((b_ ((b_ (aw (az ρ 2) A) fun A=>Rz.ok [] A).bind gB) fun A=>b_ (aw (E3 ρ) A) fun A=>Rz.ok [] A).bind fun ts A=>aw (cw 5 ts) A))) (fun A=>jx (aw (Rs.ok (Tr.bl false)) A)) fun A=>Rz.ok (Out.nx ρ) A
def OB:ax->Ab->Rz Out:=fun ρ A=>bR (dj 2 (aw (SI ρ) A) ρ) fun ρ A=>bR (jy (gT [3,4]) OA (aw (jn (az ρ 2)) A) ρ) fun ρ A=>bR (dj 5 (aw (E2 ρ) A) ρ) fun ρ A=>Ji ρ A
def VF:ax->Ab->Rz Out:=fun ρ A=>bR (jy (gN 1) OB (aw (pO (ag (Rs.ok (Tr.int 3)) (Rs.ok []))) A) ρ) fun ρ A=>jx (z5 rP ((b_ (aw (gc (Rs.ok [])) A) fun A=>Rz.ok [] A).bind gB) fun A=>aw (gc (Rs.ok [])) A)
theorem Jj:yT.1=VF:=rfl
theorem F8{α:Type}{f g:α->Tr}{F:ax->Rs Tr}{xs:List Cell}:∀(l:List α) (c:Cell),(∀a∈l,F (.sh (f a)::xs)=.ok (g a))->mC (gN 0) (fun _=>.ok true) F (l.map f) (c::xs)=.ok (l.map g)
 |[],c,_=>rfl
 |a::l,c,h=>by
  rw[aB,mC];show(D3 (F (.sh (f a)::xs))).bind (fun y=>(mC (gN 0) (fun _=>.ok true) F (l.map f) (.sh (f a)::xs)).bind fun ys=>.ok (y::ys))=_;rw[h a (aK ..),F8 l _ fun b hb=>h b (aR _ hb)]
  rfl
theorem Di{u:Mk->Tr}{g:Mk->Tr}{F:ax->Rs Tr}{xs:List Cell}:∀(l:List Mk) (c d:Cell),(∀a∈l,F (.sh (tM a):: .sh (u a)::xs)=.ok (g a))->mC (gT [0,1]) (fun _=>.ok true) F (l.map fun a=>.tup [tM a,u a]) (c::d::xs)=.ok (l.map g)
 |[],c,d,_=>rfl
 |a::l,c,d,h=>by
  rw[aB,mC];show(D3 (F (.sh (tM a):: .sh (u a)::xs))).bind (fun y=>(mC (gT [0,1]) (fun _=>.ok true) F (l.map fun a=>.tup [tM a,u a]) (.sh (tM a):: .sh (u a)::xs)).bind fun ys=>.ok (y::ys))=_;rw[h a (aK ..),Di l _ _ fun b hb=>h b (aR _ hb)]
  rfl
section
variable {ks:List Mk}{bh:Mk->List Mk}{H:Mk->Nat}
theorem ze(K0:uq ks bh H)(Jk:∀m∈ks,H m<=12){a b f:Cell}:∀(ms:List Mk) (c d:Cell),(∀m∈ms,m∈ks)->
  ∃c' d',iN (gT [3,4]) OA (ms.map fun m=>.tup [tM m,tB bh m]) [a,b,.sh (gm ks bh),c,d,f] TB=.ok (.nx [a,b,.sh (gm ks bh),c',d',f]) TB
 |[],c,d,_=>⟨c,d,rfl⟩
 |m::ms,c,d,hm=>by
  have hk:=hm m (aK ..);have e:OA [a,b,.sh (gm ks bh),.sh (tM m),.sh (tB bh m),f] TB=.ok (.nx [a,b,.sh (gm ks bh),.sh (tM m),.sh (tB bh m),f]) TB:=by
   show um (aw (Bt ((aL (cw 5) (ag (mm [gm ks bh,tM m]) (ag (cg 12 [gm ks bh,tM m]) (Rs.ok [])))).bind mL)) TB) _ _=_;rw[C5 K0 hk,m_ K0 12 m hk (Jk m hk)];show um (aw (Bt ((cw 5 [.int (H m),.int (H m)]).bind mL)) TB) _ _=_;have s:cw 5 [.int (H m),.int (H m)]=.ok (.bl true):=same_int 4 _;rw[s]
   rfl
  obtain⟨c',d',e2⟩:=ze K0 Jk ms (.sh (tM m)) (.sh (tB bh m)) fun x hx=>hm x (aR _ hx);refine⟨c',d',?_⟩;rw[aB,v7 (ρ1:=[a,b,.sh (gm ks bh),.sh (tM m),.sh (tB bh m),f]) rfl e];exact e2
theorem Jl(K0:uq ks bh H)(Jk:∀m∈ks,H m<=12){a b c d f:Cell}:E2 [a,b,.sh (gm ks bh),c,d,f]=.ok (.lst ((gr H ks).map (tP H))):=by
 have kl:=K0.len;unfold E2;have e:iF [none,none,some 2] (gT [0,1]) (fun _=>Rs.ok true) (fun ρ=>gc (ag (aL (cg 12) (ag (az ρ 2) (ag (az ρ 0) (Rs.ok [])))) (ag (az ρ 0) (Rs.ok [])))) (jn (az [a,b,.sh (gm ks bh),c,d,f] 2)) [a,b,.sh (gm ks bh),c,d,f]=.ok (.lst (ks.map (tP H))):=by
  show(if(ks.map fun m=>Tr.tup [tM m,tB bh m]).length<=iE then(mC (gT [0,1]) _ _ (ks.map fun m=>.tup [tM m,tB bh m]) [.no,.no,.sh (gm ks bh)]).bind fun ys=>Rs.ok (Tr.lst ys)else .bad)=_;rw[ab (by rw[ai];unfold iE;omega),Di (g:=tP H) ks .no .no fun m hm=>?_]
  ·rfl
  ·show gc (ag (cg 12 [gm ks bh,tM m]) (ag (.ok (tM m)) (Rs.ok [])))=_;rw[m_ K0 12 m hm (Jk m hm)]
   rfl
 rw[e];show(if qT (ks.map (tP H))=true then Rs.ok (Tr.lst (cR (ks.map (tP H))))else .bad)=_;rw[ab (C9 K0.nd kl).1,y4]
theorem Jm{ms:List Mk}(hl:ms.length<=20){a b x c d:Cell}:E3 [a,b,x,c,d,.sh (.lst (ms.map (tP H)))]=.ok (.tup (ms.map tM)):=by
 unfold E3;have e:iF [none] (gN 0) (fun _=>Rs.ok true) (fun ρ=>cG Hw (az ρ 0) (Rs.ok (Tr.int 1))) (jn (az [a,b,x,c,d,.sh (.lst (ms.map (tP H)))] 5)) [a,b,x,c,d,.sh (.lst (ms.map (tP H)))]=.ok (.lst (ms.map tM)):=by
  show(if(ms.map (tP H)).length<=iE then(mC (gN 0) _ _ (ms.map (tP H)) [.no]).bind fun ys=>Rs.ok (Tr.lst ys)else .bad)=_;rw[ab (by rw[ai];unfold iE;omega),F8 (f:=tP H) (g:=tM) ms .no fun m hm=>?_]
  ·rfl
  ·rfl
 rw[e]
 rfl
theorem Jn(K0:uq ks bh H){a b c d:Cell}:Ji [a,b,.sh (gm ks bh),c,d,.sh (.lst ((gr H ks).map (tP H)))] TB=.ok (.nx [a,b,.sh (gm ks bh),c,d,.sh (.lst ((gr H ks).map (tP H)))]) TB:=by
 have ol:(gr H ks).length<=20:=by rw[wd];exact K0.len
 unfold Ji;show um (B5 (BZ ((b_ (gB [gm ks bh] TB) fun A=>b_ (aw (E3 [a,b,.sh (gm ks bh),c,d,.sh (.lst ((gr H ks).map (tP H)))]) A) fun A=>Rz.ok [] A).bind fun ts A=>aw (cw 5 ts) A))) _ _=_;rw[y6 K0,Jm ol];show um (B5 (BZ (aw (cw 5 [.tup ((gr H ks).map tM),.tup ((gr H ks).map tM)]) TB))) _ _=_;have s:cw 5 [.tup ((gr H ks).map tM),.tup ((gr H ks).map tM)]=.ok (.bl true):=xx 2 (by omega);rw[s]
 rfl
end
theorem xB(ns:List Int)(k:Int)(hk:0<=k){c2 c3 c4 c5:Cell}:∃d2 d3 d4 d5,OB [.sh (.j1 ns),.sh (.int k),c2,c3,c4,c5] TB=.ok (.nx [.sh (.j1 ns),.sh (.int k),d2,d3,d4,d5]) TB:=by
 obtain⟨x,ex⟩:=C_ ns k hk;obtain⟨y,ey⟩:=C_ ns 3 (by decide);obtain⟨n,hn,el⟩:=AD (x+k);obtain⟨ks,em,p⟩:=E1 (x+k) (y+k) (ms:=marks (x+k) n) (by rw[eR];omega);obtain⟨H,K0,Jk⟩:=bC hn p;have e1:SI [.sh (.j1 ns),.sh (.int k),c2,c3,c4,c5]=.ok (gm ks (AB (x+k))):=by
  show aL fR (ag (aL dD (ag (cG fi (ie [.j1 ns,.int k]) (.ok (.int k))) (ag (Rs.ok (Tr.int 9)) (Rs.ok [])))) (ag (cG fi (ie [.j1 ns,.int 3]) (.ok (.int k))) (Rs.ok [])))=_;rw[ex,ey];show aL fR (ag (dD [.int (x+k),.int 9]) (ag (.ok (.int (y+k))) (Rs.ok [])))=_;rw[el];exact em
 obtain⟨d3,d4,e2⟩:=ze K0 Jk (a:=.sh (.j1 ns)) (b:=.sh (.int k)) (f:=c5) ks c3 c4 fun _ h=>h;refine⟨.sh (gm ks (AB (x+k))),d3,d4,.sh (.lst ((gr H ks).map (tP H))),?_⟩;unfold OB;rw[e1];show bR (iN (gT [3,4]) OA (ks.map fun m=>.tup [tM m,tB (AB (x+k)) m]) [.sh (.j1 ns),.sh (.int k),.sh (gm ks (AB (x+k))),c3,c4,c5] TB) _=_;rw[e2];show bR (dj 5 (aw (E2 [.sh (.j1 ns),.sh (.int k),.sh (gm ks (AB (x+k))),d3,d4,c5]) TB) [.sh (.j1 ns),.sh (.int k),.sh (gm ks (AB (x+k))),d3,d4,c5]) _=_;rw[Jl K0 Jk];exact Jn K0
theorem Rl:uq [] (fun _=>[]) (fun _=>0):=⟨fU,by decide,fun _ h=>(by cases h),fun _ h=>(by cases h),fun _ h=>(by cases h),fun _ h=>(by cases h),fun _ h=>(by cases h),fun _ h=>(by cases h)⟩
theorem Ny(ns:List Int):sC [.j1 ns] TB=.ok (.bl true) TB:=by
 obtain⟨a2,a3,a4,a5,e0⟩:=xB ns 0 (by decide) (c2:=.no) (c3:=.no) (c4:=.no) (c5:=.no);obtain⟨b2,b3,b4,b5,e1⟩:=xB ns 1 (by decide) (c2:=a2) (c3:=a3) (c4:=a4) (c5:=a5);obtain⟨c2,c3,c4,c5,e2⟩:=xB ns 2 (by decide) (c2:=b2) (c3:=b3) (c4:=b4) (c5:=b5);have eo:gB [.tup []] TB=.ok (.tup []) TB:=by
  have h:=y6 Rl;have:gr (fun _=>0) []=[]:=by
   have:=wd (H:=fun _=>0) [];exact kU.mp this
  rw[this]at h;exact h
 show gj (yT.1 [.sh (.j1 ns),.no,.no,.no,.no,.no] TB)=_;rw[Jj];show gj (bR (iN (gN 1) OB [.int 0,.int 1,.int 2] [.sh (.j1 ns),.no,.no,.no,.no,.no] TB) fun ρ A=>jx (z5 rP ((b_ (aw (gc (Rs.ok [])) A) fun A=>Rz.ok [] A).bind gB) fun A=>aw (gc (Rs.ok [])) A))=_;rw[v7 (ρ1:=[.sh (.j1 ns),.sh (.int 0),.no,.no,.no,.no]) rfl e0,v7 (ρ1:=[.sh (.j1 ns),.sh (.int 1),a2,a3,a4,a5]) rfl e1,v7 (ρ1:=[.sh (.j1 ns),.sh (.int 2),b2,b3,b4,b5]) rfl e2];show gj (jx (z5 rP (gB [.tup []] TB) fun A=>aw (gc (Rs.ok [])) A))=_;rw[eo]
 rfl
end qz
namespace qz
open PySem L2
def O:JW:=⟨["all","bool","dict","int","isinstance","len","list","max","range","set","sorted","str","tuple","zip"],[],[],[],[],[],[],[],[]⟩
set_option maxHeartbeats 8000000 in
theorem all_mk{l:PySem.W.OpenLaw}{w:World}{K:PySem.W.Frag}{h:Heap}{mg:Str->Option Value}{fa tc tP:Addr}(X:K.In h)(G:h.Ns mainGlobals mg)(VG:mg "law"=some (.ref fa))
  (c1:DS.map (Df.fd K)=DS.map (fun d=>d.re (d.fd K))) (c2:DS.all (Df.F4 K)=true) (c3:O.F4 K=true) (t1:PySem.W.tabIn K "order"=some (tc,tP)) (t2:As K tc tP=true)
  :∃fd:FuncData,(∀(s:Shared) (v:Value),BindsTo s fd ⟨[v],[]⟩ [("_law_script",v)])/\∀base:Heap,K.In base->base.Ns mainGlobals mg->fg l.prog w K mg base (n_ l.prog w) 14 fa fd ["_law_script"] (tO K sC):=by
 have o:=O.ok X G c3;have T:ES K w mg tc tP:=⟨fun i d e=>CV X G c1 c2 d (bu e),o.bl rfl,o.bl rfl,o.bl rfl,o.bl rfl,o.bl rfl,o.bl rfl,o.bl rfl,o.bl rfl,o.bl rfl,o.bl rfl,o.bl rfl,o.bl rfl,o.bl rfl,o.bl rfl,⟨t1,t2⟩⟩;cases VG.symm.trans ((T.d 10 rfl:qC.Ok K mg).m0 rfl);obtain⟨oc,od,kV,doc,pm,an,cE,ct,xK,e9,_,_⟩:=(T.d 10 rfl:qC.Ok K mg).fn.ex;exact⟨_,fun s v=>by rw[e9];exact .of_eq rfl,fun base _ _=>(Ni T).ok⟩
theorem Jo{K:PySem.W.Frag}{H:Hp}{E:XK}{a tc tP:Addr}{ns:List Int}(t1:PySem.W.tabIn K "order"=some (tc,tP))(hT:H tP=some (.uh #[.str "order.<locals>.<lambda>" 0])) (hS:g8 K H a (ns.map V.int)):tO K sC [.ref a] H (fun v _=>v=.bl true) E:=by
 let B:bD:=⟨fun b=>b==tP,fun b=>if b=tP then some 0 else none⟩
 have yN:g8 K (aN B H).H a (ns.map V.int):=by
  rcases hS with h|h
  ·refine .inl ?_
   have eC:a≠tP:=fun z=>by
    subst z;rcases h with h|⟨o,h⟩
    ·rw[hT]at h;cases h
    ·rw[hT]at h;cases h
   have e:(aN B H).H a=H a:=by
    show(if(a==tP)=true then none else H a)=_;rw[ae (by simpa using eC)]
   rcases h with h|⟨o,h⟩
   ·exact .inl (by rw[e];exact h)
   ·exact .inr ⟨o,by rw[e];exact h⟩
  ·exact .inr h
 refine⟨B,TB,[.j1 ns],⟨fun b e=>?_,fun i o e=>?_,fun a b i h1 h2=>?_,fun a i h=>?_⟩,.cons (.j1 yN) .nil,?_⟩
 ·have e:b=tP:=by simpa[B]using e
  subst e;exact⟨_,hT,fun vs z=>by cases z⟩
 ·match i,e with
  |0,e=>
   cases e;exact⟨tP,ab rfl,br _,⟨tc,t1⟩,hT⟩
  |i+1,e=>cases e
 ·have h1:(if a=tP then some 0 else none)=some i:=h1;have h2:(if b=tP then some 0 else none)=some i:=h2;split at h1
  ·split at h2
   ·rename_i x y;rw[x,y]
   ·cases h2
  ·cases h1
 ·have h:(if a=tP then some 0 else none)=some i:=h;split at h
  ·cases h;exact Nat.zero_lt_one
  ·cases h
 ·rw[Ny ns];exact fun v B' H' _ _ r=>r.sT
theorem walk{l:PySem.W.OpenLaw}{q:Program}{loose:List Str}{XP:(Str->Option Value)->Heap->Prop}{YP:World->Heap->Prop}{d:DefRec}{K:Params->PySem.W.Frag}{tc tP:Addr}(hn:l.most=some 63)(KC:d.params.defaults=[])
  (hY:∀(w:World) (h:Heap),YP w h->(K w.params).In h) (hP:∀(w:World) (h:Heap),YP w h->h.get? tP=some (PySem.W.tabObj #[])) (GY:∀w:World,(K w.params).lookup tP=none) (t1:∀w:World,PySem.W.tabIn (K w.params) "order"=some (tc,tP)) (t2:∀w:World,As (K w.params) tc tP=true)
  (F:∀(w:World) (mg:Str->Option Value) (fa:Addr) (h:Heap),(K w.params).In h->h.Ns mainGlobals mg->mg d.name=some (.ref fa)->
   ∃fd:FuncData,(∀(s:Shared) (u:Value),BindsTo s fd ⟨[u],[]⟩ [("_law_script",u)])/\∀base:Heap,(K w.params).In base->base.Ns mainGlobals mg->fg l.prog w (K w.params) mg base (n_ l.prog w) 14 fa fd ["_law_script"] (tO (K w.params) sC)):
  PySem.W.WalkO q loose XP YP l.row.toRowW d [] (fun f vs=>PySem.call f vs):=
 L2.DP (n:=63) (k:=14) (x:="_law_script") (tc:=tc) (tP:=tP) (tq:="order.<locals>.<lambda>") (CX:=fun w=>n_ l.prog w) (sp:=fun w=>tO (K w.params) sC) hn (by decide) KC ⟨rfl,by decide,by decide⟩ hY (fun w h Y=>CI (hY w h Y) (t2 w)) hP GY F (fun w _ a ns hl hT hS=>Jo (t1 w) hT hS) fun _ _ _ _ _ ⟨_,_,_,_,_,_,_,_,_,z⟩=>z
end qz
open PySem PySem.W PyProof.Rows
set_option maxRecDepth 100000 in
set_option maxHeartbeats 0 in
theorem PySem.Challenge.cw_talkhall_k31_heights_and_order_holds : PySem.Challenge.rw_talkhall_k31_heights_and_order.Holds := by
 w_on;o_law;k_head;(case hw=>w_witness2)
 k_fill
 refine qz.walk (l:=PySem.Challenge.rw_talkhall_k31_heights_and_order) (tc:=37) rfl rfl (fun w h Y=>PySem.W.km_in_of Y) (fun w h Y=>PySem.W.km_tabs_of Y _ (cz.mpr rfl)) ?GY ?t1 ?t2 ?F
 case t1=>intro w;kernel_rfl
 case t2=>intro w;first|k_is|kernel_rfl
 case GY=>intro w;first|k_is|kernel_rfl
 case F=>
  intro w mg fa h KX G KD
  refine' qz.all_mk (tc:=37) (tP:=33) KX G KD ?_ ?_ ?_ ?_ ?_
  all_goals first|k_is|kernel_rfl|skip
