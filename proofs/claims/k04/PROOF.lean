import PyProof.Rows.All
import Wide.All
import OpenK.AllK
import Wide.FinOn
import Lean
import PyProof.EqAt
import PyProof.EqKinds
import PyProof.TupleCall
import PyProof.ExcArgsOwn
import PyProof.AttrMissSeq
import KE.KMinKey
import KE.KBoundM
import KE.KSortTup
import KE.KItemsList
import PyProof.SeqI3
import PySem.Challenge.RW_talkhall_k04_people_and_rooms
set_option Elab.async false
set_option linter.all false
set_option maxRecDepth 100000
set_option bootstrap.genMatcherCode false
set_option genSizeOf false
set_option maxHeartbeats 4000000
def af:=@PySem.wpAny_bind
def bb:=@List.getElem?_eq_getElem
def aX:=@PySem.Heap.get?_push_of_some
def aC:=@List.length_map
def ar:=@PySem.wpAny_pure
def aE:=@List.mem_cons
def bg:=@List.getElem?_map
def aO:=@List.map_cons
def bI:=@List.mem_cons_of_mem
def aN:=@Nat.le_refl
def aF:=@PySem.Heap.lt_size
def a_:=@List.not_mem_nil
def bE:=@PySem.Heap.get?_push_size
def ag:=@if_pos
def bf:=@Bool.and_eq_true
def bA:=@beq_self_eq_true
def bR:=@List.mem_cons_self
def bW:=@List.set_cons_succ
def bX:=@List.set_cons_zero
def ak:=@if_neg
def bc:=@Nat.ne_of_lt
def b_:=@List.size_toArray
def bS:=@List.lookup_cons
def cn:=@Nat.lt_of_lt_of_le
def dg:=@List.getD_eq_getElem?_getD
def cu:=@Bool.false_eq_true
def cH:=@List.mem_append_right
def cD:=@List.length_append
def cF:=@List.mem_singleton
def cV:=@List.mem_of_getElem?
def bJ:=@Nat.le_trans
def cG:=@List.length_cons
def bT:=@List.map_map
def cc:=@List.mem_map
def eR:=@List.getElem?_eq_some_iff
def cO:=@List.all_eq_true
def ba:=@or_false
def cP:=@List.map_append
def dk:=@of_decide_eq_true
def bw:=@if_false
def cW:=@Option.map_some
def eV:=@List.contains_iff_mem
def d9:=@Bool.false_ne_true
def g6:=@List.getElem?_eq_none_iff
def eW:=@Array.length_toList
def cJ:=@Nat.ne_of_gt
def dC:=@List.mem_append
def fD:=@PySem.Around.under_plainId
def cQ:=@Nat.le_of_lt
def bB:=@if_true
def g7:=@PySem.Str.length_append
def dD:=@PySem.W.kia_one
def fE:=@List.map_congr_left
def fF:=@List.mem_map_of_mem
def dm:=@Nat.lt_irrefl
def d_:=@decide_eq_false
def iS:=@List.filter_cons_of_neg
def cR:=@PySem.sizeLine_eq
def ee:=@PySem.codeAny_builtin
def gi:=@Option.isSome_some
def dh:=@Nat.zero_le
def cw:=@congrArg
def dO:=@PySem.wpAny_holding
def fG:=@PySem.wpAny_call_entry
def jS:=@List.filter_cons_of_pos
def iT:=@List.mem_append_left
def fH:=@List.nodup_cons
def dQ:=@List.map_nil
def cX:=@PySem.wpAny_mono
def g8:=@PySem.wpAny_setField_rec
def eX:=@Bool.not_true
def gj:=@List.mem_filter
def gm:=@List.nil_append
def jT:=@PySem.W.hideAll_none
def fI:=@PySem.wpAny_seqItems
def g9:=@List.cons_append
def lU:=@PySem.F.plain_min_loop
def jU:=@beq_eq_false_iff_ne
def jV:=@PySem.mem_of_lookup
def fJ:=@PySem.plainId_quiet
def lV:=@PySem.Calls.callWith_builtin
def lW:=@PySem.Heap.get?_update_other
def lX:=@Array.getElem?_toList
def jW:=@List.mem_filterMap
def dR:=@beq_iff_eq
def gn:=@List.all_cons
def g_:=@decide_eq_true
def oW:=@PySem.F.plainAttrs_dict
def jX:=@Nat.lt_succ_of_lt
def jY:=@Int.toNat_natCast
def iU:=@List.append_nil
def iV:=@List.find?_cons
def iW:=@beq_false_of_ne
def lY:=@PySem.Calls.evalArgs_plain
def lZ:=@List.replicate_succ
def eY:=@PySem.wpAny_field
def hJ:=@List.any_cons
def oX:=@PySem.wpAny_callSpecial?_slot
def iX:=@Bool.not_false
def l0:=@Option.isSome_none
def kP:=@PySem.F.slot_dict_get
def m7:=@List.getElem?_append_left
def kQ:=@List.getElem?_set_ne
def jo:=@PySem.Calls.spliced_cons
def jq:=@decide_eq_true_eq
def kR:=@PySem.W.hideAll_get
def jr:=@PySem.wpAny_newObj_type
def js:=@PySem.wpAny_setState_of
def jt:=@List.getElem_mem
def m8:=@PySem.F.slot_list_append
def dY:=@PySem.wpAny_rule
def kS:=@PySem.W.of_hideAll
def m9:=@List.getElem?_set_self
def m_:=@PySem.W.funFrames_hide
def ik:=@PySem.Heap.size_push
def ju:=@List.length_set
def kT:=@List.flatten_cons
def kU:=@Option.isSome_map
def kW:=@List.getElem?_set
def gq:=@PySem.codeAny_mono
def kX:=@PySem.wpAny_Call_Name_kw
def kY:=@PySem.tupleKind_room_in1
def kZ:=@Nat.succ_ne_self
def k_:=@PySem.wpAny_pyIter_list
def qH:=@List.drop_eq_getElem_cons
def nc:=@List.filterMap_cons
def ng:=@PySem.W.plainGet_of
def nh:=@List.filter_eq_self
def qI:=@PySem.F.slot_tuple_iterator_next
def jv:=@PySem.wpAny_tryCatch
def qJ:=@PySem.F.type_list_append
def il:=@PySem.call_meetsIn
def ip:=@PySem.F.called_set
def qK:=@List.getElem?_replicate
def qL:=@PySem.F.plainAttrs_list
def qM:=@PySem.F.plain_list_iadd
def nj:=@PySem.Heap.SameBut.update
def qN:=@PySem.F.entry_dict_get
def nk:=@List.ext_getElem?
def lh:=@PySem.wpAny_ite_split
def qO:=@List.length_filter_le
def qP:=@PySem.F.slot_dict_pop
def nq:=@Nat.lt_succ_self
def nu:=@Nat.le_add_right
def lj:=@Bool.false_or
def nv:=@PySem.wpAny_truthy_bool
def ny:=@PySem.Calls.spliced_nil
def jw:=@List.map_id
def qQ:=@Array.toArray_toList
def nz:=@List.forIn_cons
def nA:=@List.filter_map
def nC:=@Option.map_none
def qR:=@PySem.Heap.get?_update_self
def qS:=@List.length_pos_iff
def u0:=@PyProof.Rows.callWith_type1
def nD:=@PySem.wpAny_isInstance
def u3:=@List.getElem?_append_right
def qT:=@Nat.lt_of_le_of_lt
def qU:=@Bool.true_eq_false
def nE:=@PySem.wpAny_passesOwn
def nF:=@PySem.wpAny_updateSeq
def qV:=@PySem.W.kitx_dict
def u4:=@PyProof.Rows.slot_tuple_getitem
def qW:=@bne_self_eq_false
def qX:=@List.length_range
def qY:=@List.filter_congr
def u5:=@Option.isSome_iff_exists
def u6:=@PySem.F.slot_tuple_index
def u7:=@PySem.Calls.Name_function_global
def jx:=@PySem.call_meets
def qZ:=@List.filter_cons
def q_:=@Option.getD_some
def ra:=@List.drop_length
def nG:=@List.all_map
def u9:=@Nat.le_of_succ_le_succ
def u_:=@PySem.F.entry_min_loop
def rb:=@List.of_mem_zip
def rf:=@PySem.wpAny_Call_method
def rg:=@PySem.W.kia_tup
def ll:=@PySem.wpAny_letGo
def vc:=@List.length_replicate
def nH:=@PySem.wpAny_newList
def vd:=@PySem.F.slot_list_getattribute
def rh:=@List.mem_range
def nJ:=@Nat.le_succ
def ri:=@PySem.wpAny_execs_nil
def rj:=@Bool.or_false
def rn:=@PySem.PassesOwn.never
def rq:=@PySem.F.slot_zip_next
def rA:=@Bool.true_and
def ve:=@PySem.W.callWith_K
def vf:=@PySem.builtinLookup_eq_fast
def vg:=@PySem.F.typeOf_object_class
def Au:=@List.findIdx?_eq_some_iff_getElem
def rB:=@PySem.W.looks_findIn
def vh:=@PySem.W.kitx_list
def vi:=@List.append_assoc
def vj:=@PySem.codeAny_call_builtin
def lp:=@PySem.W.Looks.ld
def vk:=@Nat.le_of_lt_succ
def vm:=@PyProof.Rows.F.plain_set_update_loop
def iq:=@not_or
def vn:=@decide_eq_decide
def rD:=@PySem.wpAny_attempt
def nK:=@PySem.wpAny_load
def nL:=@PySem.wpAny_call
def vo:=@List.length_nil
def vp:=@Nat.not_lt_zero
def vq:=@Int.emod_nonneg
def Av:=@PySem.F.plain_proto_collect
def vt:=@Bool.and_false
def Aw:=@List.length_eraseIdx_of_lt
def vv:=@PySem.fits_of_scanBound
def rE:=@PySem.wpAny_typeOf
def vx:=@List.forIn_nil
def Ax:=@PySem.F.excBase_ValueError
namespace HT
open PySem PyProof.Rows
section
open PySem.SeqAt
open PySem.AutoSeq1 (wpAny_loadPart')
open PySem.MeetsSeq PySem.MeetsSeq2 PySem.MeetsSeq3
end
section
variable {prog:Program}{w:World}{A:Around}{E:Value->Shared->Prop}{s:Shared}
theorem K9{t b:Addr}{vs ws:List Value}{Q:Value->Shared->Prop}(ht:IsTup s.heap t vs.toArray)(hb:IsTup s.heap b ws.toArray)(hv:vs≠[])
  (h1:ws=[]->Q (.ref t) s) (h2:ws≠[]->Q (.ref s.heap.objs.size) {s with heap:=s.heap.push {cls:=.type "tuple",data:=.seq (vs++ws).toArray}})
  (hsz:vs.length+ws.length<=sizeLine):wpAny (model prog w) A (binaryOp .Add (.ref t) (.ref b)) Q E s:=by
 obtain⟨⟨cls,dd,data,sl⟩,ho,hc,n,hd⟩:=id ht;obtain⟨⟨aaD,Sw,data2,W5⟩,W6,W7,n2,hd2⟩:=id hb;simp only at hc hd W7 hd2;subst hc hd W7 hd2;have e:vs.toArray++ws.toArray=(vs++ws).toArray:=by simp
 by_cases hw:ws=[]
 ·exact concat_meets ⟨_,ho,rfl⟩ ⟨_,W6,rfl⟩ noFill_tuple_add seq_tuple_add PySem.F.slot_tuple_add PySem.F.entry_tuple_add (PySem.F.args_tuple_add_2 _ _)
   (tuple_addW1 t b vs.toArray ws.toArray n n2 dd Sw sl W5 (by simpa using hv) (by simp[hw])) ⟨ho,W6,h1 hw⟩
 ·refine concat_meets ⟨_,ho,rfl⟩ ⟨_,W6,rfl⟩ noFill_tuple_add seq_tuple_add PySem.F.slot_tuple_add PySem.F.entry_tuple_add (PySem.F.args_tuple_add_2 _ _)
   (tuple_addW2 t b vs.toArray ws.toArray n n2 dd Sw sl W5 (by simpa using hv) (by simpa using hw) (by rw[List.size_toArray,List.size_toArray];exact hsz)) ⟨ho,W6,?_⟩
  rw[e];exact h2 hw
def fK(n d:Nat):Option Int->Nat
 |none=>d
 |some v=>if v<0 then(v+(n:Int)).toNat else min v.toNat n
theorem OI(n d:Nat)(hd:d<=n)(o:Option Int):fK n d o<=n:=by
 cases o with
 |none=>exact hd
 |some v=>
  show(if v<0 then(v+(n:Int)).toNat else min v.toNat n)<=n;by_cases hv:v<0
  ·rw[if_pos hv];omega
  ·rw[if_neg hv];exact Nat.min_le_right _ _
theorem DZ(v:Int)(n d:Nat):(if v<0 then max (v+(n:Int)) 0 else min v (n:Int))=((fK n d (some v):Nat):Int):=by
 show(if v<0 then max (v+(n:Int)) 0 else min v (n:Int))=(((if v<0 then(v+(n:Int)).toNat else min v.toNat n):Nat):Int);by_cases hv:v<0
 ·simp only[if_pos hv];omega
 ·simp only[if_neg hv];omega
theorem Cv(lo hi:Option Int)(n:Nat):Builtin.Slice.sliceAdjust lo hi 1 (n:Int)=(((fK n 0 lo:Nat):Int),((fK n n hi:Nat):Int)):=by
 have h1:¬((1:Int)<0):=by omega
 unfold Builtin.Slice.sliceAdjust;simp only[h1,if_false];refine Prod.ext ?_ ?_
 ·cases lo with
  |none=>rfl
  |some v=>exact DZ v n 0
 ·cases hi with
  |none=>rfl
  |some v=>exact DZ v n n
theorem Cw(i j:Nat):Builtin.Slice.slicePlaces (i:Int) (j:Int) 1=j - i:=by
 unfold Builtin.Slice.slicePlaces;have h1:(1:Int)>0:=by omega
 simp only[h1,if_true,Int.ediv_one];split<;>omega
theorem vy{v:Value}{o:Option Int}{Q:Option Int->Shared->Prop}(p:IsPart v o)(h:Q o s):wpAny (model prog w) A (Builtin.Slice.slicePartIndex v) Q E s:=by
 cases p with
 |none=>exact slicePart_none h
 |int i t=>exact slicePart_int h
theorem lq{sl:Addr}{vl vu:Value}{lo hi:Option Int}{n:Nat}{Q:Int×Int×Nat->Shared->Prop}(hs:s.heap.IsSliceOf sl vl vu .none)(pl:IsPart vl lo)(pu:IsPart vu hi)
  (h:Q (((fK n 0 lo:Nat):Int),1,fK n n hi - fK n 0 lo) s):wpAny (model prog w) A (Builtin.Slice.sliceApplied (.ref sl) (pure (n:Int))) Q E s:=by
 obtain⟨os,OJ,W8,S7⟩:=id hs;unfold Builtin.Slice.sliceApplied Builtin.Slice.sliceFields;refine wpAny_bind (wpAny_bind (wpAny_field OJ S7 (x:=vl) rfl (wpAny_bind (wpAny_field OJ S7 (x:=vu) rfl (wpAny_bind (wpAny_field OJ S7 (x:=.none) rfl (wpAny_pure ?_)))))));refine wpAny_bind (slicePart_none ?_);show wpAny _ _ (if((1:Int)==0)=true then _ else _) _ _ s;rw[if_neg (by decide)];refine wpAny_bind (vy pl (wpAny_bind (vy pu (wpAny_bind (wpAny_pure ?_)))));show wpAny _ _ (match Builtin.Slice.sliceAdjust lo hi 1 (n:Int)with|(lo,hi)=>pure (lo,(1:Int),Builtin.Slice.slicePlaces lo hi 1)) _ _ s;rw[Cv lo hi n];show wpAny _ _ (pure (((fK n 0 lo:Nat):Int),(1:Int),Builtin.Slice.slicePlaces ((fK n 0 lo:Nat):Int) ((fK n n hi:Nat):Int) 1)) _ _ s;rw[Cw];exact wpAny_pure h
theorem Hq(xs:Array Value)(i k:Nat):((List.range k).filterMap fun(m:Nat)=>xs[((i:Int)+(m:Int)*1).toNat]?).toArray=((xs.toList.drop i).take k).toArray:=by
 have e:(fun(m:Nat)=>xs[((i:Int)+(m:Int)*1).toNat]?)=fun m=>xs[i+m]? :=by
  funext m;have:((i:Int)+(m:Int)*1).toNat=i+m:=by omega
  rw[this]
 rw[e];have:=pick_run xs i k;rw[List.filterMap_map]at this;have e2:((fun x=>xs[x]?)∘fun x=>i+x)=fun m=>xs[i+m]? :=rfl
 rw[e2]at this;rw[this]
theorem rG{t sl:Addr}{a8:Array Value}{vl vu:Value}{lo hi:Option Int}{Q:Value->Shared->Prop}(ht:IsTup s.heap t a8)(hs:s.heap.IsSliceOf sl vl vu .none)(pl:IsPart vl lo)(pu:IsPart vu hi)
  (hw:¬(fK a8.size 0 lo=0/\fK a8.size a8.size hi=a8.size))
  (h:Q (.ref s.heap.objs.size) {s with heap:=s.heap.push {cls:=.type "tuple",data:=.seq ((a8.toList.drop (fK a8.size 0 lo)).take (fK a8.size a8.size hi - fK a8.size 0 lo)).toArray}})
  (hsz:a8.size<=sizeLine):wpAny (model prog w) A (getItem (.ref t) (.ref sl)) Q E s:=by
 have D0:sizeOk (.seq ((a8.toList.drop (fK a8.size 0 lo)).take (fK a8.size a8.size hi - fK a8.size 0 lo)).toArray):=by
  show((a8.toList.drop (fK a8.size 0 lo)).take (fK a8.size a8.size hi - fK a8.size 0 lo)).toArray.size<=sizeLine;rw[List.size_toArray,List.length_take,List.length_drop,Array.length_toList];omega
 have hj:fK a8.size a8.size hi<=a8.size:=OI _ _ (Nat.le_refl _) hi;obtain⟨os,OJ,W8,S7⟩:=id hs;have XX:s.TypeIs (.ref sl) "slice":=⟨os,OJ,W8⟩;unfold getItem
 try with_reducible refine wpAny_holding ?_
 first|refine wpAny_bind (wpAny_pure ?_)|skip
 refine wpAny_bind (wpAny_sequenceKey ht.typeIs (by decide) ?_);refine wpAny_bind (wpAny_callSpecial?_slot (name:=Str.ofString "__getitem__") ht.typeIs PyProof.Rows.slot_tuple_getitem
  (wpAny_call_entry PyProof.Rows.slot_tuple_getitem ht.typeIs entry_tuple_getitem ?_ (args_tuple_getitem _ _)))
 show wpAny _ _ (Builtin.Tuple.tupleItemsOf (.ref t)>>=_) _ _ s;refine wpAny_bind (tupleItemsOf_ ht ?_);refine wpAny_bind (wpAny_typeOf XX ?_);rw[if_pos (by decide)];refine wpAny_bind (lq hs pl pu ?_);have Hr:¬((((fK a8.size 0 lo:Nat):Int)==0&&(1:Int)==1&&(fK a8.size a8.size hi - fK a8.size 0 lo)==a8.size)=true):=by
  intro q;rw[Bool.and_eq_true,Bool.and_eq_true]at q;have q1:((fK a8.size 0 lo:Nat):Int)=0:=eq_of_beq q.1.1;have q2:fK a8.size a8.size hi - fK a8.size 0 lo=a8.size:=eq_of_beq q.2;exact hw ⟨by omega,by omega⟩
 show wpAny _ _ (if(((fK a8.size 0 lo:Nat):Int)==0&&(1:Int)==1&&(fK a8.size a8.size hi - fK a8.size 0 lo)==a8.size)=true then _ else _) _ _ s;rw[if_neg Hr,Hq]
 first
  |exact wpAny_bind (m:=Builtin.Tuple.tupleExact _) (wpAny_newObj_type (wpAny_pure ⟨_,rfl,wpAny_pure h⟩) D0)
  |exact wpAny_bind (m:=Builtin.Tuple.tupleExact _) (wpAny_newObj_type (wpAny_bind (wpAny_pure (wpAny_pure ⟨_,rfl,wpAny_pure h⟩))) D0)
  |exact wpAny_bind (wpAny_bind (m:=Builtin.Tuple.tupleExact _) (wpAny_newObj_type (wpAny_pure (wpAny_pure ⟨_,rfl,wpAny_pure h⟩)) D0))
  |exact wpAny_bind (wpAny_bind (m:=Builtin.Tuple.tupleExact _) (wpAny_newObj_type (wpAny_pure ⟨_,rfl,wpAny_pure h⟩) D0))
end
end HT
namespace Att
open PySem PySem.W PySem.Calls PyProof.Rows
theorem ux{P:Params}{h:Heap}:∀(ns:List Int) (vs:List Value),WellAll P h vs (ns.map WData.int)->IntsAre vs ns:=by
 intro ns
 induction ns with
 |nil=>
  intro vs w;rw[List.map_nil]at w;cases w;exact .nil
 |cons n ns ih=>
  intro vs w;rw[List.map_cons]at w;cases w with
  |cons a b=>
   cases a;exact .cons _ _ (ih _ b)
theorem FH{l:OpenLaw}{n:Nat}(hn:l.most=some n){P:Params}{h:Heap}{args:List WData}{vals:List Value}
  (K_:l.row.toRowW.claim.pre args=true) (XY:WellAll P h vals args):
  ∃a vs ns,vals=[Value.ref a]/\args=[WData.list (ns.map WData.int)]/\h.get? a=some {cls:=.type "list",data:=.seq vs.toArray}/\IntsAre vs ns/\ns.length<=n:=by
 have XZ:WShape.hasAll [] args [.list .int]=true:=(pre_splitW K_).1;have hc:l.pre.holds [] {args:=args}=true:=(pre_splitW K_).2;obtain⟨d,r,rfl,h1,h2⟩:=hasAllW_cons XZ;obtain rfl:=hasAllW_nil h2;obtain⟨xs,rfl,h3⟩:=hasW_list h1;obtain⟨ns,rfl⟩:=items_int h3;have b7:ns.length<=n:=by
  unfold OpenLaw.pre at hc;have h4:(WTm.not (.lt (.lit (.int (n:Int))) (.len (.arg 0)))).holds [] {args:=[.list (ns.map .int)]}=true:=by
   have h4:=(holds_andW hc).1;rw[hn]at h4;exact h4
  have h5:=condW_of h4 (w_not (w_lt w_lit (w_len_list (w_arg rfl))));rw[List.length_map]at h5;refine Nat.le_of_not_lt fun q=>?_
  have q':(n:Int)<((ns.length:Nat):Int):=by omega
  first
   |(rw[decide_eq_true q']at h5;exact absurd h5 (by decide))
   |(simp at h5;omega)
 cases XY with
 |cons w1 w2=>
  cases w2;cases w1 with
  |list ho sV=>exact⟨_,_,ns,rfl,rfl,ho,ux ns _ sV,b7⟩
theorem FI(l:OpenLaw)(args:List WData):l.row.toRowW.claim.post args (.bool true) args=true:=
 postW_of (r:=l.row.toRowW) (X:=(true==true))
  (show WShape.has [] (.bool true) .bool=true by first|rfl|decide|simp[WShape.has,WShape.arms,WShape.armsAll])
  (show(WTm.eq .res (.lit (.bool true))).value [] {args:=args,res:=some (.bool true),after:=args}=some (.bool (true==true))from w_eq_bool (w_res rfl) w_lit) rfl
theorem Ay{l:OpenLaw}{n:Nat}{q:Program}{loose:List Str}{XP:(Str->Option Value)->Heap->Prop}{YP:World->Heap->Prop}{d:DefRec}
  (hn:l.most=some n) (S8:d.params.defaults=[])
  (call:∀(w:World) (eZ cy:Shared) (mg mb:Str->Option Value) (fa:Addr) (o:Obj) (pm cd doc:Value) (a:Addr) (vs:List Value) (ns:List Int),
   Ground q loose [] XP w eZ mg mb cy.heap->YP w cy.heap->
   cy.heap.get? fa=some o->o.data=.func (docDef d.name d.params d.body d.scope pm cd doc)->cy.heap.CodeRec cd d.name->mg d.name=some (.ref fa)->
   cy.heap.get? a=some {cls:=.type "list",data:=.seq vs.toArray}->IntsAre vs ns->ns.length<=n->cy.gens=#[]->
   codeAny (model l.prog w) callerA (.call (.ref fa) ⟨[.ref a],[]⟩) (fun r s'=>r=.ok (.ret (.bool true))/\OldK cy.heap s'.heap/\s'.os=cy.os/\AllBare s'.gens) cy):
  WalkO q loose XP YP l.row.toRowW d [] (fun f vs=>PySem.call f vs):=by
 intro w eZ cy mg mb G ρ fa o pm cd doc dV kV ho hd Cy hD S9 hg args vals as K_ aaE hrd XY hlo;obtain rfl:dV=.none:=Dflts.none hD S8;obtain rfl:kV=.none:=Dflts.noKw hD;obtain⟨a,vs,ns,rfl,rfl,OK,hints,b7⟩:=FH hn K_ XY;refine enter_call (codeAny_mono (call w eZ cy mg mb fa o pm cd doc a vs ns G ρ ho (fd_plain hd) Cy S9 OK hints b7 hg) fun r s' hq=>?_);obtain⟨rfl,h2,h3,h4⟩:=hq;exact⟨.inl ⟨.bool true,.bool true,[],rfl,fun _=>rfl,.bool true,FI l _,fun _=>⟨List.Pairwise.nil,fun _ hm=>(nomatch hm)⟩⟩,h2,h3,h4⟩
end Att
namespace PySem
abbrev W9(h:Heap)(l1:Addr):Heap:=h.push {cls:=.type "tuple_iterator",data:=.fields #[.ref l1,.int 0 0]}
abbrev W_(h:Heap)(l1 l2:Addr):Heap:=(W9 h l1).push {cls:=.type "tuple_iterator",data:=.fields #[.ref l2,.int 0 0]}
abbrev Xa(h:Heap)(l1 l2:Addr):Heap:=(W_ h l1 l2).push {cls:=.type "tuple",data:=.seq #[.ref h.objs.size,.ref (W9 h l1).objs.size]}
abbrev Xb(h:Heap)(l1 l2:Addr):Heap:=(Xa h l1 l2).push {cls:=.type "tuple",data:=.seq #[.none,.none]}
abbrev Sx(h:Heap)(l1 l2:Addr):Heap:=(Xb h l1 l2).push {cls:=.type "zip",data:=.fields #[.none,.bool false,.bool false,.ref (W_ h l1 l2).objs.size,.ref (Xa h l1 l2).objs.size]}
theorem Cz(l1 l2:Addr)(xs ys:Array Value):Meets (Builtin.«zip.__new__» ⟨[.type "zip",.ref l1,.ref l2],[]⟩)
  (fun _ R s=>s.heap.IsTuple l1 xs/\s.heap.IsTuple l2 ys/\R (.ok (.ret (.ref (Xb s.heap l1 l2).objs.size))) {s with heap:=Sx s.heap l1 l2}):=
 .of_wp fun prog w A R s h=>by
  obtain⟨hp,g,d,tk,os⟩:=s;obtain⟨Hi,K',h⟩:=h;have OL:=sub_zip;have S_:Heap.IsTuple (Shared.heap ⟨hp,g,d,tk,os⟩) l1 xs:=Hi;have hL2:Heap.IsTuple (Shared.heap ⟨hp.push {cls:=.type "tuple_iterator",data:=.fields #[.ref l1,.int 0 0]},g,d,tk,os⟩) l2 ys:=K'.at fun o e=>Heap.get?_push_of_some _ e
  wp_walk using wpAny_pyIter_tuple S_,wpAny_pyIter_tuple hL2
  exact⟨_,rfl,h⟩
section
variable {prog:Program}{w:World}{A:Around}{E:Value->Shared->Prop}{s:Shared}
theorem FJ{l1 l2:Addr}{xs ys:Array Value}{Q:Value->Shared->Prop}(Hi:s.heap.IsTuple l1 xs)(K':s.heap.IsTuple l2 ys)
  (h:∀h',IsZip h' (s.heap.objs.size+4) (s.heap.objs.size+2) (s.heap.objs.size+3) .none->IsPair h' (s.heap.objs.size+2) (.ref s.heap.objs.size) (.ref (s.heap.objs.size+1))->
   IsPair h' (s.heap.objs.size+3) .none .none->h'.IsTupleIter s.heap.objs.size l1 0->h'.IsTupleIter (s.heap.objs.size+1) l2 0->(∀c o,s.heap.get? c=some o->h'.get? c=some o)->Q (.ref (s.heap.objs.size+4)) {s with heap:=h'}):
  wpAny (model prog w) A (call (.type "zip") [.ref l1,.ref l2]) Q E s:=by
 refine callType_new F.called_zip (by decide) (F.typeCall_zip_2 _ _) (F.newCall_zip_2 _ _) (fun obj=>F.args_object_init_3 obj _ _) F.entry_zip_new (Cz l1 l2 xs ys) ⟨Hi,K',?_⟩;have z1:(W9 s.heap l1).objs.size=s.heap.objs.size+1:=Heap.size_push ..;have z2:(W_ s.heap l1 l2).objs.size=s.heap.objs.size+2:=by rw[Heap.size_push,z1]
 have z3:(Xa s.heap l1 l2).objs.size=s.heap.objs.size+3:=by rw[Heap.size_push,z2]
 have z4:(Xb s.heap l1 l2).objs.size=s.heap.objs.size+4:=by rw[Heap.size_push,z3]
 have up:∀{h:Heap} {c:Addr} {o o':Obj},h.get? c=some o->(h.push o').get? c=some o:=fun e=>Heap.get?_push_of_some _ e;have g5:(Sx s.heap l1 l2).get? (Xb s.heap l1 l2).objs.size=some _:=Heap.get?_push_size _ rfl;have g4:(Sx s.heap l1 l2).get? (Xa s.heap l1 l2).objs.size=some _:=up (Heap.get?_push_size _ rfl);have g3:(Sx s.heap l1 l2).get? (W_ s.heap l1 l2).objs.size=some _:=up (up (Heap.get?_push_size _ rfl));have g2:(Sx s.heap l1 l2).get? (W9 s.heap l1).objs.size=some _:=up (up (up (Heap.get?_push_size _ rfl)));have g1:(Sx s.heap l1 l2).get? s.heap.objs.size=some _:=up (up (up (up (Heap.get?_push_size _ rfl))));show _/\_;rw[z2,z3,z4]at g5;rw[z1,z2]at g3;rw[z3]at g4;rw[z1]at g2;rw[z4];exact⟨⟨_,g5,rfl⟩,h _ g5 g3 g4 ⟨_,g1,rfl,rfl⟩ ⟨_,g2,rfl,rfl⟩ fun c o x=>up (up (up (up (up x))))⟩
end
end PySem
namespace PySem.SeqAt
open PySem PySem.Spec PySem.Calls PyProof.Rows PySem.MeetsSeq
theorem FK{M:Model}{A:Around}{E:Value->Shared->Prop}{s:Shared}{β:Type}(f:Nat->β->Sem (ForInStep β))(I:List Nat->β->Shared->Prop)(Q:β->Shared->Prop)
  (turn:∀x c7 b s,I (x::c7) b s->wpAny M A (f x b) (fun r s'=>match r with|.yield b'=>I c7 b' s'|.done b'=>Q b' s') E s)
  (fin:∀b s,I [] b s->Q b s) (n:Nat) (b:β) (h:I (List.range' 0 n) b s):wpAny M A (forIn [:n] b f) Q E s:=by
 rw[Std.Legacy.Range.forIn_eq_forIn_range'];simp only[Std.Legacy.Range.size,Nat.sub_zero,Nat.add_sub_cancel,Nat.div_one];exact wpAny_forIn_list f I Q turn fin _ b h
theorem xy(l:Addr)(a8:Array Value)(n:Nat)(dd:Option Addr)(sl:Array (Option Value))(x:Value)(e:Value->Bool)(j:Nat)(hj:j<a8.size)(hit:e a8[j]=true)(Hr:∀m (hm:m<a8.size),m<j->e a8[m]=false):
  Meets (Builtin.«tuple.index» ⟨[.ref l,x],[]⟩)
   (fun A R s=>s.heap.get? l=some {cls:=.type "tuple",dict:=dd,data:=.seq a8 n,slots:=sl}/\(∀y,y∈a8->EqAt A.in1 s y x (e y))/\R (.ok (.ret (.int j s.toks))) {s with toks:=s.toks+1}):=
 .of_wp fun prog w A R s h=>by
  obtain⟨hp,g,d,tk,os⟩:=s;obtain⟨hl,he,h⟩:=h
  wp_walk using wpAny_loadPart' hl,FK _ (fun c7 (b:Option _×Unit) s'=>b.1=none/\s'=⟨hp,g,d,tk,os⟩/\∃i,c7=List.range' i (a8.size - i)/\i<=j) _
  case turn=>
   rintro y c7 b s' ⟨hb,rfl,i,hr,hi⟩
   have fR:i<a8.size:=Nat.lt_of_le_of_lt hi hj;obtain⟨rfl,Ta⟩:y=i/\c7=List.range' (i+1) (a8.size - (i+1)):=by
    have e:a8.size - i=(a8.size - (i+1))+1:=by omega
    rw[e,List.range'_succ]at hr;injection hr with h1 h2
    exact⟨h1,h2⟩
   rw[Array.getElem?_eq_getElem fR];refine wpAny_bind (he _ (Array.getElem_mem fR) prog w _ _ ?_);by_cases z:y=j
   ·subst z;rw[hit]
    wp_walk
    exact⟨_,rfl,h⟩
   ·rw[Hr y fR (by omega)]
    wp_walk
    exact⟨rfl,rfl,y+1,Ta,by omega⟩
  case fin=>
   rintro b s' ⟨hb,rfl,i,hr,hi⟩
   have e:a8.size - i=(a8.size - (i+1))+1:=by omega
   rw[e,List.range'_succ]at hr;exact nomatch hr
  case h=>exact⟨rfl,rfl,0,by rw[Nat.min_self,Nat.sub_zero],Nat.zero_le _⟩
end PySem.SeqAt
namespace HT
open PySem PyProof.Rows
section
variable {prog:Program}{w:World}{A:Around}{E:Value->Shared->Prop}{s:Shared}
theorem pG{t sl:Addr}{a8:Array Value}{vl vu:Value}{lo hi:Option Int}{Q:Value->Shared->Prop}(ht:IsTup s.heap t a8)(hs:s.heap.IsSliceOf sl vl vu .none)(pl:IsPart vl lo)(pu:IsPart vu hi)
  (hw:fK a8.size 0 lo=0/\fK a8.size a8.size hi=a8.size) (h:Q (.ref t) s):wpAny (model prog w) A (getItem (.ref t) (.ref sl)) Q E s:=by
 obtain⟨os,OJ,W8,S7⟩:=id hs;have XX:s.TypeIs (.ref sl) "slice":=⟨os,OJ,W8⟩;unfold getItem
 try with_reducible refine wpAny_holding ?_
 first|refine wpAny_bind (wpAny_pure ?_)|skip
 refine wpAny_bind (wpAny_sequenceKey ht.typeIs (by decide) ?_);refine wpAny_bind (wpAny_callSpecial?_slot (name:=Str.ofString "__getitem__") ht.typeIs PyProof.Rows.slot_tuple_getitem
  (wpAny_call_entry PyProof.Rows.slot_tuple_getitem ht.typeIs entry_tuple_getitem ?_ (args_tuple_getitem _ _)))
 show wpAny _ _ (Builtin.Tuple.tupleItemsOf (.ref t)>>=_) _ _ s;refine wpAny_bind (tupleItemsOf_ ht ?_);refine wpAny_bind (wpAny_typeOf XX ?_);rw[if_pos (by decide)];refine wpAny_bind (lq hs pl pu ?_);have X0:((((fK a8.size 0 lo:Nat):Int)==0&&(1:Int)==1&&(fK a8.size a8.size hi - fK a8.size 0 lo)==a8.size)=true):=by
  rw[hw.1,hw.2];simp
 show wpAny _ _ (if(((fK a8.size 0 lo:Nat):Int)==0&&(1:Int)==1&&(fK a8.size a8.size hi - fK a8.size 0 lo)==a8.size)=true then _ else _) _ _ s;rw[if_pos X0];refine wpAny_bind (m:=Builtin.Tuple.tupleIsExact (.ref t)) ?_
 show wpAny _ _ (typeOf (.ref t)>>=_) _ _ s;refine wpAny_bind (wpAny_typeOf ht.typeIs (wpAny_pure ?_));rw[if_pos (by decide)];exact wpAny_bind (wpAny_rule (wpAny_pure ⟨_,rfl,wpAny_pure h⟩))
end
end HT
namespace L2
open PySem.W (Frag)
open PySem PySem.Spec PyProof.Rows
variable {K:Frag}{U:List (Addr×Obj)}{pos p b6:Pos}{E Q:Value->Shared->Prop}{es:List Expr}{e o:Expr}{s:Shared}{a:Addr}{x:Str}{w:World}{A:Around}{mg:Str->Option Value}{i:Nat}{P:Program}{ps:List Str}
theorem fe{p:Prop}(h:False):p:=h.elim
abbrev Db(x:Str):Prop:=(x==("__debug__":Str))=false
abbrev rH(pos b6:Pos)(o:Expr)(m:Str)(es:List Expr)(env:Env)(pl:Sem Bool):Sem Value:=do
 let ov<-eval o env
 standAt b6.atName
 let(f,first)<-holding [ov] (getMethod ov m pl)
 callWith pos f first (backTo pos (starEach es env)) (backToKw pos (keywordEach [] env))
abbrev Key:=Sum Int Str
def lr:Key->Value->Bool
 |.inl k,v=>Value.isInt k v
 |.inr x,v=>Value.isStrOf x v
def X1(w:World):Key->Int
 |.inl k=>hashInt k
 |.inr x=>hashStr w x
theorem cM:∀{k:Key} {v:Value},lr k v=true->(∃i t,k=Sum.inl i/\v=Value.int i t)\/(∃x t,k=Sum.inr x/\v=Value.str x t)
 |.inl i,v,h=>by
  obtain⟨t,e⟩:=Value.isInt_shape (k:=i) (v:=v) h;exact .inl ⟨i,t,rfl,e⟩
 |.inr x,v,h=>by
  obtain⟨t,e⟩:=Value.isStrOf_shape (x:=x) (v:=v) h;exact .inr ⟨x,t,rfl,e⟩
theorem FL(i:Int)(t:Tok):lr (.inl i) (.int i t)=true:=by simp[lr,Value.isInt]
theorem FN(x:Str)(t:Tok):lr (.inr x) (.str x t)=true:=by simp[lr,Value.isStrOf]
theorem OM(a b:Int):decide ((Sum.inl a:Key)=Sum.inl b)=(a==b):=by
 by_cases e:a=b
 ·subst e;simp
 ·have h:¬(Sum.inl a:Key)=Sum.inl b:=fun q=>e (Sum.inl.inj q);rw[d_ h];exact(jU.mpr e).symm
theorem ON(a b:Str):decide ((Sum.inr a:Key)=Sum.inr b)=decide (a=b):=by
 by_cases e:a=b
 ·subst e;simp
 ·have h:¬(Sum.inr a:Key)=Sum.inr b:=fun q=>e (Sum.inr.inj q);rw[d_ h,d_ e]
theorem OO(a:Int)(b:Str):decide ((Sum.inl a:Key)=Sum.inr b)=false:=d_ (fun q=>nomatch q)
theorem OP(a:Str)(b:Int):decide ((Sum.inr a:Key)=Sum.inl b)=false:=d_ (fun q=>nomatch q)
def bx(prog:Program)(w:World):PySem.KeyKind prog w Key where
 is:=lr
 hash:=X1 w
 inj:=fun v a b ha hb=>by
  rcases cM ha with⟨i,t,rfl,rfl⟩|⟨x,t,rfl,rfl⟩
  ·rcases cM hb with⟨j,u,rfl,e⟩|⟨y,u,rfl,e⟩
   ·injection e with e1 _;rw[e1]
   ·exact nomatch e
  ·rcases cM hb with⟨j,u,rfl,e⟩|⟨y,u,rfl,e⟩
   ·exact nomatch e
   ·injection e with e1 _;rw[e1]
 byValue:=fun k v h=>by
  rcases cM h with⟨i,t,rfl,rfl⟩|⟨x,t,rfl,rfl⟩<;>rfl
 pyHash:=fun hv h=>by
  rcases cM hv with⟨i,t,rfl,rfl⟩|⟨x,t,rfl,rfl⟩
  ·exact wpAny_pyHash_int h
  ·exact wpAny_pyHash_str h
 eqBool:=fun hu hv h=>by
  rcases cM hu with⟨i,t,rfl,rfl⟩|⟨x,t,rfl,rfl⟩
  ·rcases cM hv with⟨j,u,rfl,rfl⟩|⟨y,u,rfl,rfl⟩
   ·rw[OM]at h;exact wpAny_eqBool_int h
   ·rw[OO]at h;exact SeqAt.EqAt.int_str i t y u _ _ _ _ h
  ·rcases cM hv with⟨j,u,rfl,rfl⟩|⟨y,u,rfl,rfl⟩
   ·rw[OP]at h;exact SeqAt.EqAt.str_int x t j u _ _ _ _ h
   ·rw[ON]at h;exact wpAny_eqBool_str h
 «strs»:=fun k x t v h=>by
  rcases cM h with⟨i,u,rfl,e⟩|⟨y,u,rfl,e⟩
  ·exact nomatch e
  ·injection e with e1 _
   subst e1;cases v<;>rfl
theorem Az(prog:Program)(w:World)(i:Int)(t:Tok):(bx prog w).is (.inl i) (.int i t)=true:=FL i t
theorem AA(prog:Program)(w:World)(x:Str)(t:Tok):(bx prog w).is (.inr x) (.str x t)=true:=FN x t
inductive V where
 |bK|bl (b:Bool)|int (i:Int)|str (x:Str)|NJ (b:Array UInt8)|La (b:UInt64)|ref (a:Addr)|ty (n:String)
 deriving DecidableEq
def RelV:V->Value->Prop
 |.bK,u=>u=Value.none
 |.bl b,u=>u=Value.bool b
 |.int i,u=>∃t,u=Value.int i t
 |.str x,u=>∃t,u=Value.str x t
 |.NJ b,u=>∃t,u=Value.bytes b t
 |.La b,u=>∃t,u=Value.float b t
 |.ref a,u=>u=Value.ref a
 |.ty n,u=>u=Value.type n
abbrev Vals:List V->List Value->Prop:=Paired RelV
theorem Vals.length {xs:List V}{us:List Value}(r:Vals xs us):xs.length=us.length:=Paired.length r
theorem Vals.get:∀{xs:List V} {us:List Value} {i:Nat} {x:V},Vals xs us->xs[i]?=some x->∃u,us[i]?=some u/\RelV x u
 |_,_,_,_,.nil,e=>by simp at e
 |_,_,0,_,.cons r _,e=>by simp at e;subst e;exact⟨_,rfl,r⟩
 |_,_,i+1,x,.cons _ t,e=>by
  obtain⟨u,h1,h2⟩:=Vals.get (i:=i) (x:=x) t (by simpa using e);exact⟨u,by simpa using h1,h2⟩
theorem Vals.set {x:V}{u:Value}(r:RelV x u):∀{xs:List V} {us:List Value} (i:Nat),Vals xs us->Vals (xs.set i x) (us.set i u)
 |_,_,_,.nil=>.nil
 |_,_,0,.cons _ t=>.cons r t
 |_,_,i+1,.cons q t=>.cons q (Vals.set r i t)
theorem Vals.append:∀{xs ys:List V} {us ws:List Value},Vals xs us->Vals ys ws->Vals (xs++ys) (us++ws)
 |_,_,_,_,.nil,s=>s
 |_,_,_,_,.cons r t,s=>.cons r (Vals.append t s)
theorem Vals.take:∀{xs:List V} {us:List Value} (n:Nat),Vals xs us->Vals (xs.take n) (us.take n)
 |_,_,0,_=>.nil
 |_,_,_+1,.nil=>.nil
 |_,_,n+1,.cons r t=>.cons r (Vals.take n t)
theorem Vals.drop:∀{xs:List V} {us:List Value} (n:Nat),Vals xs us->Vals (xs.drop n) (us.drop n)
 |_,_,0,r=>r
 |_,_,_+1,.nil=>.nil
 |_,_,n+1,.cons _ t=>Vals.drop n t
def km:Option V->Option Value->Prop
 |some v,some u=>RelV v u
 |none,none=>True
 |_,_=>False
def KV{κ:Type}:List (κ×V)->List (κ×Value)->Prop:=Paired fun(p:κ×V) (q:κ×Value)=>p.1=q.1/\RelV p.2 q.2
def kV:Key->V
 |.inl i=>.int i
 |.inr x=>.str x
inductive HO where
 |lst (xs:List V)
 |tup (xs:List V)
 |dK (kvs:List (Key×V))|dT (kvs:List (List Key×V))
 |set (S:Int->Bool) (n:Nat)
 |ins (C dx:Addr) (fs:List (Str×V))
 |own (x:Addr)
 |xd (fs:List (Str×V))
 |met (f x:Addr)
 |Xc (lo hi:Int)
 |jO (o:Obj) (u:HO)
 |NK (ps:Array Value)
 |ext (φ:Heap->Prop)
abbrev Hp:=Addr->Option HO
variable {H:Hp}
def upd(H:Hp)(a:Addr)(o:HO):Hp:=fun b=>if b=a then some o else H b
theorem aU{o:HO}:upd H a o a=some o:=by unfold upd;rw[ag rfl]
theorem ay{b:Addr}{o:HO}(h:b≠a):upd H a o b=H b:=by unfold upd;rw[ak h]
theorem Tb{b:Addr}{o u:HO}(h:H a=some o)(h':H b=some u)(d:o≠u):a≠b:=by
 intro e;subst e;rw[h]at h';exact d (Option.some.inj h')
theorem aY{b:Addr}{o:HO}(h:H a=some o)(h':H b=none):a≠b:=by
 intro e;subst e;rw[h]at h';cases h'
section
variable (P:Program)(w:World)
def ck(H:Hp)(h:Heap)(a:Addr):HO->Prop
 |.lst xs=>xs.length<=sizeLine/\∃(bz:List Value) (n:Nat),Vals xs bz/\h.get? a=some {cls:=.type "list",data:=.seq bz.toArray n}
 |.tup xs=>xs.length<=sizeLine/\∃bz:List Value,Vals xs bz/\IsTup h a bz.toArray
 |.dK kvs=>kvs.length<=sizeLine/\(a==sysModules)=false/\∃vs,KV kvs vs/\h.DictOf (bx P w) a vs
 |.dT kvs=>kvs.length<=sizeLine/\(a==sysModules)=false/\∃xs:List (List Key×Addr×Value),
   Paired (fun(p:List Key×V) (q:List Key×Addr×Value)=>p.1=q.1/\H q.2.1=some (.tup (p.1.map kV))/\RelV p.2 q.2.2) kvs xs/\
   ∃o es ep,h.get? a=some o/\o.ExactDict/\o.data=.dict es ep/\es.toList=xs.map (entryOfKey (tupleKind (bx P w)))/\(xs.map (·.1)).Nodup
 |.set S n=>h.SetOf (intKind P w) a S n
 |.ins C dx fs=>H dx=some (.own a)/\fs.length<=1000/\dx≠a/\h.get? a=some (PySem.W.instObj C dx)/\
   ∃mA,h.Ns1 dx mA/\(∀f,km (fs.lookup f) (mA f))/\PySem.Within mA (fs.map (·.1))
 |.own _=>∃o,h.get? a=some o
 |.xd fs=>∃mA,h.Ns1 a mA/\∀f,km (fs.lookup f) (mA f)
 |.Xc lo hi=>∃t u v,h.get? a=some {cls:=.type "range",data:=.fields #[.int lo t,.int hi u,.int 1 v]}
 |.jO o u=>h.get? a=some o/\ck H h a u
 |.NK ps=>h.get? a=some {cls:=.none,data:=.fields ps}
 |.met f x=>h.get? a=some (PySem.W.methodObj (.ref f) (.ref x))
 |.ext φ=>φ h/\(∃o,h.get? a=some o)/\∀h1 h2:Heap,φ h1->(∀o,h1.get? a=some o->h2.get? a=some o)->φ h2
def p5(H:Hp)(h:Heap):Prop:=∀a o,H a=some o->ck P w H h a o
end
section
variable {H':Hp}{h h':Heap}{o:HO}
theorem ck.lt (x:ck P w H h a o):a<h.objs.size:=by
 cases o with
 |lst xs=>obtain⟨_,_,_,_,e⟩:=x;exact aF e
 |tup xs=>obtain⟨_,_,_,p⟩:=x;exact p.lt
 |dK kvs=>obtain⟨_,_,_,_,o,_,_,e,_⟩:=x;exact aF e
 |dT kvs=>obtain⟨_,_,_,_,o,_,_,e,_⟩:=x;exact aF e
 |set S n=>obtain⟨o,_,_,_,e,_⟩:=x;exact aF e
 |ins C dx fs=>obtain⟨_,_,_,e,_⟩:=x;exact aF e
 |own y=>obtain⟨_,e⟩:=x;exact aF e
 |xd fs=>obtain⟨_,⟨_,_,_,e,_⟩,_⟩:=x;exact aF e
 |Xc lo hi=>obtain⟨_,_,_,e⟩:=x;exact aF e
 |jO ob u=>obtain⟨e,_⟩:=x;exact aF e
 |NK ps=>exact aF (show h.get? a=some _ from x)
 |met f y=>exact aF (show h.get? a=some _ from x)
 |ext φ=>obtain⟨_,⟨_,e⟩,_⟩:=x;exact aF e
theorem Paired.OQ {α β:Type}{F G:α->β->Prop}:∀{Td:List α} {yZ:List β},Paired F Td yZ->(∀a b,F a b->G a b)->Paired G Td yZ
 |_,_,.nil,_=>.nil
 |_,_,.cons r t,f=>.cons (f _ _ r) (Paired.OQ t f)
theorem ck.nM (x:ck P w H h a o)(k:∀b u,(b=a\/H b=some (.own a))->h.get? b=some u->h'.get? b=some u)
  (ho:∀b,H b=some (.own a)->H' b=some (.own a)) (ht:∀b xs,H b=some (.tup xs)->H' b=some (.tup xs)):ck P w H' h' a o:=by
 induction o with
 |lst xs=>obtain⟨z,bz,n,r,e⟩:=x;exact⟨z,bz,n,r,k _ _ (.inl rfl) e⟩
 |tup xs=>obtain⟨z,bz,r,ob,e,c⟩:=x;exact⟨z,bz,r,ob,k _ _ (.inl rfl) e,c⟩
 |dK kvs=>obtain⟨z,y,vs,r,ob,es,ep,e,c⟩:=x;exact⟨z,y,vs,r,ob,es,ep,k _ _ (.inl rfl) e,c⟩
 |dT kvs=>
  obtain⟨z,y,xs,r,ob,es,ep,e,c⟩:=x;exact⟨z,y,xs,Paired.OQ r fun p q z=>⟨z.1,ht _ _ z.2.1,z.2.2⟩,ob,es,ep,k _ _ (.inl rfl) e,c⟩
 |set S n=>obtain⟨ob,es,ep,t,e,c⟩:=x;exact⟨ob,es,ep,t,k _ _ (.inl rfl) e,c⟩
 |ins C dx fs=>
  obtain⟨d,z,ne,e,mA,⟨od,es,ep,e2,c⟩,r⟩:=x;exact⟨ho _ d,z,ne,k _ _ (.inl rfl) e,mA,⟨od,es,ep,k _ _ (.inr d) e2,c⟩,r⟩
 |own y=>obtain⟨ob,e⟩:=x;exact⟨ob,k _ _ (.inl rfl) e⟩
 |xd fs=>obtain⟨mA,⟨od,es,ep,e,c⟩,r⟩:=x;exact⟨mA,⟨od,es,ep,k _ _ (.inl rfl) e,c⟩,r⟩
 |Xc lo hi=>obtain⟨t,u,v,e⟩:=x;exact⟨t,u,v,k _ _ (.inl rfl) e⟩
 |jO ob u ih=>obtain⟨e,q⟩:=x;exact⟨k _ _ (.inl rfl) e,ih q⟩
 |NK ps=>
  have e:h.get? a=some {cls:=.none,data:=.fields ps}:=x;show h'.get? a=some {cls:=.none,data:=.fields ps};exact k a _ (.inl rfl) e
 |met f y=>
  have e:h.get? a=some (PySem.W.methodObj (.ref f) (.ref y)):=x;show h'.get? a=some (PySem.W.methodObj (.ref f) (.ref y));exact k a _ (.inl rfl) e
 |ext φ=>obtain⟨p,⟨o,e⟩,st⟩:=x;exact⟨st _ _ p fun o q=>k _ _ (.inl rfl) q,⟨o,k _ _ (.inl rfl) e⟩,st⟩
theorem p5.lt (x:p5 P w H h)(e:H a=some o):a<h.objs.size:=(x a o e).lt
theorem p5.fresh (x:p5 P w H h)(e:h.objs.size<=a):H a=none:=by
 cases q:H a with
 |none=>rfl
 |some u=>exact absurd (cn (x.lt q) e) (dm _)
theorem p5.kept (x:p5 P w H h)(k:∀b u,h.get? b=some u->h'.get? b=some u):p5 P w H h':=fun a o e=>
 (x a o e).nM (fun b u _ q=>k b u q) (fun _ q=>q) fun _ _ q=>q
theorem p5.laid (x:p5 P w H h)(k:∀b u,h.get? b=some u->h'.get? b=some u)(hp:h.objs.size<=a)(new:ck P w (upd H a o) h' a o):p5 P w (upd H a o) h':=fun b u e=>by
 have hn:=x.fresh hp;by_cases hb:b=a
 ·subst hb;rw[aU]at e;cases e;exact new
 ·rw[ay hb]at e;exact(x b u e).nM (fun c v _ q=>k c v q) (fun c q=>by rw[ay (aY q hn)];exact q) fun c xs q=>by rw[ay (aY q hn)];exact q
end
def Rd(H:Hp)(a:Addr)(u:HO):Prop:=H a=some u\/∃o,H a=some (.jO o u)
theorem Rd.ok {h:Heap}{u:HO}(r:Rd H a u)(x:p5 P w H h):ck P w H h a u:=by
 rcases r with r|⟨o,r⟩
 ·exact x a u r
 ·obtain⟨_,q⟩:=x a _ r;exact q
def Te:Option HO->Prop
 |some (.lst _)=>True
 |some (.dK _)=>True
 |some (.dT _)=>True
 |some (.set _ _)=>True
 |some (.ins _ _ _)=>True
 |some (.ext _)=>True
 |_=>False
section
variable {h h':Heap}{x e:Addr}{o':HO}
theorem p5.write (ok:p5 P w H h)(mu:Te (H x))(he:e=x\/H e=some (.own x))(k:∀b u,b≠e->h.get? b=some u->h'.get? b=some u)(Sy:∃u,h'.get? e=some u)
  (new:ck P w (upd H x o') h' x o'):p5 P w (upd H x o') h':=fun b u q=>by
 have Tf:∀c y,H c=some (.own y)->c≠x:=fun c y r z=>by subst z;rw[r]at mu;exact mu
 have X2:∀c xs,H c=some (.tup xs)->c≠x:=fun c xs r z=>by subst z;rw[r]at mu;exact mu
 by_cases hb:b=x
 ·subst hb;rw[aU]at q;cases q;exact new
 ·rw[ay hb]at q;by_cases OR:b=e
  ·have q':H b=some (.own x):=by
    rcases he with z|z
    ·exact absurd (OR.trans z) hb
    ·rw[OR];exact z
   rw[q]at q';cases q';obtain⟨v,hv⟩:=Sy;exact⟨v,by rw[OR];exact hv⟩
  ·refine(ok b u q).nM (fun c v hc r=>k c v ?_ r) (fun c r=>by rw[ay (Tf c b r)];exact r) fun c xs r=>by rw[ay (X2 c xs r)];exact r
   rcases hc with rfl|hc
   ·exact OR
   ·rintro rfl
    rcases he with z|z
    ·exact Tf c b hc z
    ·rw[hc]at z;cases z;exact hb rfl
end
structure Un(fs ex:List Addr)(H H':Hp)(h h':Heap):Prop where
 keep:∀b o,h.get? b=some o->H b=none->b∉fs->b∉ex->h'.get? b=some o
 slot:∀b o,h.get? b=some o->H b=none->b∈fs->b∉ex->∃sl,h'.get? b=some {o with slots:=sl}
 free:∀b o,h.get? b=some o->H b=none->b∉ex->H' b=none
 there:∀b o,h.get? b=some o->b∉ex->∃o',h'.get? b=some o'
 jy:∀b xs,H b=some (.tup xs)->H' b=some (.tup xs)
 jP:∀b o u,H b=some (.jO o u)->H' b=some (.jO o u)
 l9:∀b ps,H b=some (.NK ps)->∃more,H' b=some (.NK (ps++more))
section
variable {fs fs' ex ex':List Addr}{H1 H2:Hp}{h h1 h2 h':Heap}{x e:Addr}{o:HO}
theorem Un.any (u:Un fs ex H H1 h h1){b:Addr}{ob:Obj}(q:h.get? b=some ob)(n:H b=none)(hx:b∉ex):∃sl,h1.get? b=some {ob with slots:=sl}:=by
 by_cases hb:b∈fs
 ·exact u.slot b ob q n hb hx
 ·exact⟨ob.slots,u.keep b ob q n hb hx⟩
theorem Un.trans (a:Un fs ex H H1 h h1)(b:Un fs ex H1 H2 h1 h2):Un fs ex H H2 h h2 where
 keep:=fun c ob q n hc hx=>b.keep c ob (a.keep c ob q n hc hx) (a.free c ob q n hx) hc hx
 slot:=fun c ob q n hc hx=>by
  obtain⟨sl,e1⟩:=a.slot c ob q n hc hx;obtain⟨Tg,e2⟩:=b.slot c _ e1 (a.free c ob q n hx) hc hx;exact⟨Tg,e2⟩
 free:=fun c ob q n hx=>by
  obtain⟨o',e1⟩:=a.there c ob q hx;exact b.free c o' e1 (a.free c ob q n hx) hx
 there:=fun c ob q hx=>by
  obtain⟨o',e1⟩:=a.there c ob q hx;exact b.there c o' e1 hx
 jy:=fun c xs q=>b.jy c xs (a.jy c xs q)
 jP:=fun c ob xs q=>b.jP c ob xs (a.jP c ob xs q)
 l9:=fun c ps q=>by
  obtain⟨m1,e1⟩:=a.l9 c ps q;obtain⟨m2,e2⟩:=b.l9 c _ e1;exact⟨m1++m2,by rw[e2,Array.append_assoc]⟩
theorem Un.kept (k:∀b u,h.get? b=some u->h'.get? b=some u):Un fs ex H H h h':=
 ⟨fun b ob q _ _ _=>k b ob q,fun b ob q _ _ _=>⟨ob.slots,k b ob q⟩,fun _ _ _ n _=>n,fun b ob q _=>⟨ob,k b ob q⟩,fun _ _ q=>q,fun _ _ _ q=>q,fun _ ps q=>⟨#[],by rw[q];simp⟩⟩
theorem Un.refl:Un fs ex H H h h:=Un.kept fun _ _ q=>q
theorem Un.laid (k:∀b u,h.get? b=some u->h'.get? b=some u)(hp:h.objs.size<=a)(hn:H a=none):Un fs ex H (upd H a o) h h' where
 keep:=fun b u q _ _ _=>k b u q
 slot:=fun b u q _ _ _=>⟨u.slots,k b u q⟩
 free:=fun b u q n _=>by rw[ay (bc (cn (aF q) hp))];exact n
 there:=fun b u q _=>⟨u,k b u q⟩
 jy:=fun b xs q=>by rw[ay (aY q hn)];exact q
 jP:=fun b u xs q=>by rw[ay (aY q hn)];exact q
 l9:=fun b ps q=>⟨#[],by rw[ay (aY q hn),q];simp⟩
theorem Un.write (mu:Te (H x))(he:e=x\/H e=some (.own x))(k:∀b u,b≠e->h.get? b=some u->h'.get? b=some u)(Sy:∃u,h'.get? e=some u):Un fs ex H (upd H x o) h h':=by
 have hx:∀b,H b=none->b≠x:=fun b n z=>by subst z;rw[n]at mu;exact mu
 have hb:∀b,H b=none->b≠e:=fun b n z=>by
  subst z;rcases he with r|r
  ·exact hx b n r
  ·rw[n]at r;cases r
 have hm:∀b u,H b=some u->¬Te (some u)->b≠x:=fun b u q nm z=>by subst z;rw[q]at mu;exact nm mu
 refine⟨fun b u q n _ _=>k b u (hb b n) q,fun b u q n _ _=>⟨u.slots,k b u (hb b n) q⟩,fun b u q n _=>by rw[ay (hx b n)];exact n,fun b u q _=>?_,
  fun b xs q=>by rw[ay (hm b _ q fun z=>z)];exact q,fun b u xs q=>by rw[ay (hm b _ q fun z=>z)];exact q,fun b ps q=>⟨#[],by rw[ay (hm b _ q fun z=>z),q];simp⟩⟩
 by_cases OR:b=e
 ·subst OR;exact Sy
 ·exact⟨u,k b u OR q⟩
end
def Xd(h:Heap)(H:Hp):List Addr:=(List.range h.objs.size).filter fun a=>(H a).isSome
def y0(h:Heap)(H:Hp):Heap:=PySem.W.hideAll h (Xd h H)
theorem FO(h:Heap)(H:Hp):(y0 h H).objs.size=h.objs.size:=PySem.W.hideAll_size _ _
theorem Hs{h:Heap}{b:Addr}{o:Obj}(e:h.get? b=some o)(n:H b=none):(y0 h H).get? b=some o:=
 kR _ e fun hm=>by
  have q:(H b).isSome=true:=(gj.mp hm).2;rw[n]at q;simp at q
theorem Lb{h:Heap}{b:Addr}{o:Obj}(e:(y0 h H).get? b=some o):h.get? b=some o/\H b=none:=by
 have e':h.get? b=some o:=kS (Xd h H) e;refine⟨e',?_⟩;cases q:H b with
 |none=>rfl
 |some x=>
  have hm:b∈Xd h H:=gj.mpr ⟨rh.mpr (aF e'),by simp[q]⟩;have z:(y0 h H).get? b=none:=jT (Xd h H) hm;rw[z]at e;cases e
structure Mod(K:Frag)(mg:Str->Option Value)(base:Heap):Prop where
 NL:K.In base
 glob:base.Ns mainGlobals mg
 blt:∃mb,base.Ns builtinsNs mb/\∀x:Str,x≠"__name__"->mb x=bootBuiltins x
 nolimit:base.NoLimit
structure Cx where
 prog:Program
 w:World
 K:Frag
 mg:Str->Option Value
 base:Heap
 A:Around
 N:List Str
 eZ:Shared
 AB:Hp
 env:Env
 outer:List Env
 stack:List Env
 ex:List Addr
 fn:Str->Bool
 calm:Bool
 pn:List (Addr×Obj)
 xe:Value->Shared->Prop
variable {X:Cx}
abbrev xu(X:Cx)(x:Str):Prop:=X.fn x=true\/X.env.scope.names.lookup x=some .local
def iN(l:List Env):List Addr:=l.filterMap (·.frame)
abbrev Cx.fs (X:Cx):List Addr:=iN X.outer
def Xe(sc:Scope)(x:Str):Prop:=sc.names.lookup x=some .local\/sc.names.lookup x=some .cell\/sc.names.lookup x=some .free
def Loc(sc:Scope)(x:Str):Prop:=sc.names.lookup x=some .local\/sc.names.lookup x=some .cell
def Look(env:Env)(h:Heap)(m:Str->Option Value)(x:Str)(u:Value):Prop:=
 (env.kindOf x=some .local/\m x=some u)\/((env.kindOf x=some .cell\/env.kindOf x=some .free)/\∃c,env.cells.lookup x=some c/\h.IsCell c (some u))
structure Cx.Ok (X:Cx):Prop where
 mod:Mod X.K X.mg X.base
 kind:X.env.scope.kind=.function
 glob:X.env.globals=mainGlobals
 blt:X.env.builtins=builtinsNs
 above:X.eZ.heap.objs.size<=X.env.locals
 inj:∀x y c,X.env.cells.lookup x=some c->X.env.cells.lookup y=some c->x=y
 has:∀x,(X.env.kindOf x=some .cell\/X.env.kindOf x=some .free)->∃c,X.env.cells.lookup x=some c
 NM:∀x c,X.fn x=true->X.env.cells.lookup x=some c->X.eZ.heap.objs.size<=c
 hd:X.calm=true->X.A.handled=none
 frames:X.A.frames=some X.stack
 K0:X.stack=X.outer\/(X.stack=X.env::X.outer/\X.env.frame=some X.env.locals)
 Sz:∀b∈X.ex,b≠X.env.locals/\∀x c,X.env.cells.lookup x=some c->c≠b
 bs:∀b o,X.base.get? b=some o->X.eZ.heap.get? b=some o/\X.AB b=none
 FP:X.base.objs.size<=X.eZ.heap.objs.size
 y1:∀b o,X.base.get? b=some o->b∉X.ex
 AD:∀b∈X.ex,b∉X.fs
 pH:X.eZ.heap.FunFrames X.base X.outer
 Ht:∀b∈X.fs,X.AB b=none
structure Inv(X:Cx)(U:List (Addr×Obj))(Z:List (Option V))(H:Hp)(s:Shared):Prop where
 ok:X.Ok
 os:s.os=X.eZ.os
 bare:AllBare s.gens
 base:Un X.fs X.ex X.AB H X.eZ.heap s.heap
 loc:∃m,s.heap.Ns X.env.locals m/\∀(i:Nat) (x:Str) (v:V),X.N[i]?=some x->Z[i]?=some (some v)->Xe X.env.scope x->∃u,RelV v u/\Look X.env s.heap m x u
 cell:∀x c,X.env.cells.lookup x=some c->∃v,s.heap.IsCell c v
 free:H X.env.locals=none
 eK:∀x c,X.env.cells.lookup x=some c->H c=none
 pin:∀p∈X.pn++U,s.heap.get? p.1=some p.2/\H p.1=none/\p.1≠X.env.locals/\p.1∉X.fs/\∀v,p.2.data≠ .cell v
 cj:p5 X.prog X.w H s.heap
 len:Z.length=X.N.length
section
variable {Z:List (Option V)}{H':Hp}{h':Heap}
theorem Cx.Ok.X3 (ok:X.Ok){b:Addr}{o:Obj}(e:X.base.get? b=some o):b∉X.fs:=fun hb=>by
 have:=(ok.pH.mem hb).1;rw[e]at this;cases this
theorem Inv.bs (I:Inv X U Z H s):∀b o,X.base.get? b=some o->s.heap.get? b=some o/\H b=none:=fun b o e=>
 ⟨I.base.keep b o (I.ok.bs b o e).1 (I.ok.bs b o e).2 (I.ok.X3 e) (I.ok.y1 b o e),I.base.free b o (I.ok.bs b o e).1 (I.ok.bs b o e).2 (I.ok.y1 b o e)⟩
theorem Inv.bk (I:Inv X U Z H s):∀b o,X.base.get? b=some o->s.heap.get? b=some o:=fun b o e=>(I.bs b o e).1
theorem Inv.mod (I:Inv X U Z H s):Mod X.K X.mg X.base:=I.ok.mod
theorem Inv.kn (I:Inv X U Z H s):X.K.In s.heap:=I.ok.mod.NL.keeps I.bk
theorem Inv.fr (I:Inv X U Z H s):∃m,Fr X.base X.env.locals s.heap m:=
 let⟨m,hn,_⟩:=I.loc
 ⟨m,hn,I.bk,bJ I.ok.FP I.ok.above⟩
theorem Inv.lt (I:Inv X U Z H s):X.env.locals<s.heap.objs.size:=let⟨_,hn,_⟩:=I.loc;hn.lt
theorem Inv.sz (I:Inv X U Z H s):X.eZ.heap.objs.size<=s.heap.objs.size:=bJ I.ok.above (cQ I.lt)
theorem Inv.Th (I:Inv X U Z H s)(h:s.heap.objs.size<=a):a∉X.fs:=fun hb=>by
 obtain⟨_,o,ho,_⟩:=I.ok.pH.mem hb;exact absurd (cn (aF ho) (bJ I.sz h)) (dm _)
theorem Inv.FQ (I:Inv X U Z H s):∀x c,X.env.cells.lookup x=some c->c≠X.env.locals:=fun x c e z=>by
 obtain⟨v,o,ho,hd⟩:=I.cell x c e;obtain⟨m,⟨o',es,ep,Lc,Ld,_⟩,_⟩:=I.loc;rw[z,Lc]at ho;cases ho;rw[Ld]at hd;cases hd
theorem Inv.pH (I:Inv X U Z H s):s.heap.FunFrames X.base X.outer:=by
 have all:∀(l:List Env),(∀b∈iN l,b∈X.fs)->X.eZ.heap.FunFrames X.base l->s.heap.FunFrames X.base l:=by
  intro l
  induction l with
  |nil=>intro _ _;trivial
  |cons env r ih=>
   intro hs hl;obtain⟨hk,⟨L,o,hf,hn,ho,hd⟩,hr⟩:=hl;have hL:L∈X.fs:=hs L (by unfold iN;rw[nc,hf];exact bR);obtain⟨sl,e⟩:=I.base.slot L o ho (I.ok.Ht L hL) hL fun z=>I.ok.AD L z hL;exact⟨hk,⟨L,_,hf,hn,e,hd⟩,ih (fun b hb=>hs b (by unfold iN;rw[nc,hf];exact bI _ hb)) hr⟩
 exact all X.outer (fun _ hb=>hb) I.ok.pH
theorem Inv.stack (I:Inv X U Z H s):s.heap.FunFrames X.base X.stack:=by
 rcases I.ok.K0 with e|⟨e,hf⟩
 ·rw[e];exact I.pH
 ·rw[e];obtain⟨m,hn,_⟩:=I.loc;refine .cons (by rw[I.ok.kind];decide) hf hn ?_ I.pH
  exact Heap.get?_none_of_le (bJ I.ok.FP I.ok.above)
theorem Inv.vz (I:Inv X U Z H s):∀b∈iN X.stack,b∈X.env.locals::X.fs:=fun b hb=>by
 rcases I.ok.K0 with e|⟨e,hf⟩
 ·rw[e]at hb;exact bI _ hb
 ·rw[e]at hb;unfold iN at hb;rw[nc,hf]at hb;exact hb
theorem Inv.uK (I:Inv X U Z H s):∀b∈iN X.stack,H b=none:=fun b hb=>by
 rcases aE.mp (I.vz b hb)with e|hb
 ·rw[e];exact I.free
 ·obtain⟨_,o,ho,_⟩:=I.ok.pH.mem hb;exact I.base.free b o ho (I.ok.Ht b hb) fun z=>I.ok.AD b z hb
theorem Inv.step {g':Array GenState}{t':Nat}{d':Drawn}{ch:List Addr}(I:Inv X U Z H s)
  (xY:∀b∈ch,(b∈X.ex\/X.eZ.heap.objs.size<=b)/\b≠X.env.locals/\(∀x c,X.env.cells.lookup x=some c->c≠b)/\∀p∈X.pn++U,p.1≠b)
  (keep:∀b o,b≠X.env.locals->b∉X.fs->b∉ch->s.heap.get? b=some o->H b=none->h'.get? b=some o)
  (slot:∀b o,b≠X.env.locals->b∈X.fs->b∉ch->s.heap.get? b=some o->H b=none->∃sl,h'.get? b=some {o with slots:=sl}) (free:∀b o,b∉ch->s.heap.get? b=some o->H b=none->H' b=none)
  (there:∀b o,b∉ch->s.heap.get? b=some o->∃o',h'.get? b=some o')
  (jy:∀b xs,H b=some (.tup xs)->H' b=some (.tup xs)) (jP:∀b o u,H b=some (.jO o u)->H' b=some (.jO o u)) (l9:∀b ps,H b=some (.NK ps)->∃more,H' b=some (.NK (ps++more)))
  (ns:∀m,s.heap.Ns X.env.locals m->h'.Ns X.env.locals m) (cj:p5 X.prog X.w H' h') (hg:AllBare g'):
  Inv X U Z H' {s with heap:=h',gens:=g',drawn:=d',toks:=t'}:=by
 have neL:∀b o,X.eZ.heap.get? b=some o->b≠X.env.locals:=fun b o e=>bc (cn (aF e) I.ok.above);have Hv:∀b o,X.eZ.heap.get? b=some o->b∉X.ex->b∉ch:=fun b o e hx hb=>by
  rcases(xY b hb).1 with z|z
  ·exact hx z
  ·exact absurd (cn (aF e) z) (dm _)
 have cellK:∀x c,X.env.cells.lookup x=some c->∀v,s.heap.IsCell c v->h'.IsCell c v:=fun x c e v ⟨o,ho,hd⟩=>by
  have Hw:c∉ch:=fun z=>(xY c z).2.2.1 x c e rfl;by_cases hc:c∈X.fs
  ·obtain⟨sl,q⟩:=slot c o (I.FQ x c e) hc Hw ho (I.eK x c e);exact⟨_,q,hd⟩
  ·exact⟨o,keep c o (I.FQ x c e) hc Hw ho (I.eK x c e),hd⟩
 refine⟨I.ok,I.os,hg,⟨fun b o e n hb hx=>?_,fun b o e n hb hx=>?_,fun b o e n hx=>?_,fun b o e hx=>?_,fun b xs e=>jy b xs (I.base.jy b xs e),fun b o xs e=>jP b o xs (I.base.jP b o xs e),fun b ps e=>?_⟩,?_,fun x c e=>?_,?_,fun x c e=>?_,fun p hp=>?_,cj,I.len⟩
 ·exact keep b o (neL b o e) hb (Hv b o e hx) (I.base.keep b o e n hb hx) (I.base.free b o e n hx)
 ·obtain⟨sl,e1⟩:=I.base.slot b o e n hb hx;obtain⟨Tg,e2⟩:=slot b _ (neL b o e) hb (Hv b o e hx) e1 (I.base.free b o e n hx);exact⟨Tg,e2⟩
 ·obtain⟨o',e1⟩:=I.base.there b o e hx;exact free b o' (Hv b o e hx) e1 (I.base.free b o e n hx)
 ·obtain⟨o',e1⟩:=I.base.there b o e hx;exact there b o' (Hv b o e hx) e1
 ·obtain⟨m1,e1⟩:=I.base.l9 b ps e;obtain⟨m2,e2⟩:=l9 b _ e1;exact⟨m1++m2,by rw[e2,Array.append_assoc]⟩
 ·obtain⟨m,hn,hl⟩:=I.loc;refine⟨m,ns m hn,fun i x v e1 e2 e3=>?_⟩;obtain⟨u,r,l⟩:=hl i x v e1 e2 e3;refine⟨u,r,?_⟩;rcases l with l|⟨k,c,e,z⟩
  ·exact .inl l
  ·exact .inr ⟨k,c,e,cellK x c e _ z⟩
 ·obtain⟨v,z⟩:=I.cell x c e;exact⟨v,cellK x c e v z⟩
 ·obtain⟨m,⟨o,_,_,ho,_⟩,_⟩:=I.loc;exact free _ o (fun z=>(xY _ z).2.1 rfl) ho I.free
 ·obtain⟨v,o,ho,hd⟩:=I.cell x c e;exact free c o (fun z=>(xY c z).2.2.1 x c e rfl) ho (I.eK x c e)
 ·obtain⟨e,n,ne,nf,d⟩:=I.pin p hp;have Hw:p.1∉ch:=fun z=>(xY p.1 z).2.2.2 p hp rfl;exact⟨keep p.1 p.2 ne nf Hw e n,free p.1 p.2 Hw e n,ne,nf,d⟩
theorem Inv.un {t':Nat}(I:Inv X U Z H s)(u:Un X.fs [] H H' s.heap h')(cj:p5 X.prog X.w H' h'):Inv X U Z H' {s with heap:=h',toks:=t'}:=by
 obtain⟨m,⟨o,es,ep,ho,r⟩,_⟩:=id I.loc;obtain⟨sl,hL⟩:=u.any ho I.free (by simp);exact I.step (g':=s.gens) (d':=s.drawn) (ch:=[]) (fun _ z=>nomatch z) (fun b o _ hb _ e n=>u.keep b o e n hb (by simp)) (fun b o _ hb _ e n=>u.slot b o e n hb (by simp)) (fun b o _ e n=>u.free b o e n (by simp)) (fun b o _ e=>u.there b o e (by simp)) u.jy u.jP u.l9 (fun m' hm=>by
  obtain⟨o',y2,Hx,Lc,r'⟩:=hm;rw[ho]at Lc;cases Lc;exact⟨_,y2,Hx,hL,r'⟩) cj I.bare
theorem Inv.call {g':Array GenState}{t':Nat}{d':Drawn}{ch:List Addr}(I:Inv X U Z H s)(u:Un (iN X.stack) ch H H' s.heap h')(cj:p5 X.prog X.w H' h')(hg:AllBare g')
  (xY:∀b∈ch,(b∈X.ex\/X.eZ.heap.objs.size<=b)/\b≠X.env.locals/\(∀x c,X.env.cells.lookup x=some c->c≠b)/\∀p∈X.pn++U,p.1≠b):
  Inv X U Z H' {s with heap:=h',gens:=g',drawn:=d',toks:=t'}:=by
 obtain⟨m,⟨o,es,ep,ho,r⟩,_⟩:=id I.loc;obtain⟨sl,hL⟩:=u.any ho I.free fun z=>(xY _ z).2.1 rfl;exact I.step (ch:=ch) xY (fun b o hL hb hc e n=>u.keep b o e n (fun z=>(aE.mp (I.vz b z)).elim hL hb) hc) (fun b o _ _ hc e n=>u.any e n hc) (fun b o hc e n=>u.free b o e n hc) (fun b o hc e=>u.there b o e hc) u.jy u.jP u.l9 (fun m' hm=>by
  obtain⟨o',y2,Hx,Lc,r'⟩:=hm;rw[ho]at Lc;cases Lc;exact⟨_,y2,Hx,hL,r'⟩) cj hg
theorem Inv.turned {t':Nat}{it:Addr}(I:Inv X U Z H s)(k:∀b o,b≠it->s.heap.get? b=some o->h'.get? b=some o)(hn:H it=none)(hL:it≠X.env.locals)
  (h1:it∈X.ex\/X.eZ.heap.objs.size<=it) (h2:∀x c,X.env.cells.lookup x=some c->c≠it) (h3:∀p∈X.pn++U,p.1≠it):Inv X U Z H {s with heap:=h',toks:=t'}:=by
 have nit:∀b u,H b=some u->b≠it:=fun b u e z=>by rw[z,hn]at e;cases e
 refine I.step (g':=s.gens) (d':=s.drawn) (ch:=[it]) (fun b hb=>?_) (fun b o _ _ hc e _=>k b o (fun z=>hc (by simp[z])) e) (fun b o _ _ hc e _=>⟨o.slots,k b o (fun z=>hc (by simp[z])) e⟩) (fun _ _ _ _ n=>n)
  (fun b o hc e=>⟨o,k b o (fun z=>hc (by simp[z])) e⟩) (fun _ _ e=>e) (fun _ _ _ e=>e) (fun b ps e=>⟨#[],by rw[e];simp⟩) (fun m hm=>?_) (fun b u e=>?_) I.bare
 ·have e:b=it:=by simpa using hb
  subst e;exact⟨h1,hL,h2,h3⟩
 ·obtain⟨o,es,ep,ho,r⟩:=hm;exact⟨o,es,ep,k _ o (Ne.symm hL) ho,r⟩
 ·refine(I.cj b u e).nM (fun c v hc q=>k c v ?_ q) (fun _ q=>q) fun _ _ q=>q;rcases hc with z|z
  ·rw[z];exact nit b u e
  ·exact nit c _ z
theorem Inv.tok (I:Inv X U Z H s)(t:Nat):Inv X U Z H {s with toks:=t}:=I.un (h':=s.heap) (t':=t) Un.refl I.cj
theorem Inv.kept {t':Nat}(I:Inv X U Z H s)(k:∀b u,s.heap.get? b=some u->h'.get? b=some u):Inv X U Z H {s with heap:=h',toks:=t'}:=I.un (Un.kept k) (I.cj.kept k)
theorem Inv.laid {a:Addr}{o:HO}{t':Nat}(I:Inv X U Z H s)(k:∀b u,s.heap.get? b=some u->h'.get? b=some u)(hp:s.heap.objs.size<=a)(new:ck X.prog X.w (upd H a o) h' a o):
  Inv X U Z (upd H a o) {s with heap:=h',toks:=t'}:=I.un (Un.laid k hp (I.cj.fresh hp)) (I.cj.laid k hp new)
theorem Inv.write {x e:Addr}{o:HO}{t':Nat}(I:Inv X U Z H s)(mu:Te (H x))(he:e=x\/H e=some (.own x))(k:∀b u,b≠e->s.heap.get? b=some u->h'.get? b=some u)(Sy:∃u,h'.get? e=some u)
  (new:ck X.prog X.w (upd H x o) h' x o):Inv X U Z (upd H x o) {s with heap:=h',toks:=t'}:=I.un (Un.write mu he k Sy) (I.cj.write mu he k Sy new)
theorem Inv.iY {vA:List (Addr×Obj)}(I:Inv X U Z H s)(h:∀p∈vA,s.heap.get? p.1=some p.2/\H p.1=none/\p.1≠X.env.locals/\p.1∉X.fs/\∀v,p.2.data≠ .cell v):Inv X vA Z H s:=
 ⟨I.ok,I.os,I.bare,I.base,I.loc,I.cell,I.free,I.eK,fun p hp=>(dC.mp hp).elim (fun z=>I.pin p (iT _ z)) (h p),I.cj,I.len⟩
theorem rJ{N:List Str}(hN:N.Nodup){j:Nat}(a:N[i]?=some x)(b:N[j]?=some x):i=j:=by
 obtain⟨h1,e1⟩:=eR.mp a;obtain⟨h2,e2⟩:=eR.mp b;exact(List.getElem_inj hN).mp (e1.trans e2.symm)
theorem xZ{M:Model}{v:V}{u:Value}{Q:Unit->Shared->Prop}(I:Inv X U Z H s)(hN:X.N.Nodup)(hi:X.N[i]?=some x)(hx:Loc X.env.scope x)(r:RelV v u)
  (h:∀s',Inv X U (Z.set i (some v)) H s'->(∃a,Heap.SameBut a s.heap s'.heap/\(a=X.env.locals\/X.env.cells.lookup x=some a))->Q () s') (hf:xu X x:=by first|exact .inl rfl|exact .inr rfl|assumption):wpAny M A (storeName X.env x u) Q E s:=by
 obtain⟨m,hn,hl⟩:=id I.loc;have y3:(X.env.scope.kind== .class||(X.env.scope.kind== .module&&X.env.locals !=X.env.globals))=false:=by rw[I.ok.kind];rfl
 have Ti:i<Z.length:=by rw[I.len];exact(eR.mp hi).1
 have FQ:=I.FQ;have tracked:∀{a:Addr} {h':Heap},(∃o,s.heap.get? a=some o/\H a=none)->Heap.SameBut a s.heap h'->p5 X.prog X.w H h':=fun{a h'} ha hs b ob e=>by
  obtain⟨_,_,D3⟩:=ha;refine(I.cj b ob e).nM (fun c w' hc q=>(hs.2 c ?_).trans q) (fun _ q=>q) fun _ _ q=>q
  rintro rfl
  rcases hc with rfl|hc
  ·rw[D3]at e;cases e
  ·rw[D3]at hc;cases hc
 rcases hx with hk|hk
 ·refine wpAny_storeName_local hk hn (fun h' NN hs=>?_) y3;obtain⟨oL,_,_,D4,_⟩:=id hn;refine h _ ⟨I.ok,I.os,I.bare,⟨fun b o e n hb hx=>?_,fun b o e n hb hx=>?_,I.base.free,fun b o e hx=>?_,I.base.jy,I.base.jP,I.base.l9⟩,⟨_,NN,fun j y v' e1 e2 e3=>?_⟩,fun y c e=>?_,I.free,I.eK,fun p hp=>?_,tracked ⟨oL,D4,I.free⟩ hs,by simpa using I.len⟩ ⟨_,hs,.inl rfl⟩
  ·exact(hs.2 b (bc (cn (aF e) I.ok.above))).trans (I.base.keep b o e n hb hx)
  ·obtain⟨sl,e1⟩:=I.base.slot b o e n hb hx;exact⟨sl,(hs.2 b (bc (cn (aF e) I.ok.above))).trans e1⟩
  ·obtain⟨o',e1⟩:=I.base.there b o e hx;exact⟨o',(hs.2 b (bc (cn (aF e) I.ok.above))).trans e1⟩
  ·by_cases hj:j=i
   ·subst hj;rw[hi]at e1;cases e1;rw[m9 Ti]at e2;cases e2;exact⟨u,r,.inl ⟨hk,by simp⟩⟩
   ·rw[kQ (Ne.symm hj)]at e2;obtain⟨u',r',q⟩:=hl j y v' e1 e2 e3;refine⟨u',r',?_⟩;rcases q with⟨k,e⟩|⟨k,c,e,z⟩
    ·refine .inl ⟨k,?_⟩;have:y≠x:=fun e=>hj (rJ hN e1 (e▸hi));simp[this,e]
    ·exact .inr ⟨k,c,e,z.sameBut hs (FQ y c e)⟩
  ·obtain⟨w',z⟩:=I.cell y c e;exact⟨w',z.sameBut hs (FQ y c e)⟩
  ·obtain⟨e,n,ne,nf,d⟩:=I.pin p hp;exact⟨(hs.2 p.1 ne).trans e,n,ne,nf,d⟩
 ·have Le:X.fn x=true:=by
   rcases hf with z|z
   ·exact z
   ·rw[z]at hk;cases hk
  obtain⟨c,hc⟩:=I.ok.has x (.inl hk);obtain⟨w',z⟩:=I.cell x c hc;refine wpAny_storeName_cell I.ok.kind hk hc z (fun h' Tj hs=>?_);obtain⟨oc,OS,X4⟩:=id z;refine h {s with heap:=h'} ⟨I.ok,I.os,I.bare,⟨fun b o e n hb hx=>?_,fun b o e n hb hx=>?_,I.base.free,fun b o e hx=>?_,I.base.jy,I.base.jP,I.base.l9⟩,⟨m,hn.sameBut hs (Ne.symm (FQ x c hc)),fun j y v' e1 e2 e3=>?_⟩,fun y c' e=>?_,I.free,I.eK,fun p hp=>?_,tracked ⟨oc,OS,I.eK x c hc⟩ hs,by simpa using I.len⟩ ⟨c,hs,.inr hc⟩
  ·exact(hs.2 b (bc (cn (aF e) (I.ok.NM x c Le hc)))).trans (I.base.keep b o e n hb hx)
  ·obtain⟨sl,e1⟩:=I.base.slot b o e n hb hx;exact⟨sl,(hs.2 b (bc (cn (aF e) (I.ok.NM x c Le hc)))).trans e1⟩
  ·obtain⟨o',e1⟩:=I.base.there b o e hx;exact⟨o',(hs.2 b (bc (cn (aF e) (I.ok.NM x c Le hc)))).trans e1⟩
  ·by_cases hj:j=i
   ·subst hj;rw[hi]at e1;cases e1;rw[m9 Ti]at e2;cases e2;exact⟨u,r,.inr ⟨.inl hk,c,hc,Tj⟩⟩
   ·rw[kQ (Ne.symm hj)]at e2;obtain⟨u',r',q⟩:=hl j y v' e1 e2 e3;refine⟨u',r',?_⟩;rcases q with q|⟨k,c',e,z'⟩
    ·exact .inl q
    ·refine .inr ⟨k,c',e,z'.sameBut hs ?_⟩
     rintro rfl
     exact hj (rJ hN e1 (I.ok.inj _ _ _ e hc▸hi))
  ·by_cases hcc:c'=c
   ·subst hcc;exact⟨_,Tj⟩
   ·obtain⟨w2,z2⟩:=I.cell y c' e;exact⟨w2,z2.sameBut hs hcc⟩
  ·obtain⟨e,n,ne,nf,d⟩:=I.pin p hp;refine⟨(hs.2 p.1 ?_).trans e,n,ne,nf,d⟩;intro q;rw[q,OS]at e;have q':oc=p.2:=Option.some.inj e;exact d w' (by rw[<-q'];exact X4)
theorem vB{M:Model}{v:V}{u:Value}{Q:Unit->Shared->Prop}(I:Inv X U Z H s)(hN:X.N.Nodup)(hi:X.N[i]?=some x)(hx:Loc X.env.scope x)(r:RelV v u)
  (h:∀s',Inv X U (Z.set i (some v)) H s'->Q () s') (hf:xu X x:=by first|exact .inl rfl|exact .inr rfl|assumption):wpAny M A (storeName X.env x u) Q E s:=
 xZ I hN hi hx r (fun s' I' _=>h s' I') hf
theorem Inv.Tn {s':Shared}{ch:List Addr}(I:Inv X U Z H s)(ho:s'.os=s.os)(u:Un (iN X.stack) ch H H' s.heap s'.heap)(cj:p5 X.prog X.w H' s'.heap)(hg:AllBare s'.gens)
  (xY:∀b∈ch,(b∈X.ex\/X.eZ.heap.objs.size<=b)/\b≠X.env.locals/\(∀x c,X.env.cells.lookup x=some c->c≠b)/\∀p∈X.pn++U,p.1≠b):Inv X U Z H' s':=by
 obtain⟨h',g',d',t',o'⟩:=s';have e:o'=s.os:=ho;subst e;exact I.call (g':=g') (t':=t') (d':=d') u cj hg xY
end
abbrev XK:=Value->Option Addr->Hp->Prop
abbrev St:=List (Option V)
variable {Z:St}
abbrev VK:=V->Hp->Prop
abbrev TE:=St->Hp->VK->Prop
abbrev TT:=St->Hp->(Bool->Hp->Prop)->Prop
abbrev TA:=St->Hp->(List V->Hp->Prop)->Prop
structure Ends where
 nx:St->Hp->Prop
 rt:VK
 bk:St->Hp->Prop:=fun _ _=>False
 ct:St->Hp->Prop:=fun _ _=>False
abbrev TS:=Ends->St->Hp->Prop
def EP(X:Cx)(U:List (Addr×Obj))(Z:St)(Q:VK)(u:Value)(s':Shared):Prop:=∃v H',Inv X U Z H' s'/\RelV v u/\Q v H'
def TP(X:Cx)(U:List (Addr×Obj))(Z:St)(Q:Bool->Hp->Prop)(b:Bool)(s':Shared):Prop:=∃H',Inv X U Z H' s'/\Q b H'
def AP(X:Cx)(U:List (Addr×Obj))(Z:St)(Q:List V->Hp->Prop)(us:List Value)(s':Shared):Prop:=∃vs H',Inv X U Z H' s'/\Vals vs us/\Q vs H'
def SP(X:Cx)(U:List (Addr×Obj))(D:Ends)(f:Flow)(s':Shared):Prop:=
 match f with
 |.next=>∃cI H',Inv X U cI H' s'/\D.nx cI H'
 |.brk=>∃cI H',Inv X U cI H' s'/\D.bk cI H'
 |.cont=>∃cI H',Inv X U cI H' s'/\D.ct cI H'
 |.ret u=>∃v cI H',Inv X U cI H' s'/\RelV v u/\D.rt v H'
def PE(X:Cx)(e:Expr)(t:TE):Prop:=
 ∀(U:List (Addr×Obj)) (s:Shared) (Z:St) (H:Hp) (Q:VK),Inv X U Z H s->t Z H Q->wpAny (model X.prog X.w) X.A (eval e X.env) (EP X U Z Q) X.xe s
def PT(X:Cx)(e:Expr)(t:TT):Prop:=
 ∀(U:List (Addr×Obj)) (s:Shared) (Z:St) (H:Hp) (Q:Bool->Hp->Prop),Inv X U Z H s->t Z H Q->wpAny (model X.prog X.w) X.A (isTrue e X.env (eval e X.env)) (TP X U Z Q) X.xe s
def PW(X:Cx)(e:Expr)(t:TT):Prop:=
 ∀(whole:Sem Value) (U:List (Addr×Obj)) (s:Shared) (Z:St) (H:Hp) (Q:Bool->Hp->Prop),Inv X U Z H s->t Z H Q->wpAny (model X.prog X.w) X.A (isTrue e X.env whole) (TP X U Z Q) X.xe s
theorem PW.pt {t:TT}(h:PW X e t):PT X e t:=h _
def PA(X:Cx)(es:List Expr)(t:TA):Prop:=
 ∀(pos:Pos) (U:List (Addr×Obj)) (s:Shared) (Z:St) (H:Hp) (Q:List V->Hp->Prop),Inv X U Z H s->t Z H Q->wpAny (model X.prog X.w) X.A (spliced (backTo pos (starEach es X.env))) (AP X U Z Q) X.xe s
def PS(X:Cx)(st:Stmt)(t:TS):Prop:=
 ∀(U:List (Addr×Obj)) (s:Shared) (Z:St) (H:Hp) (D:Ends),Inv X U Z H s->t D Z H->wpAny (model X.prog X.w) X.A (exec st X.env) (SP X U D) X.xe s
def m6(X:Cx)(st:List Stmt)(t:TS):Prop:=
 ∀(U:List (Addr×Obj)) (s:Shared) (Z:St) (H:Hp) (D:Ends),Inv X U Z H s->t D Z H->wpAny (model X.prog X.w) X.A (execs st X.env) (SP X U D) X.xe s
theorem dc{α:Type}{t:Sem α}{Q Q':α->Shared->Prop}{M:Model}(h:wpAny M A t Q E s)(hQ:∀a s,Q a s->Q' a s):wpAny M A t Q' E s:=cX h hQ fun _ _ x=>x
section
def X5(i:Nat):TE:=fun Z H Q=>∃v,Z[i]?=some (some v)/\Q v H
def tC(v:V):TE:=fun _ H Q=>Q v H
theorem OT(hN:X.N[i]?=some x)(hv:Xe X.env.scope x)(hd:Db x:=by decide) (Cy:(x==("__classdict__":Str))=false:=by decide):PE X (.Name x pos) (X5 i):=by
 intro U s Z H Q I h;obtain⟨v,e,h⟩:=h;obtain⟨m,hn,hl⟩:=I.loc;obtain⟨u,r,l⟩:=hl i x v hN e hv;have fin:EP X U Z Q u s:=⟨v,H,I,r,h⟩;rcases l with⟨hk,hm⟩|⟨hk,c,hc,NO⟩
 ·exact wpAny_Name (wpAny_loadName_local I.ok.kind hk hn hm fin) hd
 ·rcases hk with hk|hk
  ·exact wpAny_Name (wpAny_loadName_cell I.ok.kind hk hc NO fin) hd
  ·exact wpAny_Name (wpAny_loadName_free I.ok.kind hk hc NO fin Cy) hd
theorem OU{i j pos}:PE X (.Constant (.int i) j pos) (tC (.int i)):=fun _ _ _ H _ I h=>wpAny_Constant_int ⟨.int i,H,I.tok _,⟨_,rfl⟩,h⟩
theorem To{b j pos}:PE X (.Constant (.bool b) j pos) (tC (.bl b)):=fun _ _ _ H _ I h=>Constant_bool ⟨.bl b,H,I,rfl,h⟩
theorem OV{j pos}:PE X (.Constant .none j pos) (tC .bK):=fun _ _ _ H _ I h=>Constant_none ⟨.bK,H,I,rfl,h⟩
theorem OW{x j pos}:PE X (.Constant (.str x) j pos) (tC (.str x)):=fun _ _ _ H _ I h=>Calls.Constant_str ⟨.str x,H,I.tok _,⟨_,rfl⟩,h⟩
def Gl(X:Cx)(x:Str):Prop:=X.env.kindOf x=some .globalImplicit
theorem oY{u:Value}(I:Inv X U Z H s)(hg:Gl X x)(hm:X.mg x=some u)(h:Q u s)
  (hd:Db x:=by decide):wpAny (model X.prog X.w) X.A (eval (.Name x pos) X.env) Q E s:=
 u7 I.ok.kind hg (Calls.loadGlobal_global (by rw[I.ok.glob];exact I.mod.glob.keeps I.bk) hm h) hd
theorem sW{u:Value}(I:Inv X U Z H s)(hg:Gl X x)(hm:X.mg x=none)(hv:bootBuiltins x=some u)(h:Q u s)
  (hn:x≠"__name__":=by decide) (hd:Db x:=by decide):wpAny (model X.prog X.w) X.A (eval (.Name x pos) X.env) Q E s:=by
 obtain⟨mb,h1,h2⟩:=I.mod.blt;exact u7 I.ok.kind hg (Calls.loadGlobal_builtin (by rw[I.ok.glob];exact I.mod.glob.keeps I.bk) hm (by rw[I.ok.blt];exact h1.keeps I.bk) ((h2 x hn).trans hv) h) hd
theorem y4{v:V}{u:Value}(hg:Gl X x)(hm:X.mg x=some u)(r:RelV v u)(hd:Db x:=by decide):PE X (.Name x pos) (tC v):=
 fun _ _ _ H _ I h=>oY I hg hm ⟨v,H,I,r,h⟩ hd
theorem D5{v:V}{u:Value}(hg:Gl X x)(hm:X.mg x=none)(hv:bootBuiltins x=some u)(r:RelV v u)(hn:x≠"__name__":=by decide) (hd:Db x:=by decide):PE X (.Name x pos) (tC v):=
 fun _ _ _ H _ I h=>sW I hg hm hv ⟨v,H,I,r,h⟩ hn hd
variable {a b:Expr}{ta tb:TE}
variable {tA Xf:TT}{c7:List Expr}
def X6(t u:TT):TT:=fun Z H Q=>t Z H fun c H1=>if c=true then u Z H1 Q else Q false H1
def tOr(t u:TT):TT:=fun Z H Q=>t Z H fun c H1=>if c=true then Q true H1 else u Z H1 Q
def X7(t:TT):TT:=fun Z H Q=>t Z H fun c H1=>Q (!c) H1
theorem pw_and1(ha:PT X a tA):PW X (.BoolOp .And [a] pos) tA:=by
 intro wh U s Z H Q I h;refine isTrue_and (dc (ha U s Z H Q I h) fun c s1 e=>?_);cases c with
 |true=>exact isTrue_and_nil e
 |false=>exact e
theorem pw_or1(ha:PT X a tA):PW X (.BoolOp .Or [a] pos) tA:=by
 intro wh U s Z H Q I h;refine isTrue_or (dc (ha U s Z H Q I h) fun c s1 e=>?_);cases c with
 |false=>exact isTrue_or_nil e
 |true=>exact e
theorem pw_and(ha:PT X a tA)(hb:PW X (.BoolOp .And (b::c7) pos) Xf):PW X (.BoolOp .And (a::b::c7) pos) (X6 tA Xf):=by
 intro wh U s Z H Q I h;refine isTrue_and (dc (ha U s Z H _ I h) fun c s1 ⟨H1,I1,q1⟩=>?_);cases c with
 |true=>exact hb wh U s1 Z H1 Q I1 q1
 |false=>exact⟨H1,I1,q1⟩
theorem pw_or(ha:PT X a tA)(hb:PW X (.BoolOp .Or (b::c7) pos) Xf):PW X (.BoolOp .Or (a::b::c7) pos) (tOr tA Xf):=by
 intro wh U s Z H Q I h;refine isTrue_or (dc (ha U s Z H _ I h) fun c s1 ⟨H1,I1,q1⟩=>?_);cases c with
 |true=>exact⟨H1,I1,q1⟩
 |false=>exact hb wh U s1 Z H1 Q I1 q1
theorem Hy(ha:PT X a tA):PT X (.UnaryOp .Not a pos) (X7 tA):=by
 intro U s Z H Q I h;exact isTrue_not (ha U s Z H (fun c H1=>Q (!c) H1) I h)
theorem OX{op}{t:TE}(h:PE X a t):PE X (.BoolOp op [a] pos) t:=fun U s Z H Q I hw=>BoolOp_one (h U s Z H Q I hw)
def tIf(t:TT)(ta tb:TE):TE:=fun Z H Q=>t Z H fun c H1=>if c=true then ta Z H1 Q else tb Z H1 Q
theorem Hz{c:Expr}(hc:PT X c tA)(ha:PE X a ta)(hb:PE X b tb):PE X (.IfExp c a b pos) (tIf tA ta tb):=by
 intro U s Z H Q I h;refine wpAny_IfExp (dc (hc U s Z H _ I h) fun d s1 ⟨H1,I1,q1⟩=>?_);cases d with
 |true=>exact ha U s1 Z H1 Q I1 q1
 |false=>exact hb U s1 Z H1 Q I1 q1
end
def jZ(K:Frag)(H:Hp)(a:Addr)(xs:List V):Prop:=
 Rd H a (.lst xs)\/
  ∃(o:Obj) (bz:Array Value) (n:Nat),K.lookup a=some o/\o.cls=.type "list"/\o.dict=none/\o.data=.seq bz n/\bz.size<=sizeLine/\Vals xs bz.toList
def gR(K:Frag)(H:Hp)(a:Addr)(xs:List V):Prop:=
 Rd H a (.tup xs)\/
  ∃(o:Obj) (bz:Array Value) (n:Nat),K.lookup a=some o/\o.cls=.type "tuple"/\o.data=.seq bz n/\bz.size<=sizeLine/\Vals xs bz.toList
def X8:Value->Option V
 |.none=>some .bK
 |.bool b=>some (.bl b)
 |.int i _=>some (.int i)
 |.str x _=>some (.str x)
 |.bytes b _=>some (.NJ b)
 |.float b _=>some (.La b)
 |.ref a=>some (.ref a)
 |.type n=>some (.ty n)
 |_=>none
theorem RelV.abs {x:V}{u:Value}(r:RelV x u):X8 u=some x:=by
 cases x with
 |bK=>cases r;rfl
 |bl _=>cases r;rfl
 |int _=>obtain⟨t,rfl⟩:=r;rfl
 |str _=>obtain⟨t,rfl⟩:=r;rfl
 |NJ _=>obtain⟨t,rfl⟩:=r;rfl
 |La _=>obtain⟨t,rfl⟩:=r;rfl
 |_=>cases r;rfl
theorem RelV.inj {x y:V}{u:Value}(r:RelV x u)(q:RelV y u):x=y:=Option.some.inj (r.abs.symm.trans q.abs)
theorem Vals.inj:∀{xs ys:List V} {us:List Value},Vals xs us->Vals ys us->xs=ys
 |_,_,_,.nil,.nil=>rfl
 |_,_,_,.cons r t,.cons r' t'=>by rw[r.inj r',Vals.inj t t']
section
variable {xs ys:List V}
theorem jZ.of (h:H a=some (.lst xs)):jZ K H a xs:=.inl (.inl h)
theorem gR.of (h:H a=some (.tup xs)):gR K H a xs:=.inl (.inl h)
theorem Inv.list (I:Inv X U Z H s)(h:jZ X.K H a xs):∃bz:List Value,Vals xs bz/\PlainL s.heap a bz.toArray/\xs.length<=sizeLine:=by
 rcases h with h|⟨o,bz,n,hk,hc,hd,hs,hz,r⟩
 ·obtain⟨z,bz,n,r,e⟩:=h.ok I.cj;exact⟨bz,r,⟨_,n,e,rfl,rfl,rfl⟩,z⟩
 ·refine⟨bz.toList,r,⟨o,n,I.kn a o hk,hc,hd,by simpa using hs⟩,?_⟩;have e:=r.length;simp only[eW]at e;omega
theorem Inv.tuple (I:Inv X U Z H s)(h:gR X.K H a xs):∃bz:List Value,Vals xs bz/\IsTup s.heap a bz.toArray/\xs.length<=sizeLine:=by
 rcases h with h|⟨o,bz,n,hk,hc,hs,hz,r⟩
 ·obtain⟨z,bz,r,p⟩:=h.ok I.cj;exact⟨bz,r,p,z⟩
 ·refine⟨bz.toList,r,⟨o,I.kn a o hk,hc,n,by simpa using hs⟩,?_⟩;have e:=r.length;simp only[eW]at e;omega
theorem Inv.HC (I:Inv X U Z H s)(h:jZ X.K H a xs)(h':jZ X.K H a ys):xs=ys:=by
 obtain⟨bz,r,⟨o,n,e,_,_,d⟩,_⟩:=I.list h;obtain⟨rK,r',⟨o',n',e',_,_,d'⟩,_⟩:=I.list h';rw[e]at e';cases e';rw[d]at d';injection d' with d1 _
 have:bz=rK:=by simpa using cw Array.toList d1
 subst this;exact r.inj r'
theorem Inv.oZ (I:Inv X U Z H s)(h:gR X.K H a xs)(h':gR X.K H a ys):xs=ys:=by
 obtain⟨bz,r,⟨o,e,_,n,d⟩,_⟩:=I.tuple h;obtain⟨rK,r',⟨o',e',_,n',d'⟩,_⟩:=I.tuple h';rw[e]at e';cases e';rw[d]at d';injection d' with d1 _
 have:bz=rK:=by simpa using cw Array.toList d1
 subst this;exact r.inj r'
end
abbrev Cx.xA (X:Cx)(E:Value->Shared->Prop):Cx:={X with xe:=E}
abbrev Cx.Hj (X:Cx):Cx:=X.xA fun _ _=>False
theorem Cx.Ok.xA (ok:X.Ok)(E:Value->Shared->Prop):(X.xA E).Ok:=
 ⟨ok.mod,ok.kind,ok.glob,ok.blt,ok.above,ok.inj,ok.has,ok.NM,ok.hd,ok.frames,ok.K0,ok.Sz,ok.bs,ok.FP,ok.y1,ok.AD,ok.pH,ok.Ht⟩
theorem Cx.Ok.nN (ok:(X.xA E).Ok):X.Ok:=
 ⟨ok.mod,ok.kind,ok.glob,ok.blt,ok.above,ok.inj,ok.has,ok.NM,ok.hd,ok.frames,ok.K0,ok.Sz,ok.bs,ok.FP,ok.y1,ok.AD,ok.pH,ok.Ht⟩
section
theorem Inv.xA (I:Inv X U Z H s)(E:Value->Shared->Prop):Inv (X.xA E) U Z H s:=⟨I.ok.xA E,I.os,I.bare,I.base,I.loc,I.cell,I.free,I.eK,I.pin,I.cj,I.len⟩
theorem Inv.nN (I:Inv (X.xA E) U Z H s):Inv X U Z H s:=⟨I.ok.nN,I.os,I.bare,I.base,I.loc,I.cell,I.free,I.eK,I.pin,I.cj,I.len⟩
theorem SP.nN {D:Ends}{f:Flow}{s':Shared}(h:SP (X.xA E) U D f s'):SP X U D f s':=by
 cases f with
 |next=>obtain⟨cI,H',I,q⟩:=h;exact⟨cI,H',I.nN,q⟩
 |brk=>obtain⟨cI,H',I,q⟩:=h;exact⟨cI,H',I.nN,q⟩
 |cont=>obtain⟨cI,H',I,q⟩:=h;exact⟨cI,H',I.nN,q⟩
 |ret u=>obtain⟨v,cI,H',I,r,q⟩:=h;exact⟨v,cI,H',I.nN,r,q⟩
theorem m6.Hj {st:List Stmt}{t:TS}(h:m6 X.Hj st t):m6 X st t:=fun U s Z H D I hw=>
 cX (h U s Z H D (I.xA _) hw) (fun _ _ q=>q.nN) fun _ _ z=>False.elim z
end
section
variable {st:Stmt}{c7:List Stmt}{t u:TS}{te:TE}
def Tp:TS:=fun D Z H=>D.nx Z H
def X9(t u:TS):TS:=fun D Z H=>t {D with nx:=u D} Z H
theorem D6:m6 X [] Tp:=fun _ _ Z H _ I h=>ri ⟨Z,H,I,h⟩
theorem AE(h1:PS X st t)(h2:m6 X c7 u):m6 X (st::c7) (X9 t u):=by
 intro U s Z H D I h;refine wpAny_execs_cons (dc (h1 U s Z H {D with nx:=u D} I h) fun f s1 q=>?_);cases f with
 |next=>
  obtain⟨cI,H',I',q⟩:=q;exact h2 U s1 cI H' D I' q
 |_=>exact q
theorem D7(h1:PS X st t):m6 X [st] t:=by
 intro U s Z H D I h;refine wpAny_execs_cons (dc (h1 U s Z H D I h) fun f s1 q=>?_);cases f with
 |next=>exact ri q
 |_=>exact q
theorem Inv.quiet (I:Inv X U Z H s):interactive X.env=false:=by simp[interactive,I.ok.kind]
def Tq(te:TE):TS:=fun D Z H=>te Z H fun _ H1=>D.nx Z H1
theorem Lf(he:PE X e te)(hs:swapsWith e none pos.line X.env=pure false:=by rfl):PS X (.Expr e pos) (Tq te):=by
 intro U s Z H D I h;exact wpAny_Expr_any (dc (he U s Z H _ I h) fun v s1 ⟨x,H1,I1,r1,q1⟩=>⟨Z,H1,I1,q1⟩) I.quiet hs
def X_(te:TE):TS:=fun D Z H=>te Z H D.rt
theorem HD(he:PE X e te):PS X (.Return (some e) pos) (X_ te):=by
 intro U s Z H D I h;exact wpAny_Return_some (dc (he U s Z H _ I h) fun v s1 ⟨x,H1,I1,r1,q1⟩=>⟨x,Z,H1,I1,r1,q1⟩)
def Ts:TS:=fun D _ H=>D.rt .bK H
theorem Lg:PS X (.Return none pos) Ts:=fun _ _ Z H _ I h=>wpAny_Return_none ⟨.bK,Z,H,I,rfl,h⟩
def X'(c:TT)(t u:TS):TS:=fun D Z H=>c Z H fun b H1=>if b=true then t D Z H1 else u D Z H1
theorem NP{c:Expr}{a b:List Stmt}{tc:TT}(hc:PT X c tc)(ha:m6 X a t)(hb:m6 X b u):PS X (.If c a b pos) (X' tc t u):=by
 intro U s Z H D I h;refine wpAny_If (dc (hc U s Z H _ I h) fun d s1 ⟨H1,I1,q1⟩=>?_);cases d with
 |true=>exact ha U s1 Z H1 D I1 q1
 |false=>exact hb U s1 Z H1 D I1 q1
end
abbrev TG:=V->St->Hp->(St->Hp->Prop)->Prop
abbrev OY:=List V->St->Hp->(St->Hp->Prop)->Prop
def PG(X:Cx)(target:Expr)(t:TG):Prop:=
 ∀(U:List (Addr×Obj)) (s:Shared) (Z:St) (H:Hp) (v:V) (u:Value) (Q:St->Hp->Prop),Inv X U Z H s->RelV v u->t v Z H Q->
  wpAny (model X.prog X.w) X.A (assign target X.env u) (fun _ s'=>∃cI H',Inv X U cI H' s'/\Q cI H') X.xe s
def Lh(X:Cx)(ts:List Expr)(t:OY):Prop:=
 ∀(U:List (Addr×Obj)) (s:Shared) (Z:St) (H:Hp) (vs:List V) (us:List Value) (Q:St->Hp->Prop),Inv X U Z H s->Vals vs us->t vs Z H Q->
  wpAny (model X.prog X.w) X.A (assignInOrder ((assignEach ts X.env).map (·.2)) us) (fun _ s'=>∃cI H',Inv X U cI H' s'/\Q cI H') X.xe s
section
def NQ(i:Nat):TG:=fun v Z H Q=>Q (Z.set i (some v)) H
theorem D8(hN:X.N.Nodup)(hi:X.N[i]?=some x)(hx:Loc X.env.scope x)(hf:xu X x:=by first|exact .inl rfl|exact .inr rfl|assumption):PG X (.Name x pos) (NQ i):=by
 intro U s Z H v u Q I r h;exact wpAny_assign_Name (vB I hN hi hx r (fun s' I'=>⟨_,H,I',h⟩) hf)
def Ya:OY:=fun vs Z H Q=>vs=[]/\Q Z H
def Tt(t:TG)(u:OY):OY:=fun vs Z H Q=>∃v r,vs=v::r/\t v Z H fun cI H'=>u r cI H' Q
theorem Li:Lh X [] Ya:=by
 intro U s Z H vs us Q I r h;obtain⟨e,h⟩:=h;subst e;cases r;exact assignInOrder_nil ⟨Z,H,I,h⟩
theorem HE{t:TG}{u:OY}(h1:PG X e t)(h2:Lh X es u)
  (hs:(assignEach (e::es) X.env).map (·.2)=assign e X.env::(assignEach es X.env).map (·.2):=by rfl):Lh X (e::es) (Tt t u):=by
 intro U s Z H vs us Q I r h;obtain⟨v,vr,e1,h⟩:=h;subst e1;cases r with
 |cons r rr=>
  rw[hs];refine assignInOrder_cons (dc (h1 U s Z H _ _ _ I r h) fun _ s1 ⟨Xg,H1,I1,q1⟩=>?_);exact h2 U s1 Xg H1 _ _ Q I1 rr q1
def Yb(K:Frag)(n:Nat)(t:OY):TG:=fun v Z H Q=>∃a xs,v=.ref a/\gR K H a xs/\xs.length=n/\t xs Z H Q
theorem OZ{k:Nat}{t:OY}{n:Nat}(hc:X.calm=true)(h:Lh X es t)
  (hn:(assignEach es X.env).length=n:=by rfl) (bH:(assignEach es X.env).findIdx? (·.1)=none:=by rfl):PG X (.Tuple es k pos) (Yb X.K n t):=by
 intro U s Z H v u Q I r hw;obtain⟨a,xs,e1,hq,hl,hw⟩:=hw;subst e1;cases r;obtain⟨bz,rv,ht,hz⟩:=I.tuple hq;refine assign_Tuple_tuple (I.ok.hd hc) ht (by simp[hn,<-hl,rv.length]) bH fun h' hx=>?_
 have I1:Inv X U Z H {s with heap:=h'}:=I.kept (t':=s.toks) fun b o e=>hx b o (bc (aF e)) e;exact h U _ Z H xs _ Q I1 (by simpa using rv) hw
def Tu(te:TE)(g:TG):TS:=fun D Z H=>te Z H fun x H1=>g x Z H1 D.nx
theorem O0{tg:Expr}{te:TE}{g:TG}(he:PE X e te)(hg:PG X tg g)(hs:swapsWithSole [tg] e pos.line X.env=pure false:=by rfl) (hw:swappedStores [tg] e X.env=pure none:=by rfl)
  (h1:(assignEach [tg] X.env).map (·.2)=[assign tg X.env]:=by rfl):PS X (.Assign [tg] e pos) (Tu te g):=by
 intro U s Z H D I h;refine wpAny_Assign_stores (dc (he U s Z H _ I h) fun v s1 ⟨x,H1,I1,r1,q1⟩=>?_) hs hw;rw[h1];exact dc (hg U s1 Z H1 x v _ I1 r1 q1) fun _ s2 q=>q
theorem HF{te:TE}{pos':Pos}(hN:X.N.Nodup)(hi:X.N[i]?=some x)(hx:Loc X.env.scope x)(he:PE X e te)(hs:swapsWith e (some (.Name x pos')) pos.line X.env=pure false:=by rfl) (hf:xu X x:=by first|exact .inl rfl|exact .inr rfl|assumption):
  PS X (.Assign [.Name x pos'] e pos) (Tu te (NQ i)):=by
 intro U s Z H D I h;refine wpAny_Assign_Name (dc (he U s Z H _ I h) fun v s1 ⟨y,H1,I1,r1,q1⟩=>?_) hs;exact vB I1 hN hi hx r1 (fun s2 I2=>⟨_,H1,I2,q1⟩) hf
end
structure It where
 go:Nat->Hp->Prop
 FR:Nat->Hp->V->Hp->Prop
 stop:Nat->Hp->Prop
def jQ(X:Cx)(U:List (Addr×Obj))(H:Hp)(b:Addr):Prop:=
 H b=none/\b≠X.env.locals/\b∉X.fs/\(b∈X.ex\/X.eZ.heap.objs.size<=b)/\(∀x c,X.env.cells.lookup x=some c->c≠b)/\∀p∈X.pn++U,p.1≠b
theorem Inv.vC {H':Hp}{b:Addr}(I:Inv X U Z H s)(hb:s.heap.objs.size<=b)(hn:H' b=none):jQ X U H' b:=by
 refine⟨hn,cJ (cn I.lt hb),I.Th hb,.inr (bJ I.sz hb),fun x c e z=>?_,fun p hp z=>?_⟩
 ·obtain⟨v,q⟩:=I.cell x c e;exact absurd (cn q.lt (by rw[z];exact hb)) (dm _)
 ·exact absurd (cn (aF (I.pin p hp).1) (by rw[z];exact hb)) (dm _)
structure Turn(P:Program)(w:World)(K:Frag)(tg:Expr)(J:It)(fp:List Addr)(it:Addr)(tn:Nat->Heap->Prop):Prop where
 mem:it∈fp
 obj:∀i h,tn i h->∀b∈fp,∃o,h.get? b=some o/\∀v,o.data≠ .cell v
 keep:∀i h h',tn i h->(∀b∈fp,∀o,h.get? b=some o->h'.get? b=some o)->tn i h'
 item:∀(X:Cx),X.prog=P->X.w=w->X.K=K->X.calm=true->∀(i:Nat) (U:List (Addr×Obj)) (s:Shared) (Z:St) (H:Hp) (E:Value->Shared->Prop),Inv X U Z H s->(∀b∈fp,jQ X U H b)->tn i s.heap->J.go i H->
  wpAny (model P w) X.A (pyNext (.ref it)) (fun r s1=>∃u,r=some u/\
   wpAny (model P w) X.A (letOwnedTupleGo tg (.ref it) u) (fun _ s2=>∃x H',Inv X U Z H' s2/\RelV x u/\J.FR i H x H'/\tn (i+1) s2.heap/\∀b∈fp,H' b=none) E s1) E s
 done:∀(X:Cx),X.prog=P->X.w=w->X.K=K->X.calm=true->∀(i:Nat) (U:List (Addr×Obj)) (s:Shared) (Z:St) (H:Hp) (E:Value->Shared->Prop),Inv X U Z H s->(∀b∈fp,jQ X U H b)->tn i s.heap->J.stop i H->
  wpAny (model P w) X.A (pyNext (.ref it)) (fun r s1=>r=none/\Inv X U Z H s1) E s
 self:∀(A:Around) (i:Nat) (s:Shared) (Q:Value->Shared->Prop) (E:Value->Shared->Prop),tn i s.heap->Q (.ref it) s->wpAny (model P w) A (pyIter (.ref it)) Q E s
abbrev TI:=St->Hp->(It->Hp->Prop)->Prop
def Tv(X:Cx)(U:List (Addr×Obj))(Z:St)(tg:Expr)(R:It->Hp->Prop)(Xh:Value)(s2:Shared):Prop:=
 ∃(it:Addr) (fp:List Addr) (tn:Nat->Heap->Prop) (J:It) (H':Hp),Xh=.ref it/\Inv X U Z H' s2/\Turn X.prog X.w X.K tg J fp it tn/\tn 0 s2.heap/\(∀b∈fp,jQ X U H' b)/\R J H'
def PI(X:Cx)(tg b8:Expr)(wi:TI):Prop:=
 ∀(U:List (Addr×Obj)) (s:Shared) (Z:St) (H:Hp) (R:It->Hp->Prop),Inv X U Z H s->wi Z H R->
  wpAny (model X.prog X.w) X.A (eval b8 X.env) (fun v s1=>wpAny (model X.prog X.w) X.A (pyIter v) (Tv X U Z tg R) X.xe s1) X.xe s
theorem x6{M:Model}{s:Shared}{tg:Expr}{it:Addr}{u:Value}{o:Obj}{n:String}{vs:Array Value}{Q:Unit->Shared->Prop}(ho:s.heap.get? it=some o)(hc:o.cls=.type n)(hd:o.data=.fields vs)
  (hn:["enumerate","zip","dict_itemiterator","dict_reverseitemiterator","odict_iterator","itertools.zip_longest","itertools.pairwise"].contains n=false) (hQ:Q () s):wpAny M A (letOwnedTupleGo tg (.ref it) u) Q E s:=by
 unfold letOwnedTupleGo;cases tg<;>first
  |exact ar hQ
  |(cases u<;>first
    |exact ar hQ
    |(refine af (nK ho ?_)
      rw[hc,hd];show wpAny M A (if(["enumerate","zip","dict_itemiterator","dict_reverseitemiterator","odict_iterator","itertools.zip_longest","itertools.pairwise"].contains n&&vs[0]?==some (rawInt _))=true then _ else _) Q E s;rw[ak (by intro h;rw[hn,Bool.false_and]at h;cases h)];exact ar hQ))
def Itl(K:Frag)(a:Addr):It:=
 ⟨fun i H=>∃xs x,jZ K H a xs/\xs[i]?=some x,fun i H x H'=>H'=H/\∀xs,jZ K H a xs->xs[i]?=some x,fun i H=>∃xs,jZ K H a xs/\xs.length<=i⟩
def Itt(K:Frag)(a:Addr):It:=
 ⟨fun i H=>∃xs x,gR K H a xs/\xs[i]?=some x,fun i H x H'=>H'=H/\∀xs,gR K H a xs->xs[i]?=some x,fun i H=>∃xs,gR K H a xs/\xs.length<=i⟩
def Xi(lo:Int)(n:Nat):It:=⟨fun i _=>i<n,fun i H x H'=>H'=H/\x=.int (lo+i),fun i _=>n<=i⟩
theorem FT{tg:Expr}(a it:Addr):Turn P w K tg (Itl K a) [it] it (fun i h=>h.IsListIter it a i) where
 mem:=by simp
 obj:=fun i h st b hb=>by
  have e:b=it:=by simpa using hb
  subst e;obtain⟨o,e,c,d⟩:=st;exact⟨o,e,fun v z=>by rw[d]at z;cases z⟩
 keep:=fun i h h' st k=>st.at fun o e=>k it (by simp) o e
 item:=by
  intro X hP hw hK hc i U s Z H E I hf st hg;subst hP hw hK;obtain⟨xs,x,hq,hx⟩:=hg;obtain⟨bz,rv,p,hz⟩:=I.list hq;obtain⟨u,hu,ru⟩:=rv.get hx;obtain⟨f0,f1,f2,f3,f4,f5⟩:=hf it (by simp);refine wpAny_pyNext_list_item st p.isList (x:=u) (by simpa using hu) fun h' vD sb=>?_
  have I1:Inv X U Z H {s with heap:=h'}:=I.turned (t':=s.toks) (fun b o hb e=>(sb.2 b hb).trans e) f0 f1 f3 f4 f5;obtain⟨o,e,c,d⟩:=id vD;exact⟨u,rfl,x6 (s:={s with heap:=h'}) e c d (by decide) ⟨x,H,I1,ru,⟨rfl,fun ys hy=>by rw[I.HC hy hq];exact hx⟩,vD,fun b hb=>(hf b hb).1⟩⟩
 done:=by
  intro X hP hw hK hc i U s Z H E I hf st hg;subst hP hw hK;obtain⟨xs,hq,hx⟩:=hg;obtain⟨bz,rv,p,hz⟩:=I.list hq;obtain⟨f0,f1,f2,f3,f4,f5⟩:=hf it (by simp);have hl:=rv.length;exact wpAny_pyNext_list_end (I.ok.hd hc) st p.isList (by simp;omega) fun h' eb=>⟨rfl,I.turned (t':=s.toks) (fun b o hb e=>eb b o hb e) f0 f1 f3 f4 f5⟩
 self:=fun _ _ _ _ _ st h=>wpAny_pyIter_listiter st h
theorem CA{tg:Expr}(a it:Addr):Turn P w K tg (Itt K a) [it] it (fun i h=>h.IsTupleIter it a i) where
 mem:=by simp
 obj:=fun i h st b hb=>by
  have e:b=it:=by simpa using hb
  subst e;obtain⟨o,e,c,d⟩:=st;exact⟨o,e,fun v z=>by rw[d]at z;cases z⟩
 keep:=fun i h h' st k=>st.at fun o e=>k it (by simp) o e
 item:=by
  intro X hP hw hK hc i U s Z H E I hf st hg;subst hP hw hK;obtain⟨xs,x,hq,hx⟩:=hg;obtain⟨bz,rv,p,hz⟩:=I.tuple hq;obtain⟨u,hu,ru⟩:=rv.get hx;obtain⟨f0,f1,f2,f3,f4,f5⟩:=hf it (by simp);refine wpAny_pyNext_tuple_item st (show s.heap.IsTuple a bz.toArray from p) (x:=u) (by simpa using hu) fun h' vD sb=>?_
  have I1:Inv X U Z H {s with heap:=h'}:=I.turned (t':=s.toks) (fun b o hb e=>(sb.2 b hb).trans e) f0 f1 f3 f4 f5;obtain⟨o,e,c,d⟩:=id vD;exact⟨u,rfl,x6 (s:={s with heap:=h'}) e c d (by decide) ⟨x,H,I1,ru,⟨rfl,fun ys hy=>by rw[I.oZ hy hq];exact hx⟩,vD,fun b hb=>(hf b hb).1⟩⟩
 done:=by
  intro X hP hw hK hc i U s Z H E I hf st hg;subst hP hw hK;obtain⟨xs,hq,hx⟩:=hg;obtain⟨bz,rv,p,hz⟩:=I.tuple hq;obtain⟨f0,f1,f2,f3,f4,f5⟩:=hf it (by simp);have hl:=rv.length;exact wpAny_pyNext_tuple_end (I.ok.hd hc) st (show s.heap.IsTuple a bz.toArray from p) (by simp;omega) fun h' eb=>⟨rfl,I.turned (t':=s.toks) (fun b o hb e=>eb b o hb e) f0 f1 f3 f4 f5⟩
 self:=fun _ _ _ _ _ st h=>wpAny_pyIter_tupleiter st h
theorem CB{tg:Expr}(it:Addr)(lo:Int)(n:Nat):Turn P w K tg (Xi lo n) [it] it (fun i h=>IsRangeIter h it (lo+(i:Nat)*1) ((n:Int) - (i:Nat)) 1) where
 mem:=by simp
 obj:=fun i h st b hb=>by
  have e:b=it:=by simpa using hb
  subst e;exact⟨_,st,fun v z=>by
   have z':Data.fields _=Data.cell v:=z;cases z'⟩
 keep:=fun i h h' st k=>k it (by simp) _ st
 item:=by
  intro X hP hw hK hc i U s Z H E I hf st hg;subst hP hw hK;obtain⟨f0,f1,f2,f3,f4,f5⟩:=hf it (by simp);have W:=Walks.range (prog:=X.prog) (w:=X.w) (I.ok.hd hc) it lo 1 n;refine W.item i s _ _ hg st fun v h' tk hv vD kk=>?_
  obtain⟨t,rfl⟩:=hv;have I1:Inv X U Z H {s with heap:=h',toks:=tk}:=I.turned (fun b o hb e=>kk b o (by simpa using hb) e) f0 f1 f3 f4 f5;refine⟨_,rfl,x6 (s:={s with heap:=h',toks:=tk}) (n:="range_iterator") vD rfl rfl (by decide) ⟨.int (lo+i),H,I1,⟨t,?_⟩,⟨rfl,rfl⟩,vD,fun b hb=>(hf b hb).1⟩⟩;rw[Int.mul_one]
 done:=by
  intro X hP hw hK hc i U s Z H E I hf st hg;subst hP hw hK;obtain⟨f0,f1,f2,f3,f4,f5⟩:=hf it (by simp);exact wpAny_pyNext_range_end (I.ok.hd hc) st (by have:n<=i:=hg;omega) fun h' eb=>⟨rfl,I.turned (t':=s.toks) (fun b o hb e=>eb b o hb e) f0 f1 f3 f4 f5⟩
 self:=fun _ _ _ _ _ st h=>wpAny_pyIter_rangeiter st h
section
variable {tg:Expr}
theorem HG{R:It->Hp->Prop}{lo hi:Int}{t u v:Tok}{tk:Nat}(I:Inv X U Z H s)(h1:-(2 ^62)<=lo)(h2:lo<2 ^62)(h3:-(2 ^62)<=hi)(h4:hi<2 ^62)
  (q:R (Xi lo (hi - lo).toNat) H):wpAny (model X.prog X.w) X.A (pyIter (.ref s.heap.objs.size)) (Tv X U Z tg R) E {s with heap:=s.heap.push {cls:=.type "range",data:=.fields #[.int lo t,.int hi u,.int 1 v]},toks:=tk}:=by
 refine wpAny_pyIter_range (IsRange.new ..) (small_one h1 h2 h3 h4) ?_
 have I1:Inv X U Z H {s with heap:=s.heap.push {cls:=.type "range",data:=.fields #[.int lo t,.int hi u,.int 1 v]},toks:=tk}:=I.kept fun b o e=>aX _ e;refine⟨(s.heap.push {cls:=.type "range",data:=.fields #[.int lo t,.int hi u,.int 1 v]}).objs.size,[(s.heap.push {cls:=.type "range",data:=.fields #[.int lo t,.int hi u,.int 1 v]}).objs.size],_,_,H,rfl,
  I1.kept (t':=tk) fun b o e=>aX _ e,CB _ lo (hi - lo).toNat,?_,fun b hb=>?_,q⟩
 ·have e1:lo+((0:Nat):Int)*1=lo:=by simp
  have e2:(((hi - lo).toNat:Nat):Int) - ((0:Nat):Int)=Builtin.Range.rangeSize lo hi 1:=by rw[rangeSize_one];split<;>omega
  show IsRangeIter _ _ (lo+((0:Nat):Int)*1) ((((hi - lo).toNat:Nat):Int) - ((0:Nat):Int)) 1;rw[e1,e2];exact bE _ rfl
 ·have e:b=(s.heap.push {cls:=.type "range",data:=.fields #[.int lo t,.int hi u,.int 1 v]}).objs.size:=by simpa using hb
  subst e;exact I1.vC (aN _) (I1.cj.fresh (aN _))
def Tw(ta:TA):TI:=fun Z H R=>ta Z H fun vs H1=>∃j:Int,vs=[.int j]/\-(2 ^62)<=j/\j<2 ^62/\R (Xi 0 j.toNat) H1
theorem FU{a:Expr}{ta:TA}(hg:Gl X "range")(hm:X.mg "range"=none)(ha:PA X [a] ta)(hs:starEach [a] X.env=[(false,eval a X.env)]:=by rfl):PI X tg (.Call (.Name "range" p) [a] [] pos) (Tw ta):=by
 intro U s Z H R I h;refine Call_ (sW I hg hm boot_range (u0 (dc (ha pos U s Z H _ I h) fun us s1 ⟨vs,H1,I1,r1,q1⟩=>?_) hs rfl));obtain⟨j,e,q1,q2,q⟩:=q1;subst e;cases r1 with
 |cons r rr=>
  cases rr;obtain⟨t,rfl⟩:=r;exact call_range_1 (HG I1 (by omega) (by omega) q1 q2 (by simpa using q))
def Yc(wi:TI)(g:TG)(tb:TS):TS:=fun D Z H=>wi Z H fun J H1=>∃W:Nat->Nat->St->Hp->Prop,(∃m,W 0 m Z H1)/\∀i m Z H,W i m Z H->
 (J.stop i H/\D.nx Z H)\/(J.go i H/\∃N:St->Hp->Prop,(∀cI H',N cI H'->∃m',m'<m/\W (i+1) m' cI H')/\∀x H',J.FR i H x H'->g x Z H' fun xB H2=>tb {D with nx:=N,ct:=N,bk:=D.nx} xB H2)
def vE(fp:List Addr)(h:Heap):List (Addr×Obj):=fp.filterMap fun b=>(h.get? b).map fun o=>(b,o)
theorem l_{fp:List Addr}{h:Heap}{b:Addr}{o:Obj}(hb:b∈fp)(e:h.get? b=some o):(b,o)∈vE fp h:=jW.mpr ⟨b,hb,by rw[e];rfl⟩
theorem FV{fp:List Addr}{h:Heap}{p:Addr×Obj}(hp:p∈vE fp h):p.1∈fp/\h.get? p.1=some p.2:=by
 obtain⟨b,hb,e⟩:=jW.mp hp;cases q:h.get? b with
 |none=>rw[q]at e;cases e
 |some o=>
  rw[q]at e;have e':(b,o)=p:=Option.some.inj e;subst e';exact⟨hb,q⟩
theorem Inv.pinned {fp:List Addr}(I:Inv X U Z H s)(hf:∀b∈fp,jQ X U H b)(ho:∀b∈fp,∃o,s.heap.get? b=some o/\∀v,o.data≠ .cell v):Inv X (U++vE fp s.heap) Z H s:=
 I.iY fun p hp=>(dC.mp hp).elim (fun z=>I.pin p (cH _ z)) fun z=>by
   obtain⟨hb,e⟩:=FV z;obtain⟨f0,f1,f2,_⟩:=hf p.1 hb;obtain⟨o,e',d⟩:=ho p.1 hb;rw[e]at e';cases e';exact⟨e,f0,f1,f2,d⟩
theorem Inv.rL {pl:List (Addr×Obj)}(I:Inv X (U++pl) Z H s):Inv X U Z H s:=I.iY fun p hp=>I.pin p (cH _ (iT _ hp))
theorem HH{b8:Expr}{body:List Stmt}{wi:TI}{g:TG}{tb:TS}(hp:PassesOwn (model X.prog X.w) X.A X.env X.xe)(hc:X.calm=true)(hi:PI X tg b8 wi)(hg:PG X tg g)(hb:m6 X body tb)
  (hs:∀x,foldedSetIterable b8 X.env x=pure x:=by intro _;rfl):PS X (.For tg b8 body [] pos) (Yc wi g tb):=by
 intro U s Z H D I h;refine wpAny_For (dc (hi U s Z H _ I h) fun v s1 h1=>dc h1 fun Xh s2 h2=>?_) hs;obtain⟨it,fp,tn,J,H2,e,I2,T,Lj,f2,W,⟨m0,w0⟩,turn⟩:=h2;subst e;have CC:∀{H':Hp},(∀b∈fp,H' b=none)->∀b∈fp,jQ X U H' b:=fun hn b hb=>⟨hn b hb,(f2 b hb).2⟩;refine codeAny_forLoop_any (fun n s'=>∃i cI H',Inv X U cI H' s'/\tn i s'.heap/\(∀b∈fp,H' b=none)/\W i n cI H') ?_ m0 ⟨0,Z,H2,I2,Lj,fun b hb=>(f2 b hb).1,w0⟩
 rintro n s3 ⟨i,NR,H3,I3,st3,fr3,w3⟩
 rcases turn i n NR H3 w3 with⟨stop,qn⟩|⟨go,N,hN,step⟩
 ·refine nE hp (dc (T.done X rfl rfl rfl hc i U s3 NR H3 X.xe I3 (CC fr3) st3 stop) fun r s4 ⟨hr,I4⟩=>?_);subst hr;exact ri ⟨NR,H3,I4,qn⟩
 ·refine nE hp (dc (T.item X rfl rfl rfl hc i U s3 NR H3 X.xe I3 (CC fr3) st3 go) fun r s4 ⟨u,hr,h4⟩=>?_);subst hr;refine nE hp (dc h4 fun _ s5 ⟨x,H5,I5,r5,y5,SA,Xj⟩=>?_);have I5':=I5.pinned (CC Xj) (T.obj _ _ SA);refine nE hp (dc (hg _ s5 NR H5 x u _ I5' r5 (step x H5 y5)) fun _ s6 ⟨Yd,H6,I6,q6⟩=>?_);refine nE hp (dc (hb _ s6 Yd H6 _ I6 q6) fun f s7 q7=>?_);have again:∀{HI:St} {H7:Hp},Inv X (U++vE fp s5.heap) HI H7 s7->N HI H7->∃m,m<n/\∃i cI H',Inv X U cI H' s7/\tn i s7.heap/\(∀b∈fp,H' b=none)/\W i m cI H':=fun{HI H7} I7 n7=>by
   obtain⟨m',hm,w7⟩:=hN HI H7 n7;refine⟨m',hm,i+1,HI,H7,I7.rL,T.keep _ _ _ SA fun b hb o e=>(I7.pin (b,o) (cH _ (cH _ (l_ hb e)))).1,fun b hb=>?_,w7⟩;obtain⟨o,e,d⟩:=T.obj _ _ SA b hb;exact(I7.pin (b,o) (cH _ (cH _ (l_ hb e)))).2.1
  cases f with
  |next=>obtain⟨HI,H7,I7,n7⟩:=q7;exact again I7 n7
  |cont=>obtain⟨HI,H7,I7,n7⟩:=q7;exact again I7 n7
  |brk=>obtain⟨HI,H7,I7,q7⟩:=q7;exact⟨HI,H7,I7.rL,q7⟩
  |ret v=>obtain⟨x7,HI,H7,I7,r7,q7⟩:=q7;exact⟨x7,HI,H7,I7.rL,r7,q7⟩
end
abbrev R2:=V->V->Hp->VK->Prop
def uL(X:Cx)(f:Value->Value->Sem Value)(r:R2):Prop:=
 ∀(U:List (Addr×Obj)) (s:Shared) (Z:St) (H:Hp) (x y:V) (v u:Value) (Q:VK),Inv X U Z H s->RelV x v->RelV y u->r x y H Q->
  wpAny (model X.prog X.w) X.A (f v u) (EP X U Z Q) X.xe s
def Ye(X:Cx)(f:Value->Sem Value)(r:V->Hp->VK->Prop):Prop:=
 ∀(U:List (Addr×Obj)) (s:Shared) (Z:St) (H:Hp) (x:V) (v:Value) (Q:VK),Inv X U Z H s->RelV x v->r x H Q->
  wpAny (model X.prog X.w) X.A (f v) (EP X U Z Q) X.xe s
def fj(X:Cx)(f:Value)(r:List V->Hp->VK->Prop):Prop:=
 ∀(U:List (Addr×Obj)) (s:Shared) (Z:St) (H:Hp) (xs:List V) (us:List Value) (Q:VK),Inv X U Z H s->Vals xs us->r xs H Q->
  wpAny (model X.prog X.w) X.A (call f us) (EP X U Z Q) X.xe s
def Yf(X:Cx)(r:V->Hp->(Bool->Hp->Prop)->Prop):Prop:=
 ∀(U:List (Addr×Obj)) (s:Shared) (Z:St) (H:Hp) (x:V) (v:Value) (Q:Bool->Hp->Prop),Inv X U Z H s->RelV x v->r x H Q->
  wpAny (model X.prog X.w) X.A (truthy v) (TP X U Z Q) X.xe s
def O1(r:R2)(ta tb:TE):TE:=fun Z H Q=>ta Z H fun x H1=>tb Z H1 fun y H2=>r x y H2 Q
def tUn(r:V->Hp->VK->Prop)(ta:TE):TE:=fun Z H Q=>ta Z H fun x H1=>r x H1 Q
def rI(C:Int->Int->Prop)(g:Int->Int->V):R2:=fun x y H Q=>∃i j,x=.int i/\y=.int j/\C i j/\Q (g i j) H
def Tx(g:Int->Int->V):R2:=fun x y H Q=>∃i j,x=.int i/\y=.int j/\Q (g i j) H
def rU(g:Int->V):V->Hp->VK->Prop:=fun x H Q=>∃i,x=.int i/\Q (g i) H
section
variable {a b c:Expr}{ta tb tc:TE}
theorem O2(ha:PE X a ta)(hb:PE X b tb){R:V->V->Hp->Prop}(I:Inv X U Z H s)
  (h:ta Z H fun x H1=>tb Z H1 fun y H2=>R x y H2) {f:Value->Value->Sem Value}
  (hf:∀v u s2 x y H2,Inv X U Z H2 s2->RelV x v->RelV y u->R x y H2->wpAny (model X.prog X.w) X.A (f v u) Q X.xe s2):
  wpAny (model X.prog X.w) X.A (eval a X.env) (fun v cy=>wpAny (model X.prog X.w) X.A (eval b X.env) (fun u rM=>wpAny (model X.prog X.w) X.A (f v u) Q X.xe rM) X.xe cy) X.xe s:=by
 refine dc (ha U s Z H _ I h) fun v s1 ⟨x,H1,I1,r1,q1⟩=>?_
 refine dc (hb U s1 Z H1 _ I1 q1) fun u s2 ⟨y,H2,I2,r2,q2⟩=>?_
 exact hf v u s2 x y H2 I2 r1 r2 q2
theorem Tz{op:Operator}{r:R2}(ho:uL X (binaryOp op) r)(ha:PE X a ta)(hb:PE X b tb):PE X (.BinOp a op b pos) (O1 r ta tb):=by
 intro U s Z H Q I h;exact wpAny_BinOp (O2 ha hb I h fun v u s2 x y H2 I2 rx ry q=>ho U s2 Z H2 x y v u Q I2 rx ry q)
theorem TB{op:UnaryOp}{r:V->Hp->VK->Prop}(ho:Ye X (unaryOp op) r)(ha:PE X a ta):PE X (.UnaryOp op a pos) (tUn r ta):=by
 intro U s Z H Q I h;exact UnaryOp_ (dc (ha U s Z H _ I h) fun v s1 ⟨x,H1,I1,r1,q1⟩=>ho U s1 Z H1 x v Q I1 r1 q1)
theorem opI{f:Value->Value->Sem Value}{C:Int->Int->Prop}{g:Int->Int->Int}
  (rule:∀(i j:Int) (t u:Tok) (s:Shared) (Q:Value->Shared->Prop) (E:Value->Shared->Prop),C i j->Q (.int (g i j) s.toks) {s with toks:=s.toks+1}->wpAny (model X.prog X.w) X.A (f (.int i t) (.int j u)) Q E s):
  uL X f (rI C fun i j=>.int (g i j)):=by
 intro U s Z H x y v u Q I rx ry h;obtain⟨i,j,rfl,rfl,hc,q⟩:=h;obtain⟨t,rfl⟩:=rx;obtain⟨t',rfl⟩:=ry;exact rule i j t t' s _ _ hc ⟨.int (g i j),H,I.tok _,⟨_,rfl⟩,q⟩
theorem Yg{f:Value->Value->Sem Value}{g:Int->Int->Int}
  (rule:∀(i j:Int) (t u:Tok) (s:Shared) (Q:Value->Shared->Prop) (E:Value->Shared->Prop),Q (.int (g i j) s.toks) {s with toks:=s.toks+1}->wpAny (model X.prog X.w) X.A (f (.int i t) (.int j u)) Q E s):
  uL X f (Tx fun i j=>.int (g i j)):=by
 intro U s Z H x y v u Q I rx ry h;obtain⟨i,j,rfl,rfl,q⟩:=h;obtain⟨t,rfl⟩:=rx;obtain⟨t',rfl⟩:=ry;exact rule i j t t' s _ _ ⟨.int (g i j),H,I.tok _,⟨_,rfl⟩,q⟩
theorem TC{f:Value->Value->Sem Value}{g:Int->Int->Bool}
  (rule:∀(i j:Int) (t u:Tok) (s:Shared) (Q:Value->Shared->Prop) (E:Value->Shared->Prop),Q (.bool (g i j)) s->wpAny (model X.prog X.w) X.A (f (.int i t) (.int j u)) Q E s):
  uL X f (Tx fun i j=>.bl (g i j)):=by
 intro U s Z H x y v u Q I rx ry h;obtain⟨i,j,rfl,rfl,q⟩:=h;obtain⟨t,rfl⟩:=rx;obtain⟨t',rfl⟩:=ry;exact rule i j t t' s _ _ ⟨.bl (g i j),H,I,rfl,q⟩
def HJ(i j:Int):Prop:=(-(2 ^64)<i/\i<2 ^64)\/(-(2 ^64)<j/\j<2 ^64)
theorem HJ.ok {i j:Int}(h:HJ i j):IntMulOk i j:=by
 rcases h with⟨h1,h2⟩|⟨h1,h2⟩
 ·exact .of_left (intBits_le_64 h1 h2)
 ·exact .of_right (intBits_le_64 h1 h2)
theorem O3:uL X (binaryOp .Add) (Tx fun i j=>.int (i+j)):=Yg fun _ _ _ _ _ _ _ q=>add_int q
theorem O4:uL X (binaryOp .Mult) (rI HJ fun i j=>.int (i*j)):=opI fun _ _ _ _ _ _ _ hc q=>mul_int q hc.ok
theorem O5:uL X (binaryOp .Mod) (rI (fun _ j=>0<j) fun i j=>.int (i % j)):=opI fun i j _ _ _ _ _ hc q=>by
 have h1:(0:Int)<j:=hc;exact mod_int' (by omega) (by rw[Int.fmod_eq_emod_of_nonneg i (by omega)];exact q)
theorem unI{f:Value->Sem Value}{g:Int->Int}
  (rule:∀(i:Int) (t:Tok) (s:Shared) (Q:Value->Shared->Prop) (E:Value->Shared->Prop),Q (.int (g i) s.toks) {s with toks:=s.toks+1}->wpAny (model X.prog X.w) X.A (f (.int i t)) Q E s):
  Ye X f (rU fun i=>.int (g i)):=by
 intro U s Z H x v Q I rx h;obtain⟨i,rfl,q⟩:=h;obtain⟨t,rfl⟩:=rx;exact rule i t s _ _ ⟨.int (g i),H,I.tok _,⟨_,rfl⟩,q⟩
theorem O6:Ye X (unaryOp .USub) (rU fun i=>.int (-i)):=unI fun _ _ _ _ _ q=>neg_int q
end
section
variable {a b c:Expr}{ta tb tc:TE}
theorem vF{Q:VK}{k k':Bool}(I:Inv X U Z H s)(q:Q (.bl k) H)(e:k=k'):EP X U Z Q (.bool k') s:=by
 subst e;exact⟨.bl k,H,I,rfl,q⟩
theorem TF:uL X (compareOp .Lt) (Tx fun i j=>.bl (decide (i<j))):=TC fun _ _ _ _ _ _ _ q=>lt_int q
theorem TH:uL X (compareOp .Gt) (Tx fun i j=>.bl (decide (j<i))):=TC fun _ _ _ _ _ _ _ q=>gt_int q
theorem FW:uL X (compareOp .Lt) (fun x y H Q=>∃i j,x=.str i/\y=.str j/\Q (.bl (decide (i.cps.toList<j.cps.toList))) H):=by
 intro U s Z H x y v u Q I rx ry h;obtain⟨i,j,rfl,rfl,q⟩:=h;obtain⟨t,rfl⟩:=rx;obtain⟨t',rfl⟩:=ry;exact lt_str (vF I q rfl)
theorem FX:uL X (compareOp .In) (fun x y H Q=>∃i j,x=.str i/\y=.str j/\Q (.bl (!(Builtin.Str.occurrences j i 0 j.length 1).isEmpty)) H):=by
 intro U s Z H x y v u Q I rx ry h;obtain⟨i,j,rfl,rfl,q⟩:=h;obtain⟨t,rfl⟩:=rx;obtain⟨t',rfl⟩:=ry;exact in_str (vF I q rfl)
theorem O7:uL X (compareOp .Is) (fun x y H Q=>y=.bK/\Q (.bl (decide (x=.bK))) H):=by
 intro U s Z H x y v u Q I rx ry h;obtain⟨rfl,q⟩:=h;cases ry;refine is_none_gen (vF I q ?_);cases x<;>first
  |(cases rx;rfl)
  |(obtain⟨t,rfl⟩:=rx;rfl)
theorem y6:uL X (compareOp .NotIn) (fun x y H Q=>∃i j,x=.str i/\y=.str j/\Q (.bl (!(!(Builtin.Str.occurrences j i 0 j.length 1).isEmpty))) H):=by
 intro U s Z H x y v u Q I rx ry h;obtain⟨i,j,rfl,rfl,q⟩:=h;obtain⟨t,rfl⟩:=rx;obtain⟨t',rfl⟩:=ry;exact notIn_str (vF I q rfl)
theorem y8(b:Expr){op:CmpOp}(h:op≠ .In:=by decide) (h2:op≠ .NotIn:=by decide):behindInMarks op b=false:=by
 have e1:(op==CmpOp.In)=false:=by cases op<;>first|rfl|exact absurd rfl h
 have e2:(op==CmpOp.NotIn)=false:=by cases op<;>first|rfl|exact absurd rfl h2
 cases b<;>simp[behindInMarks,e1,e2]
theorem Ll{op:CmpOp}{r:R2}(ho:uL X (compareOp op) r)(ha:PE X a ta)(hb:PE X b tb)(hm:behindInMarks op b=false):PE X (.Compare a [op] [b] pos) (O1 r ta tb):=by
 intro U s Z H Q I h;exact wpAny_Compare1 (O2 ha hb I h fun v u s2 x y H2 I2 rx ry q=>ho U s2 Z H2 x y v u Q I2 rx ry q) hm
def TJ(t:TE):TT:=fun Z H Q=>t Z H fun x H'=>∃k,x=.bl k/\Q k H'
theorem Lm{op:CmpOp}{r:R2}(ho:uL X (compareOp op) r)(ha:PE X a ta)(hb:PE X b tb)(hm:behindInMarks op b=false):PT X (.Compare a [op] [b] pos) (TJ (O1 r ta tb)):=by
 intro U s Z H Q I h;refine wpAny_isTrue_Compare1 (dc (ha U s Z H _ I h) fun v s1 ⟨x,H1,I1,r1,q1⟩=>dc (hb U s1 Z H1 _ I1 q1) fun u s2 ⟨y,H2,I2,r2,q2⟩=>
  dc (ho U s2 Z H2 x y v u _ I2 r1 r2 q2) fun c s3 ⟨z,H3,I3,r3,k,e,q3⟩=>?_) hm
 subst e;cases r3;exact nv ⟨H3,I3,q3⟩
def Ln(K:Frag)(x:V)(H:Hp)(k:Bool):Prop:=
 match x with
 |.bK=>k=false
 |.bl b=>k=b
 |.int i=>k=(i !=0)
 |.str y=>y.length<=sizeLine/\k=((y.length:Int) !=0)
 |.NJ y=>y.size<=sizeLine/\k=((y.size:Int) !=0)
 |.ref p=>(∃xs,jZ K H p xs/\k=!xs.isEmpty)\/(∃xs,gR K H p xs/\k=!xs.isEmpty)\/∃kvs,Rd H p (.dK kvs)/\k=!kvs.isEmpty
 |_=>False
theorem CD{κ:Type}{kvs:List (κ×V)}{vs:List (κ×Value)}(r:KV kvs vs):(!vs.isEmpty)=!kvs.isEmpty:=by
 cases r<;>rfl
theorem vG{xs:List V}{bz:List Value}(r:Vals xs bz):(!bz.toArray.isEmpty)=!xs.isEmpty:=by
 cases r<;>simp
theorem vH:(sizeLine:Nat)<2 ^63:=by rw[cR];decide
theorem HK:Yf X (fun x H Q=>∃k,Ln X.K x H k/\Q k H):=by
 intro U s Z H x v Q I rx h;obtain⟨k,e,q⟩:=h;have hl:=vH;have hs:sizeLine=16777216:=cR;cases x with
 |bK=>
  cases rx;have e':k=false:=e;subst e';exact truthy_none ⟨H,I,q⟩
 |bl b=>
  cases rx;have e':k=b:=e;subst e';exact nv ⟨H,I,q⟩
 |int i=>
  obtain⟨t,rfl⟩:=rx;have e':k=(i !=0):=e;subst e';exact PySem.P.truthy_int ⟨H,I,q⟩
 |str y=>
  obtain⟨t,rfl⟩:=rx;obtain⟨hy,e'⟩:y.length<=sizeLine/\k=((y.length:Int) !=0):=e;subst e';exact PySem.P.truthy_str (by omega) ⟨H,I.tok _,q⟩
 |NJ y=>
  obtain⟨t,rfl⟩:=rx;obtain⟨hy,e'⟩:y.size<=sizeLine/\k=((y.size:Int) !=0):=e;subst e';exact PySem.W.truthy_bytes (by omega) ⟨H,I.tok _,q⟩
 |ref p=>
  cases rx;have e':(∃xs,jZ X.K H p xs/\k=!xs.isEmpty)\/(∃xs,gR X.K H p xs/\k=!xs.isEmpty)\/∃kvs,Rd H p (.dK kvs)/\k=!kvs.isEmpty:=e;rcases e' with⟨xs,hx,e'⟩|⟨xs,hx,e'⟩|⟨kvs,hx,e'⟩
  ·subst e';obtain⟨bz,r,pl,hz⟩:=I.list hx;have b7:=r.length;exact wpAny_truthy_list pl.isList (by simp only[b_];omega) ⟨H,I.tok _,by rw[vG r];exact q⟩
  ·subst e';obtain⟨bz,r,pl,hz⟩:=I.tuple hx;have b7:=r.length;exact truthy_tuple pl (by simp only[b_];omega) ⟨H,I.tok _,by rw[vG r];exact q⟩
  ·subst e';obtain⟨hz,hS,vs,r,m⟩:kvs.length<=sizeLine/\(p==sysModules)=false/\∃vs,KV kvs vs/\s.heap.DictOf (bx X.prog X.w) p vs:=hx.ok I.cj;have b7:kvs.length=vs.length:=Paired.length r;exact wpAny_truthy_dict hS m (by omega) ⟨H,I.tok _,by rw[CD r];exact q⟩
 |_=>exact fe e
theorem AF(ha:PE X a ta)(he:∀whole,isTrue a X.env whole=(do let v<-whole;standAt a.pos;holding [v] (truthy v))):
  PT X a (fun Z H Q=>ta Z H fun x H'=>∃k,Ln X.K x H' k/\Q k H'):=by
 intro U s Z H Q I h;exact isTrue_plain (dc (ha U s Z H _ I h) fun v s1 ⟨x,H1,I1,r1,q1⟩=>HK U s1 Z H1 x v Q I1 r1 q1) (he _)
theorem CF:uL X (binaryOp .Add) (fun x y H Q=>∃i j,x=.str i/\y=.str j/\i.length+j.length<=sizeLine/\Q (.str (i++j)) H):=by
 intro U s Z H x y v u Q I rx ry h;obtain⟨i,j,rfl,rfl,hz,q⟩:=h;obtain⟨t,rfl⟩:=rx;obtain⟨t',rfl⟩:=ry;exact add_str (fun t' tk=>⟨.str (i++j),H,I.tok _,⟨_,rfl⟩,q⟩) hz
theorem vals1{x:V}{us:List Value}(r:Vals [x] us):∃u,us=[u]/\RelV x u:=by
 cases r with
 |cons r1 r2=>cases r2;exact⟨_,rfl,r1⟩
theorem vals2{x y:V}{us:List Value}(r:Vals [x,y] us):∃u w',us=[u,w']/\RelV x u/\RelV y w':=by
 cases r with
 |cons r1 r2=>
  cases r2 with
  |cons r3 r4=>cases r4;exact⟨_,_,rfl,r1,r3⟩
theorem FY(hc:X.calm=true):fj X (.builtin "max") (fun xs H Q=>∃i j,xs=[.int i,.int j]/\Q (.int (if j>i then j else i)) H):=by
 intro U s Z H xs us Q I r h;obtain⟨i,j,rfl,q⟩:=h;obtain⟨u,w',rfl,⟨t,rfl⟩,⟨t',rfl⟩⟩:=vals2 r;refine max_two_ints (I.ok.hd hc) fun h' tk k=>⟨_,H,I.kept k,?_,q⟩;by_cases hj:j>i
 ·rw[ag hj,ag hj];exact⟨_,rfl⟩
 ·rw[ak hj,ak hj];exact⟨_,rfl⟩
theorem x8:fj X (.type "int") (fun xs H Q=>(∃i,xs=[.int i]/\Q (.int i) H)\/∃k,xs=[.bl k]/\Q (.int (if k then 1 else 0)) H):=by
 intro U s Z H xs us Q I r h;rcases h with⟨i,rfl,q⟩|⟨k,rfl,q⟩
 ·obtain⟨u,rfl,t,rfl⟩:=vals1 r;exact call_int_int ⟨.int i,H,I,⟨_,rfl⟩,q⟩
 ·obtain⟨u,rfl,r1⟩:=vals1 r;cases r1;exact call_int_bool ⟨.int (if k then 1 else 0),H,I.tok _,⟨_,rfl⟩,q⟩
def Yh(K:Frag)(x:V)(H:Hp)(n:Nat):Prop:=
 match x with
 |.str y=>y.length<=sizeLine/\n=y.length
 |.NJ y=>y.size<=sizeLine/\n=y.size
 |.ref p=>(∃xs,jZ K H p xs/\n=xs.length)\/∃xs,gR K H p xs/\n=xs.length
 |_=>False
theorem rN:fj X (.builtin "len") (fun xs H Q=>∃x n,xs=[x]/\Yh X.K x H n/\Q (.int n) H):=by
 intro U s Z H xs us Q I r h;obtain⟨x,n,rfl,e,q⟩:=h;obtain⟨u,rfl,rx⟩:=vals1 r;have hl:=vH;have hs:sizeLine=16777216:=cR;cases x with
 |str y=>
  obtain⟨t,rfl⟩:=rx;obtain⟨hy,e'⟩:y.length<=sizeLine/\n=y.length:=e;subst e';exact len_str (by omega) ⟨.int _,H,I.tok _,⟨_,rfl⟩,q⟩
 |NJ y=>
  obtain⟨t,rfl⟩:=rx;obtain⟨hy,e'⟩:y.size<=sizeLine/\n=y.size:=e;subst e';exact PySem.W.len_bytes (by omega) ⟨.int _,H,I.tok _,⟨_,rfl⟩,q⟩
 |ref p=>
  cases rx;have e':(∃xs,jZ X.K H p xs/\n=xs.length)\/∃xs,gR X.K H p xs/\n=xs.length:=e;rcases e' with⟨xs,hx,e'⟩|⟨xs,hx,e'⟩
  ·subst e';obtain⟨bz,r',pl,hz⟩:=I.list hx;have b7:=r'.length;exact Calls.call_len_list pl.isList (by simp only[b_];omega) ⟨.int xs.length,H,I.tok _,⟨_,by simp only[b_];rw[b7]⟩,q⟩
  ·subst e';obtain⟨bz,r',pl,hz⟩:=I.tuple hx;have b7:=r'.length;exact len_tuple pl (by simp only[b_];omega) ⟨.int xs.length,H,I.tok _,⟨_,by simp only[b_];rw[b7]⟩,q⟩
 |_=>exact fe e
end
structure CG(h:Heap)(x dx C:Addr)(mA:Str->Option Value):Prop where
 obj:h.get? x=some (PySem.W.instObj C dx)
 ns:h.Ns1 dx mA
 ne:dx≠x
theorem F0{h:Heap}{dx:Addr}{mA:Str->Option Value}(n:h.Ns1 dx mA):∃od,h.get? dx=some od/\∀name,PySem.W.lookIn name od=some (mA name):=by
 obtain⟨o,es,ep,ho,hd,hk,_,hm⟩:=n;refine⟨o,ho,fun name=>?_⟩;have e:=hm name;unfold nsFind findBy at e;rw[<-Array.find?_toList]at e;unfold PySem.W.lookIn;rw[hd];dsimp only;split
 ·rename_i y q;rw[q]at e;exact cw some e
 ·rename_i q;rw[q]at e;have a:es.toList.any (·.refKey)=false:=by
   rw[List.any_eq_false];intro y hy;obtain⟨z,t,HL⟩:=hk y (Array.mem_toList_iff.mp hy);simp[DictEntry.refKey,HL]
  have a':¬es.toList.any (·.refKey)=true:=by rw[a];exact d9
  rw[ak a'];exact cw some e
theorem CG.look {h:Heap}{x dx C:Addr}{mA:Str->Option Value}(I:CG h x dx C mA):∃od,PySem.W.InstAt h x (PySem.W.instObj C dx) C (some od)/\∀name,PySem.W.lookIn name od=some (mA name):=
 let⟨od,ho,hl⟩:=F0 I.ns
 ⟨od,⟨I.obj,rfl,rfl,ho⟩,hl⟩
section
variable {prog:Program}{x dx C f:Addr}{mA:Str->Option Value}{name:Str}{v:Value}
theorem get_map{expr:Bool}(X:K.In s.heap)(I:CG s.heap x dx C mA)(hg:PySem.W.plainGet K C name=true)(hh:PySem.W.hasDictIn K C=true)
  (ha:PySem.W.findIn K (.ref C) name=some none) (hv:mA name=some v) (HM:PySem.W.handedIn v=true) (h:Q v {s with toks:=s.toks+1}):
  wpAny (model prog w) A (getAttr (.ref x) name expr) Q E s:=by
 obtain⟨od,J,hl⟩:=I.look;exact PySem.W.get_value X J (ng hg).1 (PySem.W.findObj_own hh ha rfl (by rw[hl,hv])) HM h
theorem HN{pl:Sem Bool}{Q:Value×List Value->Shared->Prop}(X:K.In s.heap)(I:CG s.heap x dx C mA)(hg:PySem.W.plainGet K C name=true)
  (hf:PySem.W.findIn K (.ref C) name=some (some (.ref f))) (ht:PySem.W.isFn K (.ref f)=true) (hv:mA name=none) (h:Q (.ref f,[.ref x]) s):
  wpAny (model prog w) A (getMethod (.ref x) name pl) Q E s:=by
 obtain⟨od,J,hl⟩:=I.look;exact PySem.W.method_fn X J (ng hg).1 (ng hg).2 hf (dR.mp ht) (by show(PySem.W.lookIn name od).map (·.isSome)=some false;rw[hl,hv];rfl) h
theorem Lo{ns:List Str}{Q:Unit->Shared->Prop}(X:K.In s.heap)(I:CG s.heap x dx C mA)
  (hs:PySem.W.findIn K (.ref C) "__setattr__"=some (some (.builtin "object.__setattr__"))) (hp:PySem.W.plainOver K C=true) (ht:PySem.W.takerIn K C name=some none) (hh:PySem.W.hasDictIn K C=true)
  (hw:PySem.Within mA ns) (hsz:ns.length<=sizeLine)
  (h:∀h',CG h' x dx C (fun y=>if y=name then some v else mA y)->Heap.SameBut dx s.heap h'->Q () {s with heap:=h',toks:=s.toks+2}):
  wpAny (model prog w) A (setAttr (.ref x) name v) Q E s:=by
 obtain⟨od,J,hl⟩:=I.look;refine PySem.W.set_plain X J hs (PySem.W.osa_open (s:={s with toks:=s.toks+1}) (r:=none) X J hp ht fun b=>?_);obtain⟨cd,hc,Ld⟩:=PySem.W.any_some hh;have hx:s.heap.get? x=some ⟨.ref C,some dx,.plain,#[]⟩:=I.obj;refine af (ar (af (af (wpAny_loadPart hx (af (PySem.W.Looks.here (s:={s with toks:=s.toks+1}) (PySem.W.looks_clsIn X hc) ?_))))));rw[Ld];refine ar (a:=some dx) (af (ar (af ?_)));refine wpAny_nsSet1 (s:={s with toks:=s.toks+1}) I.ns fun h' O8 TK=>?_
 obtain⟨oD,esD,epD,hoD,hdD,hcD⟩:=O8.count (PySem.Within.cons name v hw);refine af (wpAny_lookBehind hoD (by rw[hdD];exact pastItsLine_dict (bJ hcD (by rw[cG];omega))) ?_);exact ar (h _ ⟨(TK.2 _ (Ne.symm I.ne)).trans I.obj,O8,I.ne⟩ TK)
theorem HP{R:Result->Shared->Prop}{vs:List Value}{kw:List (Str×Value)}(X:K.In s.heap)(hm:PySem.W.makesIn K C=true)
  (hi:PySem.W.findIn K (.ref C) "__init__"=some (some (.ref f))) (hf:PySem.W.typeIn K (.ref f)=some (.type "function"))
  (h:codeAny (model prog w) (A.under (.builtin "type.__call__" ⟨.ref C::vs,kw⟩)) (.call (.ref f) ⟨.ref (s.heap.objs.size+1)::vs,kw⟩) (PySem.W.InitBack (s.heap.objs.size+1) R)
   {s with heap:=(s.heap.push PySem.W.emptyDict).push (PySem.W.instObj C s.heap.objs.size)}):
  codeAny (model prog w) A (.call (.ref C) ⟨vs,kw⟩) R s:=by
 obtain⟨hh,g,d,t,os⟩:=s;exact PySem.W.make_core (PySem.W.makes_of X hm) (rB X hi) (fun self=>PySem.W.bind_fn X self hf) (.inl rfl) h
end
def lu(f:Str)(v:V):List (Str×V)->List (Str×V)
 |[]=>[(f,v)]
 |(g,x)::r=>if g=f then(g,v)::r else(g,x)::lu f v r
theorem ua(f g:Str)(v:V):∀fs:List (Str×V),(lu f v fs).lookup g=if g=f then some v else fs.lookup g
 |[]=>by
  show List.lookup g [(f,v)]=_;by_cases h:g=f
  ·have hb:(g==f)=true:=dR.mpr h;simp only[List.lookup,hb,ag h]
  ·have hb:(g==f)=false:=jU.mpr h;simp only[List.lookup,hb,ak h]
 |(k,x)::r=>by
  have ih:=ua f g v r;rw[show lu f v ((k,x)::r)=(if k=f then(k,v)::r else(k,x)::lu f v r)from rfl];by_cases hk:k=f
  ·rw[ag hk];by_cases h:g=k
   ·have hb:(g==k)=true:=dR.mpr h;simp only[List.lookup,hb,ag (h.trans hk)]
   ·have hb:(g==k)=false:=jU.mpr h;simp only[List.lookup,hb,ak (fun e:g=f=>h (e.trans hk.symm))]
  ·rw[ak hk];by_cases h:g=k
   ·have hb:(g==k)=true:=dR.mpr h;simp only[List.lookup,hb,ak (fun e:g=f=>hk (h.symm.trans e))]
   ·have hb:(g==k)=false:=jU.mpr h;simp only[List.lookup,hb];exact ih
theorem sX(f:Str)(v:V):∀fs:List (Str×V),f∈(lu f v fs).map (·.1)/\∀g,g∈fs.map (·.1)->g∈(lu f v fs).map (·.1)
 |[]=>⟨by simp[lu],fun g h=>by simp at h⟩
 |(k,x)::r=>by
  obtain⟨i1,i2⟩:=sX f v r;rw[show lu f v ((k,x)::r)=(if k=f then(k,v)::r else(k,x)::lu f v r)from rfl];by_cases hk:k=f
  ·rw[ag hk];subst hk;exact⟨by simp,fun g h=>by simpa using h⟩
  ·rw[ak hk];refine⟨?_,fun g h=>?_⟩
   ·rw[aO];exact bI _ i1
   ·rw[aO]at h⊢;rcases aE.mp h with e|e
    ·exact aE.mpr (.inl e)
    ·exact bI _ (i2 g e)
theorem ub(f:Str)(v:V):∀fs:List (Str×V),(lu f v fs).length<=fs.length+1
 |[]=>by simp[lu]
 |(k,x)::r=>by
  have ih:=ub f v r;rw[show lu f v ((k,x)::r)=(if k=f then(k,v)::r else(k,x)::lu f v r)from rfl];by_cases hk:k=f
  ·rw[ag hk,cG,cG];omega
  ·rw[ak hk,cG,cG];omega
theorem km.some_of {v:V}{o:Option Value}(r:km (some v) o):∃u,o=some u/\RelV v u:=by
 cases o with
 |none=>exact fe r
 |some u=>exact⟨u,rfl,r⟩
theorem km.none_of {o:Option Value}(r:km none o):o=none:=by
 cases o with
 |none=>rfl
 |some u=>exact fe r
theorem F1{v:V}{u:Value}(r:RelV v u):PySem.W.handedIn u=true:=by
 cases v with
 |bK=>cases(show u=Value.none from r);rfl
 |bl b=>cases(show u=Value.bool b from r);rfl
 |int i=>obtain⟨t,e⟩:=(show∃t,u=Value.int i t from r);cases e;rfl
 |str x=>obtain⟨t,e⟩:=(show∃t,u=Value.str x t from r);cases e;rfl
 |NJ b=>obtain⟨t,e⟩:=(show∃t,u=Value.bytes b t from r);cases e;rfl
 |La b=>obtain⟨t,e⟩:=(show∃t,u=Value.float b t from r);cases e;rfl
 |ref a=>cases(show u=Value.ref a from r);rfl
 |ty n=>cases(show u=Value.type n from r);rfl
section
variable {H':Hp}{h h':Heap}{C dx:Addr}{fs fs':List (Str×V)}
theorem rO(cj:p5 P w H h)(e:H a=some (.ins C dx fs)):∃mA,CG h a dx C mA/\(∀f,km (fs.lookup f) (mA f))/\PySem.Within mA (fs.map (·.1))/\fs.length<=1000/\H dx=some (.own a):=by
 obtain⟨d,z,ne,ob,mA,n,r,q⟩:=(show ck P w H h a (.ins C dx fs)from cj a _ e);exact⟨mA,⟨ob,n,ne⟩,r,q,z,d⟩
end
structure CH(K:Frag)(C:Addr):Prop where
 pg:PySem.W.plainGet K C Str.empty=true
 hd:PySem.W.hasDictIn K C=true
 po:PySem.W.plainOver K C=true
 sa:PySem.W.findIn K (.ref C) "__setattr__"=some (some (.builtin "object.__setattr__"))
theorem CH.get {C:Addr}(c:CH K C)(f:Str):PySem.W.plainGet K C f=true:=c.pg
def p7(K:Frag)(C:Addr)(f:Str):Prop:=PySem.W.findIn K (.ref C) f=some none
theorem p7.TL {C:Addr}{f:Str}(n:p7 K C f):PySem.W.takerIn K C f=some none:=by
 unfold PySem.W.takerIn;rw[show PySem.W.findIn K (.ref C) f=some none from n]
 rfl
structure Meth(K:Frag)(C:Addr)(m:Str)(f:Addr):Prop where
 at_:PySem.W.findIn K (.ref C) m=some (some (.ref f))
 fn:PySem.W.isFn K (.ref f)=true
 kp:PySem.W.keepIn K (.ref f)=true
section
variable {C dx:Addr}{fs:List (Str×V)}{f:Str}{v:V}
theorem CI{b:Bool}(I:Inv X U Z H s)(e:H a=some (.ins C dx fs))(c:CH X.K C)(n:p7 X.K C f)(l:fs.lookup f=some v)
  (h:∀u s',Inv X U Z H s'->RelV v u->Q u s'):wpAny (model X.prog X.w) A (getAttr (.ref a) f b) Q E s:=by
 obtain⟨mA,O,r,_,_,_⟩:=rO I.cj e;obtain⟨u,hu,ru⟩:=km.some_of (v:=v) (o:=mA f) (by rw[<-l];exact r f);exact get_map I.kn O (c.get f) c.hd n hu (F1 ru) (h u _ (I.tok _) ru)
theorem vI{m:Str}{g:Addr}{pl:Sem Bool}{Q:Value×List Value->Shared->Prop}(I:Inv X U Z H s)(e:H a=some (.ins C dx fs))(c:CH X.K C)(k:Meth X.K C m g)(l:fs.lookup m=none)
  (h:Q (.ref g,[.ref a]) s):wpAny (model X.prog X.w) A (getMethod (.ref a) m pl) Q E s:=by
 obtain⟨mA,O,r,_,_,_⟩:=rO I.cj e;have hn:mA m=none:=km.none_of (by rw[<-l];exact r m);exact HN I.kn O (c.get m) k.at_ k.fn hn h
theorem CJ{y:V}{u:Value}{Q:Unit->Shared->Prop}(I:Inv X U Z H s)(e:H a=some (.ins C dx fs))(c:CH X.K C)(n:p7 X.K C f)(hl:fs.length<1000)(ry:RelV y u)
  (h:∀s',Inv X U Z (upd H a (.ins C dx (lu f y fs))) s'->Q () s'):wpAny (model X.prog X.w) A (setAttr (.ref a) f u) Q E s:=by
 obtain⟨mA,O,r,wi,_,ho⟩:=rO I.cj e;have hz:(fs.map (·.1)).length<=sizeLine:=by rw[aC,cR];omega
 refine Lo I.kn O c.sa c.po n.TL c.hd wi hz fun h' O' sb=>h _ ?_
 have hd:∃o,h'.get? dx=some o:=let⟨o,_,_,e',_⟩:=O'.ns;⟨o,e'⟩
 refine I.write (x:=a) (e:=dx) (by rw[e];exact True.intro) (.inr ho) (fun b q hb z=>(sb.2 b hb).trans z) hd ?_
 refine⟨by rw[ay O.ne];exact ho,?_,O.ne,O'.obj,_,O'.ns,fun g=>?_,fun g hg=>?_⟩
 ·have:=ub f y fs;omega
 ·show km ((lu f y fs).lookup g) (if g=f then some u else mA g);rw[ua];by_cases q:g=f
  ·rw[ag q,ag q];exact ry
  ·rw[ak q,ak q];exact r g
 ·by_cases q:g=f
  ·rw[q];exact(sX f y fs).1
  ·refine(sX f y fs).2 g (wi g fun z=>hg ?_);show(if g=f then some u else mA g)=none;rw[ak q];exact z
theorem Inv.made (I:Inv X U Z H s):Inv X U Z (upd (upd H s.heap.objs.size (.own (s.heap.objs.size+1))) (s.heap.objs.size+1) (.ins C s.heap.objs.size []))
  {s with heap:=(s.heap.push PySem.W.emptyDict).push (PySem.W.instObj C s.heap.objs.size)}:=by
 have e1:(s.heap.push PySem.W.emptyDict).get? s.heap.objs.size=some PySem.W.emptyDict:=bE s.heap rfl;have e2:((s.heap.push PySem.W.emptyDict).push (PySem.W.instObj C s.heap.objs.size)).get? (s.heap.objs.size+1)=some (PySem.W.instObj C s.heap.objs.size):=by
  have:=bE (s.heap.push PySem.W.emptyDict) (o:=PySem.W.instObj C s.heap.objs.size) rfl;rwa[ik]at this
 have e3:(s.heap.push PySem.W.emptyDict).Ns s.heap.objs.size (fun _=>none):=⟨PySem.W.emptyDict,#[],_,e1,rfl,(fun e he=>absurd he (by simp)),fun _=>rfl⟩;have I1:=I.laid (a:=s.heap.objs.size) (o:=.own (s.heap.objs.size+1)) (h':=s.heap.push PySem.W.emptyDict) (t':=s.toks) (fun b u q=>aX _ q) (aN _) ⟨_,e1⟩;refine I1.laid (a:=s.heap.objs.size+1) (o:=.ins C s.heap.objs.size []) (t':=s.toks) (fun b u q=>aX _ q) (Nat.le_of_eq (ik _ _)) ?_
 have ne:s.heap.objs.size≠s.heap.objs.size+1:=bc (nq _);refine⟨by rw[ay ne,aU],dh _,ne,e2,fun _=>none,(Heap.Ns1.of_empty e3).at fun o q=>aX _ q,fun _=>True.intro,fun y hy=>absurd rfl hy⟩
theorem D9{prog:Program}{env:Env}(hb:attributeBase e f env (eval e env)=eval e env)
  (h:wpAny (model prog w) A (eval e env) (fun o cy=>wpAny (model prog w) A (getAttr o f true) Q E cy) E s):wpAny (model prog w) A (eval (.Attribute e f pos) env) Q E s:=
 Attribute_any_ h (by rw[arm_eval_Attribute,hb])
end
def Yi(K:Frag)(ta:TE)(f:Str):TE:=fun Z H Q=>ta Z H fun x H1=>∃a C dx fs v,x=.ref a/\H1 a=some (.ins C dx fs)/\CH K C/\p7 K C f/\fs.lookup f=some v/\Q v H1
def Yj(K:Frag)(ta tv:TE)(f:Str):TS:=fun D Z H=>tv Z H fun y H1=>ta Z H1 fun x H2=>∃a C dx fs,x=.ref a/\H2 a=some (.ins C dx fs)/\CH K C/\p7 K C f/\fs.length<1000/\
 D.nx Z (upd H2 a (.ins C dx (lu f y fs)))
section
variable {value:Expr}{f:Str}{pos' nO:Pos}{ta tv:TE}
theorem HQ(he:PE X e ta)(hb:attributeBase e f X.env (eval e X.env)=eval e X.env):PE X (.Attribute e f pos) (Yi X.K ta f):=by
 intro U s Z H Q I h;refine D9 hb (dc (he U s Z H _ I h) fun u s1 ⟨x,H1,I1,rx,a,C,dx,fs,v,ex,ea,c,n,l,q⟩=>?_);subst ex;obtain rfl:u=Value.ref a:=rx;exact CI I1 ea c n l fun u' s2 I2 ru=>⟨v,H1,I2,ru,q⟩
theorem O9(ha:PE X o ta)(hv:PE X value tv)(hs:swapsWith value (some (.Attribute o f pos')) pos.line X.env=pure false):PS X (.Assign [.Attribute o f pos'] value pos) (Yj X.K ta tv f):=by
 intro U s Z H D I h;refine plainObj_wpAny_Assign_Attribute (dc (hv U s Z H _ I h) fun u s1 ⟨y,H1,I1,ry,q⟩=>dc (ha U s1 Z H1 _ I1 q) fun ov s2 ⟨x,H2,I2,rx,a,C,dx,fs,ex,ea,c,n,l,q2⟩=>?_) hs;subst ex;obtain rfl:ov=Value.ref a:=rx;exact CJ I2 ea c n l ry fun s3 I3=>⟨Z,_,I3,q2⟩
end
section
variable {c:Value}{b:Bool}
inductive rP(K:Frag)(H:Hp):V->Value->Prop where
 |bK:rP K H .bK (.type "NoneType")
 |bl (x:Bool):rP K H (.bl x) (.type "bool")
 |int (i:Int):rP K H (.int i) (.type "int")
 |str (x:Str):rP K H (.str x) (.type "str")
 |La (x:UInt64):rP K H (.La x) (.type "float")
 |lst {a:Addr} {xs:List V} (e:H a=some (.lst xs)):rP K H (.ref a) (.type "list")
 |jO {a:Addr} {o:Obj} {xs:List V} (e:H a=some (.jO o (.lst xs))):rP K H (.ref a) (.type "list")
 |tup {a:Addr} {xs:List V} (e:H a=some (.tup xs)):rP K H (.ref a) (.type "tuple")
 |dK {a:Addr} {kvs:List (Key×V)} (e:H a=some (.dK kvs)):rP K H (.ref a) (.type "dict")
 |dT {a:Addr} {kvs:List (List Key×V)} (e:H a=some (.dT kvs)):rP K H (.ref a) (.type "dict")
 |ins {a C dx:Addr} {fs:List (Str×V)} (e:H a=some (.ins C dx fs)) (cl:CH K C) (ha:PySem.W.findIn K (.ref C) "__class__"=some (some (.builtin "object.__class__")))
   (hn:PySem.W.specialIn K (.builtin "object.__class__") "__get__"=some (some (.builtin "getset_descriptor.__get__"))) (htk:PySem.W.takesIn K (.builtin "object.__class__")=some true)
   (hm:PySem.W.mroIn K C (.type "object")=some true):rP K H (.ref a) (.ref C)
theorem lx{x:V}{u t:Value}(I:Inv X U Z H s)(rx:RelV x u)(ty:rP X.K H x t)(e:PySem.W.kitOne X.K t c=some b)(h:∀tk,Q (.bool b) {s with toks:=tk}):
  wpAny (model X.prog X.w) A (call (.builtin "isinstance") [u,c]) Q E s:=by
 cases ty with
 |bK=>cases(show u=Value.none from rx);exact dD PySem.W.kitx_none I.kn True.intro e (fun z=>nomatch z) h
 |bl y=>cases(show u=Value.bool y from rx);exact dD PySem.W.kitx_bool I.kn True.intro e (fun z=>nomatch z) h
 |int i=>obtain⟨t,q⟩:=(show∃t,u=Value.int i t from rx);cases q;exact dD PySem.W.kitx_int I.kn True.intro e (fun z=>nomatch z) h
 |str y=>obtain⟨t,q⟩:=(show∃t,u=Value.str y t from rx);cases q;exact dD PySem.W.kitx_str I.kn True.intro e (fun z=>nomatch z) h
 |La y=>obtain⟨t,q⟩:=(show∃t,u=Value.float y t from rx);cases q;exact dD PySem.W.kitx_float I.kn True.intro e (fun z=>nomatch z) h
 |@lst a xs ea=>
  cases(show u=Value.ref a from rx);obtain⟨_,_,n,_,h1⟩:=(show ck X.prog X.w H s.heap a (.lst xs)from I.cj a _ ea);exact dD vh I.kn ⟨_,h1,rfl⟩ e (fun z=>nomatch z) h
 |@jO a ob xs ea=>
  cases(show u=Value.ref a from rx);obtain⟨_,_,_,n,_,h1⟩:=(show ck X.prog X.w H s.heap a (.jO ob (.lst xs))from I.cj a _ ea);exact dD vh I.kn ⟨_,h1,rfl⟩ e (fun z=>nomatch z) h
 |@tup a xs ea=>
  cases(show u=Value.ref a from rx);obtain⟨_,_,_,p⟩:=(show ck X.prog X.w H s.heap a (.tup xs)from I.cj a _ ea);obtain⟨o,h1,h2,_⟩:=p;exact dD PySem.W.kitx_tuple I.kn ⟨o,h1,h2⟩ e (fun z=>nomatch z) h
 |@dK a kvs ea=>
  cases(show u=Value.ref a from rx);obtain⟨_,_,vs,_,p⟩:=(show ck X.prog X.w H s.heap a (.dK kvs)from I.cj a _ ea);obtain⟨o,es,ep,h1,h2,_⟩:=p;exact dD qV I.kn ⟨o,h1,h2.1⟩ e (fun z=>nomatch z) h
 |@dT a kvs ea=>
  cases(show u=Value.ref a from rx);obtain⟨_,_,xs,_,o,es,ep,h1,h2,_⟩:=(show ck X.prog X.w H s.heap a (.dT kvs)from I.cj a _ ea);exact dD qV I.kn ⟨o,h1,h2.1⟩ e (fun z=>nomatch z) h
 |@ins a C dx fs ea cl ha hn htk hm=>
  cases(show u=Value.ref a from rx);obtain⟨mA,O,_⟩:=rO I.cj ea;obtain⟨od,J,_⟩:=O.look;exact dD (PySem.W.kitx_own (cl.get _) cl.hd ha hn htk hm) I.kn J e (fun z=>nomatch z) h
end
structure cp(k:Nat)(A:Around):Prop where
 hd:A.handled=none
 dp:A.depth+3*k+5<recursionLimit
 un:A.units+16*k+200<cLine
theorem cp.mono {j k:Nat}(r:cp k A)(h:j<=k):cp j A:=⟨r.hd,by have:=r.dp;omega,by have:=r.un;omega⟩
theorem cp.deeper {k:Nat}(r:cp (k+1) A)(env:Env):cp k (A.deeper env):=
 ⟨r.hd,by have:=r.dp;show A.depth+1+3*k+5<_;omega,by have:=r.un;show A.units+3+16*k+200<_;omega⟩
theorem cp.in1 {k:Nat}(r:cp (k+1) A):cp k A.in1:=
 ⟨r.hd,by have:=r.dp;show A.depth+3*k+5<_;omega,by have:=r.un;show A.units+1+16*k+200<_;omega⟩
theorem CK{C:Addr}{us:List Value}{kw:List (Str×Value)}:(A.under (.builtin "type.__call__" ⟨.ref C::us,kw⟩)).depth=A.depth+1:=by
 first|rfl|simp[Around.under,Code.weight,Code.isCreation,Code.isGuard,Code.isCaller,Code.frames,Code.isFrame,guardIds]
theorem CL{C:Addr}{us:List Value}{kw:List (Str×Value)}:(A.under (.builtin "type.__call__" ⟨.ref C::us,kw⟩)).units=A.units+1:=by
 first|rfl|simp[Around.under,Code.cUnits,Code.frames,Code.isFrame]
theorem cp.make {k:Nat}(r:cp (k+1) A)(C:Addr)(us:List Value)(kw:List (Str×Value)):cp k (A.under (.builtin "type.__call__" ⟨.ref C::us,kw⟩)):=
 ⟨r.hd,by have:=r.dp;rw[CK];omega,by have:=r.un;rw[CL];omega⟩
theorem cp.depth {k:Nat}(r:cp k A):A.depth<recursionLimit:=by have:=r.dp;omega
theorem cp.units {k:Nat}(r:cp k A):A.units+64<cLine:=by have:=r.un;omega
def O_:TA:=fun _ H Q=>Q [] H
def TM(ta:TE)(tr:TA):TA:=fun Z H Q=>ta Z H fun x H1=>tr Z H1 fun xs H2=>Q (x::xs) H2
section
variable {te:TE}{t:TA}
theorem p8:PA X [] O_:=fun _ _ _ _ H Q I h=>ny ⟨[],H,I,.nil,h⟩
theorem j6(ha:PE X e te)(hr:PA X es t)(hs:starEach (e::es) X.env=(false,eval e X.env)::starEach es X.env:=by rfl):PA X (e::es) (TM te t):=by
 intro pos U s Z H Q I h;rw[hs];show wpAny _ _ (spliced ((false,eval e X.env)::backTo pos (starEach es X.env))) _ _ s;refine jo (dc (ha U s Z H _ I h) fun u s1 ⟨x,H1,I1,r1,q1⟩=>?_);exact dc (hr pos U s1 Z H1 _ I1 q1) fun us s2 ⟨xs,H2,I2,r2,q2⟩=>⟨x::xs,H2,I2,.cons r1 r2,q2⟩
def Yk(t:TA):TE:=fun Z H Q=>t Z H fun xs H1=>xs.length<=sizeLine/\∀p,H1 p=none->Q (.ref p) (upd H1 p (.tup xs))
def Yl(t:TA):TE:=fun Z H Q=>t Z H fun xs H1=>xs.length<=sizeLine/\∀p,H1 p=none->Q (.ref p) (upd H1 p (.lst xs))
theorem Pa{x1}(h:PA X es t):PE X (.Tuple es x1 pos) (Yk t):=by
 intro U s Z H Q I hq;refine wpAny_Tuple_spliced (dc (h pos U s Z H _ I hq) fun us s1 ⟨xs,H1,I1,r,z,q⟩=>⟨by rw[<-r.length];exact z,?_⟩);have hf:H1 s1.heap.objs.size=none:=I1.cj.fresh (aN _);refine⟨.ref s1.heap.objs.size,upd H1 s1.heap.objs.size (.tup xs),I1.laid (t':=s1.toks) (fun b u e=>aX _ e) (aN _) ?_,rfl,q _ hf⟩;exact⟨z,us,r,⟨_,bE _ rfl,rfl,_,rfl⟩⟩
theorem HR(h:PA X es t):PE X (.List es pos) (Yl t):=by
 intro U s Z H Q I hq;refine wpAny_List_spliced (dc (h pos U s Z H _ I hq) fun us s1 ⟨xs,H1,I1,r,z,q⟩=>⟨by rw[<-r.length];exact z,?_⟩);have hf:H1 s1.heap.objs.size=none:=I1.cj.fresh (aN _);refine⟨.ref s1.heap.objs.size,upd H1 s1.heap.objs.size (.lst xs),I1.laid (t':=s1.toks) (fun b u e=>aX _ e) (aN _) ?_,rfl,q _ hf⟩;exact⟨z,us,0,r,bE _ rfl⟩
end
abbrev Sp:=List V->Hp->VK->XK->Prop
abbrev AG:=List Env->Hp->Shared->XK->Value->Shared->Prop
structure xC(P:Program)(w:World)(K:Frag)(mg:Str->Option Value)(base:Heap)(A:Around)(outer:List Env)(s:Shared)(H:Hp):Prop where
 frames:A.frames=some outer
 mod:Mod K mg base
 bs:∀b o,base.get? b=some o->s.heap.get? b=some o/\H b=none
 FP:base.objs.size<=s.heap.objs.size
 pH:s.heap.FunFrames base outer
 Ht:∀b∈iN outer,H b=none
 cj:p5 P w H s.heap
 bare:AllBare s.gens
def CE(outer:List Env)(P:Program)(w:World)(H:Hp)(s:Shared)(Q:VK)(u:Value)(s':Shared):Prop:=
 ∃v H',s'.os=s.os/\AllBare s'.gens/\Un (iN outer) [] H H' s.heap s'.heap/\p5 P w H' s'.heap/\RelV v u/\Q v H'
def CR(CX:AG)(outer:List Env)(P:Program)(w:World)(H:Hp)(s:Shared)(Q:VK)(E:XK)(r:Result)(s':Shared):Prop:=
 match r with
 |.ok (.ret u)=>CE outer P w H s Q u s'
 |.ok _=>False
 |.error e=>CX outer H s E e s'
structure c_(P:Program)(w:World)(K:Frag)(mg:Str->Option Value)(base:Heap)(CX:AG)(k:Nat)(f:Addr)(fd:FuncData)(ps:List Str)(sp:Sp):Prop where
 len:∀vs H Q E,sp vs H Q E->vs.length=ps.length
 run:∀(A:Around) (outer:List Env) (s:Shared) (H:Hp) (args:Args) (us:List Value) (vs:List V) (Q:VK) (E:XK),cp k A->xC P w K mg base A outer s H->BindsTo s fd args (ps.zip us)->Vals vs us->sp vs H Q E->
  codeAny (model P w) A (.call (.ref f) args) (CR CX outer P w H s Q E) s
theorem c_.mono {base:Heap}{CX:AG}{j k:Nat}{f:Addr}{fd:FuncData}{sp:Sp}(F:c_ P w K mg base CX j f fd ps sp)(h:j<=k):
  c_ P w K mg base CX k f fd ps sp:=⟨F.len,fun A outer s H args us vs Q E hr=>F.run A outer s H args us vs Q E (hr.mono h)⟩
theorem xC.make {base:Heap}{outer:List Env}(e:xC P w K mg base A outer s H)(C:Addr)(us:List Value)(kw:List (Str×Value)):
  xC P w K mg base (A.under (.builtin "type.__call__" ⟨.ref C::us,kw⟩)) outer s H:=⟨by first|exact e.frames|(simpa[Around.under,Code.envs,Code.isFrame,pushEnvs]using e.frames),e.mod,e.bs,e.FP,e.pH,e.Ht,e.cj,e.bare⟩
theorem xC.in1 {base:Heap}{outer:List Env}(e:xC P w K mg base A outer s H):
  xC P w K mg base A.in1 outer s H:=⟨e.frames,e.mod,e.bs,e.FP,e.pH,e.Ht,e.cj,e.bare⟩
section
variable {s':Shared}
theorem Inv.Pb (I:Inv X U Z H s):xC X.prog X.w X.K X.mg X.base X.A X.stack s H:=
 ⟨I.ok.frames,I.ok.mod,I.bs,bJ I.ok.FP I.sz,I.stack,I.uK,I.cj,I.bare⟩
theorem Inv.after {Q:VK}{u:Value}(I:Inv X U Z H s)(h:CE X.stack X.prog X.w H s Q u s'):EP X U Z Q u s':=by
 obtain⟨v,H',os,bare,un,cj,r,q⟩:=h;obtain⟨hh,g,d,t,os'⟩:=s';obtain rfl:os'=s.os:=os;exact⟨v,H',I.call (h':=hh) (g':=g) (d':=d) (t':=t) (ch:=[]) un cj bare (fun b z=>absurd z (by simp)),r,q⟩
end
def NS(sp:Sp)(vJ:List V)(E:XK)(t:TA):TE:=fun Z H Q=>t Z H fun vs H1=>sp (vs++vJ) H1 Q E
def NT(C:Addr)(m:Str)(sp:Sp)(vJ:List V)(E:XK)(ta:TE)(t:TA):TE:=fun Z H Q=>ta Z H fun x H1=>∃a dx fs,x=.ref a/\H1 a=some (.ins C dx fs)/\fs.lookup m=none/\
 t Z H1 fun vs H2=>sp (x::(vs++vJ)) H2 Q E
def NU(C:Addr)(sp:Sp)(vJ:List V)(E:XK)(t:TA):TE:=fun Z H Q=>t Z H fun vs H1=>∀x dx,H1 x=none->H1 dx=none->dx≠x->
 sp (.ref x::(vs++vJ)) (upd (upd H1 dx (.own x)) x (.ins C dx [])) (fun v H2=>v=.bK/\Q (.ref x) H2) E
def Binds(K:Frag)(fd:FuncData)(ps:List Str)(ds:List Value):Prop:=
 ∀(s:Shared) (us:List Value),K.In s.heap->(us++ds).length=ps.length->BindsTo s fd ⟨us,[]⟩ (ps.zip (us++ds))
theorem Binds.all {fd:FuncData}(h:∀us:List Value,us.length=ps.length->bindArgs fd ⟨us,[]⟩=pure (ps.zip us)):Binds K fd ps []:=fun s us _ hl=>by
 rw[iU]at hl⊢;exact .of_eq (h us hl)
def Passes(CX:AG)(X:Cx)(E:XK):Prop:=∀(U:List (Addr×Obj)) (Z:St) (H:Hp) (s:Shared) (e:Value) (s':Shared),Inv X U Z H s->CX X.stack H s E e s'->X.xe e s'
section
variable {CX:AG}{k:Nat}{f C:Addr}{fd:FuncData}{sp:Sp}{vJ:List V}{ds:List Value}{E:XK}{m:Str}{ta:TE}{t:TA}
theorem CM{Q:VK}{us:List Value}{vs:List V}(F:c_ X.prog X.w X.K X.mg X.base CX k f fd ps sp)(hr:cp k X.A)(hb:Binds X.K fd ps ds)(hd:Vals vJ ds)(hx:Passes CX X E)
  (I:Inv X U Z H s) (r:Vals vs us) (h:sp (vs++vJ) H Q E):wpAny (model X.prog X.w) X.A (call (.ref f) us) (EP X U Z Q) X.xe s:=by
 have r2:Vals (vs++vJ) (us++ds):=r.append hd;have hl:(us++ds).length=ps.length:=by rw[<-r2.length];exact F.len _ _ _ _ h
 refine nL (gq (F.run X.A X.stack s H ⟨us,[]⟩ (us++ds) (vs++vJ) Q E hr I.Pb (hb s us I.kn hl) r2 h) fun r s' hq=>?_);cases r with
 |error e=>exact hx U Z H s e s' I hq
 |ok fl=>
  cases fl with
  |ret u=>exact I.after hq
  |_=>exact False.elim hq
theorem D_(F:c_ X.prog X.w X.K X.mg X.base CX k f fd ps sp)(hr:cp k X.A)(hg:Gl X x)(hm:X.mg x=some (.ref f))(hk:PySem.W.keepIn X.K (.ref f)=true)(hb:Binds X.K fd ps ds)(hd:Vals vJ ds)(hx:Passes CX X E)
  (ha:PA X (e::es) t) (dZ:Db x:=by decide) (he:starEach (e::es) X.env=(false,eval e X.env)::starEach es X.env:=by rfl) (mL:(backTo pos (starEach es X.env)).any (·.1)=false:=by rfl):
  PE X (.Call (.Name x p) (e::es) [] pos) (NS sp vJ E t):=by
 intro U s Z H Q I h;refine kX (oY I hg hm ?_ dZ);refine ve (h₀:=X.base) I.ok.mod.NL hk (dc (ha pos U s Z H _ I h) fun us s1 ⟨vs,H1,I1,r,q⟩=>⟨I1.kn,?_⟩) he mL;exact CM F hr hb hd hx I1 r q
theorem Ea{pl:Sem Bool}(he:PE X o ta)(c:CH X.K C)(hm:Meth X.K C m f)(F:c_ X.prog X.w X.K X.mg X.base CX k f fd ps sp)(hr:cp k X.A)(hb:Binds X.K fd ps ds)(hd:Vals vJ ds)(hx:Passes CX X E)(ha:PA X (e::es) t)
  (bH:starEach (e::es) X.env=(false,eval e X.env)::starEach es X.env:=by rfl) (mL:(backTo pos (starEach es X.env)).any (·.1)=false:=by rfl)
  (ht:eval (.Call (.Attribute o m b6) (e::es) [] pos) X.env=rH pos b6 o m (e::es) X.env pl:=by rfl):
  PE X (.Call (.Attribute o m b6) (e::es) [] pos) (NT C m sp vJ E ta t):=by
 intro U s Z H Q I h;refine PySem.W.methodCall_KW (pl:=pl) (dc (he U s Z H _ I h) fun u s1 ⟨x,H1,I1,rx,a,dx,fs,ex,ea,l,q⟩=>?_) ht;subst ex;obtain rfl:u=Value.ref a:=rx;refine vI I1 ea c hm l ?_
 refine ve (first:=[.ref a]) (h₀:=X.base) I.ok.mod.NL hm.kp (dc (ha pos U s1 Z H1 _ I1 q) fun us s2 ⟨vs,H2,I2,r,q2⟩=>⟨I2.kn,?_⟩) bH mL;exact CM (us:=.ref a::us) (vs:=.ref a::vs) F hr hb hd hx I2 (.cons rfl r) q2
theorem AH{pl:Sem Bool}(he:PE X o ta)(c:CH X.K C)(hm:Meth X.K C m f)(F:c_ X.prog X.w X.K X.mg X.base CX k f fd ps sp)(hr:cp k X.A)(hb:Binds X.K fd ps ds)(hd:Vals vJ ds)(hx:Passes CX X E)
  (ht:eval (.Call (.Attribute o m b6) [] [] pos) X.env=rH pos b6 o m [] X.env pl:=by rfl):
  PE X (.Call (.Attribute o m b6) [] [] pos) (NT C m sp vJ E ta O_):=by
 intro U s Z H Q I h;refine PySem.W.methodCall_KW (pl:=pl) (dc (he U s Z H _ I h) fun u s1 ⟨x,H1,I1,rx,a,dx,fs,ex,ea,l,q⟩=>?_) ht;subst ex;obtain rfl:u=Value.ref a:=rx;refine vI I1 ea c hm l ?_
 exact PySem.W.callWith_K0 (first:=[.ref a]) I1.kn hm.kp (CM (us:=[.ref a]) (vs:=[.ref a]) F hr hb hd hx I1 (.cons rfl .nil) q)
structure Mk(K:Frag)(C f:Addr):Prop where
 makes:PySem.W.makesIn K C=true
 init:PySem.W.findIn K (.ref C) "__init__"=some (some (.ref f))
 fn:PySem.W.isFn K (.ref f)=true
 kp:PySem.W.keepIn K (.ref C)=true
theorem AI{Q:VK}{us:List Value}{vs:List V}(M:Mk X.K C f)(F:c_ X.prog X.w X.K X.mg X.base CX k f fd ps sp)(hr:cp (k+1) X.A)(hb:Binds X.K fd ps ds)(hd:Vals vJ ds)
  (hx:Passes CX X E) (I:Inv X U Z H s) (r:Vals vs us)
  (h:∀x dx,H x=none->H dx=none->dx≠x->sp (.ref x::(vs++vJ)) (upd (upd H dx (.own x)) x (.ins C dx [])) (fun v H2=>v=.bK/\Q (.ref x) H2) E):
  wpAny (model X.prog X.w) X.A (call (.ref C) us) (EP X U Z Q) X.xe s:=by
 have hq:=h (s.heap.objs.size+1) s.heap.objs.size (I.cj.fresh (nJ _)) (I.cj.fresh (aN _)) (bc (nq _));have I2:=Inv.made (C:=C) I;have r2:Vals (V.ref (s.heap.objs.size+1)::(vs++vJ)) (Value.ref (s.heap.objs.size+1)::(us++ds)):=.cons rfl (r.append hd);have hl:(Value.ref (s.heap.objs.size+1)::us++ds).length=ps.length:=by
  have e:=r2.length;rw[F.len _ _ _ _ hq]at e;exact e.symm
 refine nL (HP (f:=f) I.kn M.makes M.init (dR.mp M.fn) (gq (F.run _ X.stack _ _ ⟨Value.ref (s.heap.objs.size+1)::us,[]⟩ (Value.ref (s.heap.objs.size+1)::(us++ds)) _ _ E (hr.make C us [])
  (I2.Pb.make C us []) (hb _ (Value.ref (s.heap.objs.size+1)::us) I2.kn hl) r2 hq) fun r s' Ym=>?_))
 cases r with
 |error e=>exact hx U Z _ _ e s' I2 Ym
 |ok fl=>
  cases fl with
  |ret u=>
   obtain⟨v,H',I3,rv,ev,q3⟩:=I2.after Ym;subst ev;exact⟨rv,⟨V.ref (s.heap.objs.size+1),H',I3,rfl,q3⟩⟩
  |_=>exact False.elim Ym
theorem Lp(M:Mk X.K C f)(F:c_ X.prog X.w X.K X.mg X.base CX k f fd ps sp)(hr:cp (k+1) X.A)(hg:Gl X x)(hm:X.mg x=some (.ref C))(hb:Binds X.K fd ps ds)(hd:Vals vJ ds)(hx:Passes CX X E)
  (ha:PA X (e::es) t) (dZ:Db x:=by decide) (he:starEach (e::es) X.env=(false,eval e X.env)::starEach es X.env:=by rfl) (mL:(backTo pos (starEach es X.env)).any (·.1)=false:=by rfl):
  PE X (.Call (.Name x p) (e::es) [] pos) (NU C sp vJ E t):=by
 intro U s Z H Q I h;refine kX (oY I hg hm ?_ dZ);refine ve (h₀:=X.base) I.ok.mod.NL M.kp (dc (ha pos U s Z H _ I h) fun us s1 ⟨vs,H1,I1,r,q⟩=>⟨I1.kn,?_⟩) he mL;exact AI M F hr hb hd hx I1 r q
theorem HS(M:Mk X.K C f)(F:c_ X.prog X.w X.K X.mg X.base CX k f fd ps sp)(hr:cp (k+1) X.A)(hg:Gl X x)(hm:X.mg x=some (.ref C))(hb:Binds X.K fd ps ds)(hd:Vals vJ ds)(hx:Passes CX X E)
  (dZ:Db x:=by decide):PE X (.Call (.Name x p) [] [] pos) (NU C sp vJ E O_):=by
 intro U s Z H Q I h;refine kX (oY I hg hm ?_ dZ);exact PySem.W.callWith_K0 I.kn M.kp (AI (us:=[]) M F hr hb hd hx I .nil h)
end
structure fL(N P:List Str)(sc:Scope):Prop where
 kind:sc.kind=.function
 co:sc.isCoroutine=false
 gen:sc.isGenerator=false
 nd:N.Nodup
 pre:N.take P.length=P
 par:∀x∈P,sc.names.lookup x=some .local\/sc.names.lookup x=some .cell
 Pc:∀y∈sc.names,y.2≠ .free
theorem x9{kindOf:Str->Option NameKind}:∀{binds:List (Str×Value)} {m:Str->Option Value},(∀v,(x,v)∉binds)->bindL kindOf binds m x=m x
 |[],_,_=>rfl
 |(n,v)::r,m,h=>by
  unfold bindL;rw[x9 fun w hw=>h w (bI _ hw)];split
  ·have:x≠n:=by rintro rfl;exact h v bR
   simp[this]
  ·rfl
theorem x_{kindOf:Str->Option NameKind}:∀{binds:List (Str×Value)} {m:Str->Option Value},(∀v,(x,v)∉binds)->bindC kindOf binds m x=m x
 |[],_,_=>rfl
 |(n,v)::r,m,h=>by
  unfold bindC;rw[x_ fun w hw=>h w (bI _ hw)];split
  ·rfl
  ·have:x≠n:=by rintro rfl;exact h v bR
   simp[this]
theorem ya{kindOf:Str->Option NameKind}{v:Value}:∀{P:List Str} {vs:List Value} {i:Nat} {m:Str->Option Value},P.Nodup->P[i]?=some x->vs[i]?=some v->kindOf x=some .local->
  bindL kindOf (P.zip vs) m x=some v
 |[],_,_,_,_,h,_,_=>by simp at h
 |_::_,[],_,_,_,_,h,_=>by simp at h
 |p::P,w::vs,0,m,nd,h1,h2,hk=>by
  simp at h1 h2;subst h1;subst h2;show bindL kindOf ((p,w)::P.zip vs) m p=_;unfold bindL;rw[x9 fun v hv=>(fH.mp nd).1 (rb hv).1,ag hk];simp
 |p::P,w::vs,i+1,m,nd,h1,h2,hk=>by
  show bindL kindOf ((p,w)::P.zip vs) m x=_;unfold bindL;exact ya (i:=i) (fH.mp nd).2 (by simpa using h1) (by simpa using h2) hk
theorem yb{kindOf:Str->Option NameKind}{v:Value}:∀{P:List Str} {vs:List Value} {i:Nat} {m:Str->Option Value},P.Nodup->P[i]?=some x->vs[i]?=some v->kindOf x≠some .local->
  bindC kindOf (P.zip vs) m x=some v
 |[],_,_,_,_,h,_,_=>by simp at h
 |_::_,[],_,_,_,_,h,_=>by simp at h
 |p::P,w::vs,0,m,nd,h1,h2,hk=>by
  simp at h1 h2;subst h1;subst h2;show bindC kindOf ((p,w)::P.zip vs) m p=_;unfold bindC;rw[x_ fun v hv=>(fH.mp nd).1 (rb hv).1,ak hk];simp
 |p::P,w::vs,i+1,m,nd,h1,h2,hk=>by
  show bindC kindOf ((p,w)::P.zip vs) m x=_;unfold bindC;exact yb (i:=i) (fH.mp nd).2 (by simpa using h1) (by simpa using h2) hk
def start(N:List Str)(vs:List V):St:=vs.map some++List.replicate (N.length - vs.length) none
def mX(CX:AG)(P:Program)(w:World)(K:Frag)(mg:Str->Option Value)(base:Heap)(N:List Str)(qual:Str)(scope:Scope)(f:Addr)(cd:Value)(A:Around)(outer:List Env)(s:Shared)(H:Hp)(E:XK):Cx where
 prog:=P
 w:=w
 K:=K
 mg:=mg
 base:=base
 A:=A.deeper (envOfC qual scope s.heap.objs.size f cd)
 N:=N
 eZ:=s
 AB:=H
 env:=envOfC qual scope s.heap.objs.size f cd
 outer:=outer
 stack:=envOfC qual scope s.heap.objs.size f cd::outer
 ex:=[]
 calm:=true
 fn:=fun _=>true
 pn:=[]
 xe:=fun e s'=>wpAny (model P w) (A.deeper (envOfC qual scope s.heap.objs.size f cd)) (leaving (envOfC qual scope s.heap.objs.size f cd) e) (fun _ Pd=>CX outer H s E e Pd) (fun e' Pd=>CX outer H s E e' Pd) s'
theorem AJ{sc:Scope}{n:Nat}(h:sc.names.lookup x=some .cell):∃c,(cellsFrom n sc.names []).lookup x=some c:=by
 have q:=PySem.W.cellsFrom_some sc.names n [] (.inl h);exact u5.mp q
theorem F2{CX:AG}{base:Heap}{N:List Str}{qual:Str}{scope:Scope}{f:Addr}{cd:Value}{outer:List Env}{s1:Shared}{E:XK}{us:List Value}{vs:List V}
  (S:fL N ps scope) (hd:A.handled=none) (e0:xC P w K mg base A outer s H) (hl:vs.length=ps.length) (r:Vals vs us)
  (x:InCallC s s.heap.objs.size (bindL (envOfC qual scope s.heap.objs.size f cd).kindOf (ps.zip us) fun _=>none) (cellsFrom (s.heap.objs.size+1) scope.names []) (bindC (envOfC qual scope s.heap.objs.size f cd).kindOf (ps.zip us) fun _=>none) s1):
  Inv (mX CX P w K mg base N qual scope f cd A outer s H E) [] (start N vs) H s1:=by
 have mL:ps.length<=N.length:=by have:=cw List.length S.pre;rw[List.length_take]at this;omega
 obtain⟨h1,tk,rfl,hk⟩:=x.done;have TN:∀b:Addr,b∉(mX CX P w K mg base N qual scope f cd A outer s H E).ex:=fun b z=>absurd (show b∈([]:List Addr)from z) (by simp);refine⟨⟨e0.mod,S.kind,rfl,rfl,aN _,fun y z c h1 h2=>?_,fun y hy=>?_,fun y c _ h=>?_,fun _=>hd,Around.frames_deeper e0.frames,.inr ⟨rfl,rfl⟩,fun b z=>absurd z (TN b),e0.bs,e0.FP,fun b _ _=>TN b,fun b z=>absurd z (TN b),e0.pH,e0.Ht⟩,
  rfl,e0.bare,Un.kept hk,⟨_,x.toInCall.ns,fun i y v h1 h2 h3=>?_⟩,fun y c h=>⟨_,x.cell y c h⟩,e0.cj.fresh (aN _),fun y c h=>?_,fun p hp=>absurd (show p∈([]:List (Addr×Obj))from hp) (by simp),e0.cj.kept hk,?_⟩
 ·exact name_of_addr x.apart (jV h1) (jV h2)
 ·have hy:scope.names.lookup y=some .cell\/scope.names.lookup y=some .free:=hy;rcases hy with hy|hy
  ·exact AJ hy
  ·exact absurd rfl (S.Pc _ (jV hy))
 ·exact cQ (x.above y c (jV h))
 ·have hi:i<vs.length:=by
   unfold start at h2;by_cases hi:i<vs.length
   ·exact hi
   ·rw[u3 (by simpa using hi)]at h2;rw[qK]at h2;split at h2<;>cases h2
  have ha:vs[i]?=some v:=by
   unfold start at h2;rw[m7 (by simpa using hi),bg]at h2;cases e:vs[i]? with
   |none=>rw[e]at h2;cases h2
   |some a=>rw[e]at h2;cases h2;rfl
  obtain⟨u,hu,rv⟩:=r.get ha;have hp:ps[i]?=some y:=by
   rw[<-S.pre,List.getElem?_take_of_lt (by omega)];exact h1
  have ndP:ps.Nodup:=by rw[<-S.pre];exact S.nd.sublist (List.take_sublist _ _)
  refine⟨u,rv,?_⟩;rcases S.par y (cV hp)with k|k
  ·exact .inl ⟨k,ya ndP hp hu k⟩
  ·obtain⟨c,e⟩:=AJ (n:=s.heap.objs.size+1) k;refine .inr ⟨.inl k,c,e,?_⟩;have q:=x.cell y c e;rw[yb ndP hp hu (by show scope.names.lookup y≠_;rw[k];decide)]at q;exact q
 ·exact e0.cj.fresh (cQ (x.above y c (jV h)))
 ·unfold start;show _=N.length;rw[cD,aC,vc];omega
theorem NV{CX:AG}{base:Heap}{k:Nat}{f:Addr}{name qual:Str}{params:Arguments}{body:List Stmt}{scope:Scope}{dV kV doc pm eI ct oc:Value}{an od:Option Addr}
  {HU:Array (Option Value)} {N:List Str} {sp:Sp} (lk:K.lookup f=some ⟨oc,od,.func (PySem.W.fnOf name qual params body scope dV kV doc pm an eI ct),HU⟩) (Cy:PySem.W.codeIn K eI qual=true) (S:fL N ps scope)
  (len:∀vs H Q E,sp vs H Q E->vs.length=ps.length)
  (jz:∀(A:Around) (outer:List Env) (s:Shared) (H:Hp) (vs:List V) (Q:VK) (E:XK),cp k (A.deeper (envOfC qual scope s.heap.objs.size f eI))->sp vs H Q E->
   ∃t,m6 (mX CX P w K mg base N qual scope f eI A outer s H E) body t/\t {nx:=fun _ H'=>Q .bK H',rt:=Q} (start N vs) H):
  c_ P w K mg base CX (k+1) f (PySem.W.fnOf name qual params body scope dV kV doc pm an eI ct) ps sp:=by
 refine⟨len,fun A outer s H args us vs Q E hr e0 hb r HV=>?_⟩;have hl:=len _ _ _ _ HV;have KX:K.In s.heap:=e0.mod.NL.keeps fun b o e=>(e0.bs b o e).1;have lim:s.heap.NoLimit:=e0.mod.nolimit.keeps fun b o e=>(e0.bs b o e).1;have TQ:∀y∈ps.zip us,scope.names.lookup y.1=some .local\/(scope.names.lookup y.1=some .cell/\((cellsFrom (s.heap.objs.size+1) scope.names []).lookup y.1).isSome=true):=fun⟨n,v⟩ hy=>by
  rcases S.par n (rb hy).1 with q|q
  ·exact .inl q
  ·exact .inr ⟨q,PySem.W.cellsFrom_some _ _ _ (.inl q)⟩
 refine codeAny_call_function hr.depth (KX _ _ lk) rfl S.co S.gen rfl (PySem.W.codeRec_of KX Cy) (hb _ _ _ _ ?_);refine wpAny_newFunctionEnv_cells S.kind TQ fun env he s1 x=>?_
 subst he;refine⟨lim.keeps x.toInCall.keep,codeAny_func ?_⟩;obtain⟨t,ht,hq⟩:=jz A outer s H vs Q E (hr.deeper _) HV;have I:Inv (mX CX P w K mg base N qual scope f eI A outer s H E) [] (start N vs) H s1:=F2 S hr.hd e0 hl r x;refine cX (ht [] s1 (start N vs) H _ I hq) (fun fl s' hs=>?_) fun e s' hs=>hs;have fin:∀{cI:St} {H':Hp} {v:V} {u:Value},Inv (mX CX P w K mg base N qual scope f eI A outer s H E) [] cI H' s'->RelV v u->Q v H'->CE outer P w H s Q u s':=
  fun{cI H' v u} J rv q=>⟨v,H',J.os,J.bare,J.base,J.cj,rv,q⟩
 cases fl with
 |ret u=>
  obtain⟨v,cI,H',J,rv,q⟩:=hs;exact fin J rv q
 |next=>
  obtain⟨cI,H',J,q⟩:=hs;exact fin (v:=V.bK) (u:=Value.none) J rfl q
 |brk=>
  obtain⟨_,_,_,q⟩:=hs;exact False.elim q
 |cont=>
  obtain⟨_,_,_,q⟩:=hs;exact False.elim q
section
variable {t:TA}{id T:String}{r:List V->Hp->VK->Prop}
def Yn(r:List V->Hp->VK->Prop)(t:TA):TE:=fun Z H Q=>t Z H fun vs H1=>r vs H1 Q
theorem nP(hc:fj X (.builtin id) r)(hg:Gl X x)(hm:X.mg x=none)(hv:bootBuiltins x=some (.builtin id))(ha:PA X (e::es) t)(hn:x≠"__name__":=by decide) (dZ:Db x:=by decide)
  (he:starEach (e::es) X.env=(false,eval e X.env)::starEach es X.env:=by rfl) (mL:(backTo pos (starEach es X.env)).any (·.1)=false:=by rfl):PE X (.Call (.Name x p) (e::es) [] pos) (Yn r t):=by
 intro U s Z H Q I h;refine kX (sW I hg hm hv ?_ hn dZ);exact PyProof.Rows.callWith_builtin1 (dc (ha pos U s Z H _ I h) fun us s1 ⟨vs,H1,I1,r1,q1⟩=>hc U s1 Z H1 vs us Q I1 r1 q1) he mL
theorem sY(hc:fj X (.type T) r)(hg:Gl X x)(hm:X.mg x=none)(hv:bootBuiltins x=some (.type T))(ha:PA X (e::es) t)(hn:x≠"__name__":=by decide) (dZ:Db x:=by decide)
  (he:starEach (e::es) X.env=(false,eval e X.env)::starEach es X.env:=by rfl) (mL:(backTo pos (starEach es X.env)).any (·.1)=false:=by rfl):PE X (.Call (.Name x p) (e::es) [] pos) (Yn r t):=by
 intro U s Z H Q I h;refine kX (sW I hg hm hv ?_ hn dZ);exact u0 (dc (ha pos U s Z H _ I h) fun us s1 ⟨vs,H1,I1,r1,q1⟩=>hc U s1 Z H1 vs us Q I1 r1 q1) he mL
end
abbrev TO:=St->Hp->(Option Int->Hp->Prop)->Prop
def PO(X:Cx)(e:Option Expr)(t:TO):Prop:=
 ∀(U:List (Addr×Obj)) (s:Shared) (Z:St) (H:Hp) (Q:Option Int->Hp->Prop),Inv X U Z H s->t Z H Q->
  wpAny (model X.prog X.w) X.A (evalPart e X.env) (fun u s'=>∃o H',Inv X U Z H' s'/\IsPart u o/\Q o H') X.xe s
def Lq:TO:=fun _ H Q=>Q none H
def TR(t:TE):TO:=fun Z H Q=>t Z H fun x H1=>∃i,x=.int i/\Q (some i) H1
section
variable {te:TE}{lo hi:Option Expr}{tl th:TO}{p2:Pos}
theorem Lr:PO X none Lq:=by
 intro U s Z H Q I h;rw[evalPart_none];exact ar ⟨none,H,I,.none,h⟩
theorem Ls(h:PE X e te):PO X (some e) (TR te):=by
 intro U s Z H Q I hw;rw[evalPart_some];refine dc (h U s Z H _ I hw) fun u s1 ⟨x,H1,I1,r1,q1⟩=>?_
 obtain⟨i,rfl,q⟩:=q1;obtain⟨t,rfl⟩:=r1;exact⟨some i,H1,I1,.int i t,q⟩
def SD(X:Cx)(r:V->Option Int->Option Int->Hp->VK->Prop):Prop:=
 ∀(U:List (Addr×Obj)) (s:Shared) (Z:St) (H:Hp) (x:V) (v vl vu:Value) (lo hi:Option Int) (sl:Addr) (Q:VK),Inv X U Z H s->RelV x v->s.heap.IsSliceOf sl vl vu .none->IsPart vl lo->IsPart vu hi->r x lo hi H Q->
  ∃T id,typeLookup (.type T) "__getitem__"=pure (some (.builtin id))/\s.TypeIs v T/\wpAny (model X.prog X.w) X.A (getItem v (.ref sl)) (EP X U Z Q) X.xe s
def tSl(r:V->Option Int->Option Int->Hp->VK->Prop)(te:TE)(tl th:TO):TE:=fun Z H Q=>te Z H fun x H1=>tl Z H1 fun l H2=>th Z H2 fun u H3=>r x l u H3 Q
theorem HW{r:V->Option Int->Option Int->Hp->VK->Prop}(hr:SD X r)(he:PE X e te)(hl:PO X lo tl)(hu:PO X hi th):PE X (.Subscript e (.Slice lo hi none p2) pos) (tSl r te tl th):=by
 intro U s Z H Q I h;refine Subscript_ (dc (he U s Z H _ I h) fun v s1 ⟨x,H1,I1,r1,q1⟩=>?_);refine wpAny_Slice (dc (hl U s1 Z H1 _ I1 q1) fun vl s2 ⟨l,H2,I2,pl,q2⟩=>dc (hu U s2 Z H2 _ I2 q2) fun vu s3 ⟨u,H3,I3,pu,q3⟩=>?_);rw[evalPart_none];refine ar ?_
 have I4:Inv X U Z H3 {s3 with heap:=s3.heap.push {cls:=.type "slice",data:=.fields #[vl,vu,.none]}}:=I3.kept (t':=s3.toks) fun b ob q=>aX _ q;obtain⟨T,id,hT,ht,hg⟩:=hr U {s3 with heap:=s3.heap.push {cls:=.type "slice",data:=.fields #[vl,vu,.none]}} Z H3 x v vl vu l u s3.heap.objs.size Q I4 r1 (Heap.IsSliceOf.new ..) pl pu q3;show wpAny (model X.prog X.w) X.A (subscriptTail e (.Slice lo hi none p2) v (.ref s3.heap.objs.size)) (EP X U Z Q) X.xe {s3 with heap:=s3.heap.push {cls:=.type "slice",data:=.fields #[vl,vu,.none]}};exact tail_any (ops:=[.ref s3.heap.objs.size,v]) ht hT hg (by with_unfolding_all rfl)
def AK(xs:List V)(lo hi:Option Int):List V:=(xs.drop (HT.fK xs.length 0 lo)).take (HT.fK xs.length xs.length hi - HT.fK xs.length 0 lo)
theorem uc(xs:List V)(lo hi:Option Int):(AK xs lo hi).length<=xs.length:=by
 unfold AK;rw[List.length_take,List.length_drop];omega
def Yo(K:Frag):V->Option Int->Option Int->Hp->VK->Prop:=fun x lo hi H Q=>∃a xs,x=.ref a/\gR K H a xs/\
 ¬(HT.fK xs.length 0 lo=0/\HT.fK xs.length xs.length hi=xs.length)/\∀p,H p=none->Q (.ref p) (upd H p (.tup (AK xs lo hi)))
theorem Pe:SD X (Yo X.K):=by
 intro U s Z H x v vl vu lo hi sl Q I rx hs pl pu h;obtain⟨a,xs,rfl,hx,hw,q⟩:=h;cases rx;obtain⟨bz,r,ht,hz⟩:=I.tuple hx;have b7:bz.toArray.size=xs.length:=by rw[b_];exact r.length.symm
 refine⟨"tuple",_,u4.lookup,ht.typeIs,?_⟩;refine HT.rG ht hs pl pu (by rw[b7];exact hw) ?_ (by rw[b7];exact hz)
 rw[b7];refine⟨.ref s.heap.objs.size,_,I.laid (t':=s.toks) (o:=.tup (AK xs lo hi)) (fun b ob q=>aX _ q) (aN _) ?_,rfl,q _ (I.cj.fresh (aN _))⟩;exact⟨bJ (uc xs lo hi) hz,_,(r.drop (HT.fK xs.length 0 lo)).take (HT.fK xs.length xs.length hi - HT.fK xs.length 0 lo),IsTup.new _ _⟩
def TU(K:Frag):R2:=fun x y H Q=>∃a b xs ys,x=.ref a/\y=.ref b/\gR K H a xs/\gR K H b ys/\xs≠[]/\xs.length+ys.length<=sizeLine/\
 (ys=[]->Q (.ref a) H)/\(ys≠[]->∀p,H p=none->Q (.ref p) (upd H p (.tup (xs++ys))))
theorem Vals.y9 {xs:List V}{us:List Value}(r:Vals xs us):us=[]↔xs=[]:=by
 cases r with
 |_=>simp
theorem Lu:uL X (binaryOp .Add) (TU X.K):=by
 intro U s Z H x y v u Q I rx ry h;obtain⟨a,b,xs,ys,rfl,rfl,ha,hb,hx,hz,q1,q2⟩:=h;cases rx;cases ry;obtain⟨bz,r1,p1,_⟩:=I.tuple ha;obtain⟨vK,r2,p2,_⟩:=I.tuple hb;refine HT.K9 p1 p2 (fun z=>hx (r1.y9.mp z)) (fun z=>⟨.ref a,H,I,rfl,q1 (r2.y9.mp z)⟩) (fun z=>?_) (by rw[<-r1.length,<-r2.length];exact hz);refine⟨.ref s.heap.objs.size,_,I.laid (t':=s.toks) (o:=.tup (xs++ys)) (fun b ob q=>aX _ q) (aN _) ?_,rfl,q2 (fun w=>z (r2.y9.mpr w)) _ (I.cj.fresh (aN _))⟩;exact⟨by rw[cD];exact hz,_,r1.append r2,IsTup.new _ _⟩
end
def K1(n:Nat)(i:Int):Option Nat:=if 0<=i then(if i<n then some i.toNat else none)else if-(n:Int)<=i then some (i+n).toNat else none
def uy{α:Type}(xs:List α)(i:Int):Option α:=(K1 xs.length i).bind fun j=>xs[j]?
theorem Lv{n:Nat}{i:Int}{j:Nat}(h:K1 n i=some j):seqIndex? i n=some j/\j<n/\-(n:Int)<=i/\i<n:=by
 unfold K1 at h;by_cases h0:0<=i
 ·rw[ag h0]at h;by_cases h1:i<n
  ·rw[ag h1]at h;have e:i.toNat=j:=Option.some.inj h;exact⟨by rw[seqIndex_of h0 h1,e],by omega,by omega,h1⟩
  ·rw[ak h1]at h;cases h
 ·rw[ak h0]at h;by_cases h1:-(n:Int)<=i
  ·rw[ag h1]at h;have e:(i+n).toNat=j:=Option.some.inj h;exact⟨by rw[seqIndex_neg (by omega) h1,e],by omega,h1,by omega⟩
  ·rw[ak h1]at h;cases h
theorem y_{α:Type}{xs:List α}{i:Int}{v:α}(h:uy xs i=some v):∃j,seqIndex? i xs.length=some j/\xs[j]?=some v/\j<xs.length/\-(xs.length:Int)<=i/\i<xs.length:=by
 unfold uy at h;cases e:K1 xs.length i with
 |none=>rw[e]at h;cases h
 |some j=>
  rw[e]at h;obtain⟨h1,h2,h3,h4⟩:=Lv e;exact⟨j,h1,h,h2,h3,h4⟩
theorem Eb{α:Type}{xs:List α}{j:Nat}{v:α}(h:xs[j]?=some v):uy xs (j:Int)=some v:=by
 have hj:j<xs.length:=(eR.mp h).1;have e:K1 xs.length (j:Int)=some j:=by
  unfold K1;rw[ag (by omega),ag (by omega)];simp
 unfold uy;rw[e];exact h
def rQ(b:Expr):Prop:=∀o i,subscripted b false o i=operate [o,i] (getItem o i)
def TV(X:Cx)(r:R2):Prop:=
 ∀(value slice:Expr) (U:List (Addr×Obj)) (s:Shared) (Z:St) (H:Hp) (x y:V) (v u:Value) (Q:VK),Inv X U Z H s->RelV x v->RelV y u->r x y H Q->
  subscripted slice false v u=operate [v,u] (getItem v u)->wpAny (model X.prog X.w) X.A (subscriptTail value slice v u) (EP X U Z Q) X.xe s
def Pf(X:Cx)(id:String)(r:V->List V->Hp->VK->Prop):Prop:=
 ∀(U:List (Addr×Obj)) (s:Shared) (Z:St) (H:Hp) (x:V) (xs:List V) (v:Value) (us:List Value) (Q:VK),Inv X U Z H s->RelV x v->Vals xs us->r x xs H Q->
  wpAny (model X.prog X.w) X.A (call (.builtin id) (v::us)) (EP X U Z Q) X.xe s
section
variable {a b:Expr}{ta tb:TE}
theorem NW{r:R2}(hr:TV X r)(ha:PE X a ta)(hb:PE X b tb)(hs:rQ b):PE X (.Subscript a b pos) (O1 r ta tb):=by
 intro U s Z H Q I h;exact Subscript_ (O2 ha hb I h fun v u s2 x y H2 I2 rx ry q=>hr a b U s2 Z H2 x y v u Q I2 rx ry q (hs _ _))
def Yp(K:Frag):R2:=fun x y H Q=>∃p xs i v,x=.ref p/\y=.int i/\jZ K H p xs/\uy xs i=some v/\Q v H
def Yq(K:Frag):R2:=fun x y H Q=>∃p xs i v,x=.ref p/\y=.int i/\gR K H p xs/\uy xs i=some v/\Q v H
def Yr:R2:=fun x y H Q=>∃z i c,x=.str z/\y=.int i/\z.length<=sizeLine/\uy z.cps.toList i=some c/\Q (.str ⟨#[c]⟩) H
theorem Ec:TV X (Yp X.K):=by
 intro value slice U s Z H x y v u Q I rx ry h hs;obtain⟨p,xs,i,z,rfl,rfl,hq,he,q⟩:=h;cases rx;obtain⟨t,rfl⟩:=ry;obtain⟨bz,r,pl,hz⟩:=I.list hq;obtain⟨j,h1,h2,h3,h4,h5⟩:=y_ he;obtain⟨w,ew,nQ⟩:=r.get h2;have hl:=r.length;have hn:=vH;have fin:EP X U Z Q w s:=⟨z,H,I,nQ,q⟩;by_cases h0:0<=i
 ·have hj:i.toNat=j:=by
   rw[seqIndex_of h0 h5]at h1;exact Option.some.inj h1
  exact item_listR pl.isList h0 (by omega) (by rw[hj];simpa using ew) fin hs
 ·have hj:(i+(bz.toArray.size:Int)).toNat=j:=by
   rw[seqIndex_neg (by omega) h4]at h1;rw[b_,<-hl];exact Option.some.inj h1
  exact subscriptTail_builtinR (x:=w) pl.isList.typeIs slot_list_getitem.lookup
   (wpAny_getItem_list_neg (Q:=fun r s'=>r=w/\EP X U Z Q r s') pl.isList (by omega) (by rw[b_]<;>omega) (by omega) (by rw[hj];simpa using ew) ⟨rfl,fin⟩) hs
theorem Pg:TV X (Yq X.K):=by
 intro value slice U s Z H x y v u Q I rx ry h hs;obtain⟨p,xs,i,z,rfl,rfl,hq,he,q⟩:=h;cases rx;obtain⟨t,rfl⟩:=ry;obtain⟨bz,r,pl,hz⟩:=I.tuple hq;obtain⟨j,h1,h2,h3,h4,h5⟩:=y_ he;obtain⟨w,ew,nQ⟩:=r.get h2;have hl:=r.length;have hn:=vH;have fin:EP X U Z Q w s:=⟨z,H,I,nQ,q⟩;exact subscriptTail_builtinR (x:=w) pl.typeIs u4.lookup
  (getItem_tuple (j:=j) (Q:=fun r s'=>r=w/\EP X U Z Q r s') pl (by omega) (by omega) (by rw[b_,<-hl];exact h1) (by simpa using ew) ⟨rfl,fin⟩) hs
theorem Ph:TV X Yr:=by
 intro value slice U s Z H x y v u Q I rx ry h hs;obtain⟨z,i,c,rfl,rfl,hz,he,q⟩:=h;obtain⟨t,rfl⟩:=rx;obtain⟨t',rfl⟩:=ry;obtain⟨j,h1,h2,h3,h4,h5⟩:=y_ he;have hl:z.cps.toList.length=z.length:=by simp[Str.length]
 rw[hl]at h1 h4 h5;have hn:=vH;exact tail_any (typeIs_str s z t) slot_str_getitem.lookup (getItem_str (c:=c) (by
  have e1:decide (i< -(2 ^63:Int))=false:=d_ (by omega);have e2:decide (i>=2 ^63)=false:=d_ (by omega);rw[e1,e2,rj]) (by rw[h1];simpa using h2) ⟨.str ⟨#[c]⟩,H,I.tok _,⟨_,rfl⟩,q⟩) hs
theorem y'(lo hi:Option Int)(n:Nat):(sliceBounds lo hi none n).1=((HT.fK n 0 lo:Nat):Int)/\(sliceBounds lo hi none n).2.1=((HT.fK n n hi:Nat):Int)/\(sliceBounds lo hi none n).2.2=1:=by
 refine⟨?_,?_,rfl⟩
 ·cases lo with
  |none=>simp[sliceBounds,HT.fK]
  |some i=>
   simp only[sliceBounds,HT.fK,Option.getD_none,show(1:Int)>0 by decide,bB];by_cases h:i<0
   ·simp only[h,bB]<;>omega
   ·simp only[h,bw]<;>omega
 ·cases hi with
  |none=>simp[sliceBounds,HT.fK]
  |some i=>
   simp only[sliceBounds,HT.fK,Option.getD_none,show(1:Int)>0 by decide,bB];by_cases h:i<0
   ·simp only[h,bB]<;>omega
   ·simp only[h,bw]<;>omega
theorem xD(bz:List Value)(lo hi:Option Int):slicePick bz.toArray lo hi none=((bz.drop (HT.fK bz.length 0 lo)).take (HT.fK bz.length bz.length hi - HT.fK bz.length 0 lo)).toArray:=by
 obtain⟨h1,h2,h3⟩:=y' lo hi bz.toArray.size;unfold slicePick;rw[h1,h2,h3];simp only[sliceRange_one,pick_run,b_]<;>rfl
def Ys(K:Frag):V->Option Int->Option Int->Hp->VK->Prop:=fun x lo hi H Q=>∃a xs,x=.ref a/\jZ K H a xs/\∀p,H p=none->Q (.ref p) (upd H p (.lst (AK xs lo hi)))
theorem Lw:SD X (Ys X.K):=by
 intro U s Z H x v vl vu lo hi sl Q I rx hs pl pu h;obtain⟨a,xs,rfl,hx,q⟩:=h;cases rx;obtain⟨bz,r,ht,hz⟩:=I.list hx;have b7:=r.length;refine⟨"list",_,slot_list_getitem.lookup,ht.isList.typeIs,?_⟩;refine wpAny_getItem_list_slice ht.isList hs pl pu .none (by simp) ?_ (by rw[b_]<;>omega)
 rw[xD,<-b7];refine⟨.ref s.heap.objs.size,_,I.laid (t':=s.toks) (o:=.lst (AK xs lo hi)) (fun b ob q=>aX _ q) (aN _) ?_,rfl,q _ (I.cj.fresh (aN _))⟩;exact⟨bJ (uc xs lo hi) hz,_,0,(r.drop (HT.fK xs.length 0 lo)).take (HT.fK xs.length xs.length hi - HT.fK xs.length 0 lo),bE _ rfl⟩
def NX:V->Bool
 |.bK=>true
 |.bl _=>true
 |.int _=>true
 |.str _=>true
 |_=>false
theorem rR:fj X (.type "list") (fun xs H Q=>∃p ys,xs=[.ref p]/\(jZ X.K H p ys\/gR X.K H p ys)/\∀l,H l=none->Q (.ref l) (upd H l (.lst ys))):=by
 intro U s Z H xs us Q I r h;obtain⟨p,ys,rfl,hq,q⟩:=h;obtain⟨u,rfl,rx⟩:=vals1 r;cases rx;have fin:∀(bz:List Value),Vals ys bz->ys.length<=sizeLine->∀(h':Heap) (c':Nat),(∀b o',s.heap.get? b=some o'->h'.get? b=some o')->
   h'.get? s.heap.objs.size=some {cls:=.type "list",dict:=none,data:=.seq bz.toArray c',slots:=#[]}->EP X U Z Q (.ref s.heap.objs.size) {s with heap:=h'}:=fun bz r' hz h' c' kp e=>
  ⟨.ref s.heap.objs.size,_,I.laid (t':=s.toks) kp (aN _) (show ck X.prog X.w _ h' _ (.lst ys)from⟨hz,bz,c',r',e⟩),rfl,q _ (I.cj.fresh (aN _))⟩
 rcases hq with hq|hq
 ·obtain⟨bz,r',pl,hz⟩:=I.list hq;have b7:=r'.length;obtain⟨o,ho,hc,n,hd⟩:=pl.isList;exact call_list_seq p (.inl rfl) ho hc hd (fun h' c' kp e=>fin bz r' hz h' c' kp e) (by simp only[b_]<;>omega)
 ·obtain⟨bz,r',pl,hz⟩:=I.tuple hq;have b7:=r'.length;obtain⟨o,ho,hc,n,hd⟩:=pl;exact call_list_seq p (.inr rfl) ho hc hd (fun h' c' kp e=>fin bz r' hz h' c' kp e) (by simp only[b_]<;>omega)
theorem pN:fj X (.type "tuple") (fun xs H Q=>∃p ys,xs=[.ref p]/\((jZ X.K H p ys/\∀l,H l=none->Q (.ref l) (upd H l (.tup ys)))\/(gR X.K H p ys/\Q (.ref p) H))):=by
 intro U s Z H xs us Q I r h;obtain⟨p,ys,rfl,h⟩:=h;obtain⟨u,rfl,rx⟩:=vals1 r;cases rx;rcases h with⟨hq,q⟩|⟨hq,q⟩
 ·obtain⟨bz,r',pl,hz⟩:=I.list hq;have b7:=r'.length;refine call_tuple_list pl.isList (fun h' kp=>?_) (by simp only[b_]<;>omega);have I1:Inv X U Z H {s with heap:=h'}:=I.kept (t':=s.toks) kp;have I2:Inv X U Z (upd H h'.objs.size (.tup ys)) {s with heap:=h'.push {cls:=.type "tuple",data:=.seq bz.toArray}}:=
   I1.laid (t':=s.toks) (fun b o e=>aX _ e) (aN _) (show ck X.prog X.w _ _ _ (.tup ys)from⟨hz,bz,r',IsTup.new _ _⟩)
  exact⟨.ref h'.objs.size,_,I2,rfl,q _ (I1.cj.fresh (aN _))⟩
 ·obtain⟨bz,r',pl,hz⟩:=I.tuple hq;exact call_tuple_same pl ⟨.ref p,H,I,rfl,q⟩
def tyV(K:Frag)(T:String)(x:V)(H:Hp):Prop:=match x with
 |.str _=>T="str"
 |.int _=>T="int"
 |.ref p=>(T="list"/\∃xs,jZ K H p xs)\/(T="tuple"/\∃o,K.lookup p=some o/\o.cls=.type "tuple"/\o.dict=none)\/
   (T="dict"/\((∃kvs,H p=some (.dK kvs))\/∃kvs,H p=some (.dT kvs)))\/(T="set"/\∃S n,H p=some (.set S n))
 |_=>False
theorem Pj{T:String}{x:V}{v:Value}(I:Inv X U Z H s)(r:RelV x v)(ty:tyV X.K T x H):
  s.TypeIs v T/\∀a,v=.ref a->∃ob,s.heap.get? a=some ob/\ob.dict=none:=by
 cases x with
 |str z=>
  obtain⟨t,rfl⟩:=r;cases(show T="str"from ty);exact⟨typeIs_str s z t,fun _ e=>nomatch e⟩
 |int i=>
  obtain⟨t,rfl⟩:=r;cases(show T="int"from ty);exact⟨typeIs_int s i t,fun _ e=>nomatch e⟩
 |ref p=>
  cases r;rcases ty with⟨rfl,xs,hq⟩|⟨rfl,o,hk,hc,hd⟩|⟨rfl,hk⟩|⟨rfl,S,n,hk⟩
  ·obtain⟨bz,_,pl,_⟩:=I.list hq;refine⟨pl.isList.typeIs,fun a e=>?_⟩;cases e;obtain⟨o,n,e,c,hd,_⟩:=pl;exact⟨o,e,hd⟩
  ·refine⟨⟨o,I.kn p o hk,hc⟩,fun a e=>?_⟩;cases e;exact⟨o,I.kn _ o hk,hd⟩
  ·have z:∃o,s.heap.get? p=some o/\o.ExactDict:=by
    rcases hk with⟨kvs,hk⟩|⟨kvs,hk⟩
    ·obtain⟨_,_,_,_,o,_,_,e,ex,_⟩:=I.cj p _ hk;exact⟨o,e,ex⟩
    ·obtain⟨_,_,_,_,o,_,_,e,ex,_⟩:=I.cj p _ hk;exact⟨o,e,ex⟩
   obtain⟨o,e,ex⟩:=z;refine⟨⟨o,e,ex.1⟩,fun a e2=>?_⟩;cases e2;exact⟨o,e,ex.2.1⟩
  ·obtain⟨o,_,_,_,e,ex,_⟩:=I.cj p _ hk;refine⟨⟨o,e,ex.1⟩,fun a e2=>?_⟩;cases e2;exact⟨o,e,ex.2.1⟩
 |_=>exact False.elim ty
def tBM(K:Frag)(T:String)(r:V->List V->Hp->VK->Prop)(to:TE)(t:TA):TE:=fun Z H Q=>to Z H fun x H1=>tyV K T x H1/\t Z H1 fun xs H2=>r x xs H2 Q
variable {to:TE}{t:TA}{name:Str}{bh:Pos}{T id:String}{r:V->List V->Hp->VK->Prop}
theorem Ed(pa:PlainAttrs T)(slot:Slot T name id)(Lx:typeOf (.builtin id)=pure (.type "method_descriptor"))(hm:Pf X id r)(ho:PE X o to)(ha:PA X (e::es) t)
  (nR:attributeBase o name X.env (eval o X.env)=eval o X.env:=by rfl)
  (Yt:((backTo bh (starEach (e::es) X.env)).all (fun x=>!x.1)&&(backToKw bh (keywordEach [] X.env)).all (fun x=>x.1.isSome)
   &&decide ((e::es).length+([]:List Keyword).length+(if([]:List Keyword).isEmpty then 0 else 1)<30))=true:=by rfl)
  (eL:(b6.endLine==bh.line)=true:=by rfl) (hs:starEach (e::es) X.env=(false,eval e X.env)::starEach es X.env:=by rfl) (Pk:(backTo bh (starEach es X.env)).any (·.1)=false:=by rfl):
  PE X (.Call (.Attribute o name b6) (e::es) [] bh) (tBM X.K T r to t):=by
 intro U s Z H Q I h;refine wpAny_Call_method_late nR Yt eL rfl (dc (ho U s Z H _ I h) fun v s1 ⟨x,H1,I1,r1,ty,q1⟩=>?_);obtain⟨h1,h2⟩:=Pj I1 r1 ty;refine⟨T,id,pa,slot,Lx,h1,h2,?_⟩;have hA:=ha bh U s1 Z H1 _ I1 q1;rw[hs]at hA⊢;refine lV (by show(false||(backTo bh (starEach es X.env)).any (·.1))=false;rw[Pk]<;>rfl) (lY ?_);exact dc hA fun us s2 ⟨vs,H2,I2,r2,q2⟩=>hm U s2 Z H2 x vs v us Q I2 r1 r2 q2
end
def Yu(X:Cx)(id:String)(r:V->List V->Hp->VK->Prop):Prop:=
 ∀(U:List (Addr×Obj)) (s:Shared) (Z:St) (H:Hp) (x:V) (xs:List V) (v:Value) (us:List Value) (Q:VK),Inv X U Z H s->RelV x v->Vals xs us->r x xs H Q->
  wpAny (model X.prog X.w) X.A (call (.builtin id) (v::us)) (EP X U Z Q) X.xe s
theorem Vals.one:∀{x:V} {us:List Value},Vals [x] us->∃u,us=[u]/\RelV x u
 |_,_,.cons r .nil=>⟨_,rfl,r⟩
theorem Vals.dropLast {xs:List V}{us:List Value}(h:Vals xs us):Vals xs.dropLast us.dropLast:=by
 induction h with
 |nil=>exact .nil
 |cons r t ih=>
  cases t with
  |nil=>exact .nil
  |cons q t'=>exact .cons r ih
theorem Vals.rep {xs:List V}{us:List Value}(h:Vals xs us):∀k:Nat,Vals (List.replicate k xs).flatten (List.replicate k us).flatten
 |0=>.nil
 |k+1=>by
  rw[lZ,lZ,kT,kT];exact Vals.append h (Vals.rep h k)
theorem foldl_rep(bz:List Value):∀(k:Nat) (acc:List Value),
  List.foldl (fun x1 x2=>x1++x2) acc.toArray (List.replicate k bz.toArray)=(acc++(List.replicate k bz).flatten).toArray
 |0,acc=>by simp
 |k+1,acc=>by
  have e:acc.toArray++bz.toArray=(acc++bz).toArray:=by simp
  have e2:(acc++bz)++(List.replicate k bz).flatten=acc++(List.replicate (k+1) bz).flatten:=by
   rw[lZ,kT,vi]
  rw[<-e2,<-foldl_rep bz k (acc++bz),<-e,lZ,List.foldl_cons]
section
variable {l b:Addr}{xs ys zs:List V}
theorem Inv.Ly {bz rK:List Value}{n:Nat}{f:Array Value->Array Value}{t':Nat}(I:Inv X U Z H s)(hH:H l=some (.lst xs))
  (e:s.heap.get? l=some {cls:=.type "list",data:=.seq bz.toArray n}) (hf:f bz.toArray=rK.toArray) (hv:Vals ys rK) (hz:ys.length<=sizeLine):
  Inv X U Z (upd H l (.lst ys)) {s with heap:=s.heap.update l (Obj.mapSeq f),toks:=t'}:=by
 have q:=PySem.IsL.update e f;rw[hf]at q;refine I.write (x:=l) (e:=l) (by rw[hH];exact trivial) (.inl rfl) (fun b' u hb hu=>(lW s.heap (Obj.mapSeq f) (Ne.symm hb)).trans hu) ⟨_,q⟩ ?_
 exact⟨hz,rK,_,hv,q⟩
theorem Inv.Lz {bz:List Value}{t':Nat}(I:Inv X U Z H s)(hv:Vals ys bz)(hz:ys.length<=sizeLine):
  Inv X U Z (upd H s.heap.objs.size (.lst ys)) {s with heap:=s.heap.push {cls:=.type "list",data:=.seq bz.toArray},toks:=t'}:=
 I.laid (fun _ _ q=>aX _ q) (aN _) ⟨hz,bz,0,hv,bE _ rfl⟩
theorem Inv.fresh (I:Inv X U Z H s):H s.heap.objs.size=none:=I.cj.fresh (aN _)
theorem Inv.xE (I:Inv X U Z H s)(hH:H l=some (.lst xs)):xs.length<=sizeLine/\∃(bz:List Value) (n:Nat),Vals xs bz/\xs.length=bz.length/\s.heap.get? l=some {cls:=.type "list",data:=.seq bz.toArray n}:=by
 obtain⟨z,bz,n,r,e⟩:=I.cj l _ hH;exact⟨z,bz,n,r,r.length,e⟩
theorem HX{n:Nat}(h:n<=sizeLine):Builtin.List.listTooLong n=false:=by
 unfold Builtin.List.listTooLong;exact d_ (by omega)
end
section
def Ee:V->List V->Hp->VK->Prop:=fun x vs H Q=>∃l xs y,x=.ref l/\vs=[y]/\H l=some (.lst xs)/\xs.length<sizeLine/\Q .bK (upd H l (.lst (xs++[y])))
theorem ly:Yu X "list.append" Ee:=by
 intro U s Z H x vs v us Q I rx rv h;obtain⟨l,xs,y,rfl,rfl,hH,hz,q⟩:=h;cases rx;obtain⟨u,rfl,ru⟩:=rv.one;obtain⟨z,bz,n,r,hl,e⟩:=I.xE hH;refine jx m8 ⟨_,e,rfl⟩ F.entry_list_append (F.args_list_append_2 _ _) (PySem.list_append l bz.toArray n u (by rw[b_];omega)) ⟨e,?_⟩;refine⟨.bK,_,I.Ly (rK:=bz++[u]) hH e (by simp) (r.append (.cons ru .nil)) ?_,rfl,q⟩;rw[cD,List.length_singleton];omega
def Yv:R2:=fun x y H Q=>∃l b xs zs,x=.ref l/\y=.ref b/\H l=some (.lst xs)/\H b=some (.lst zs)/\xs.length+zs.length<=sizeLine/\∀p,H p=none->Q (.ref p) (upd H p (.lst (xs++zs)))
theorem Pl:uL X (binaryOp .Add) Yv:=by
 intro U s Z H x y v u Q I rx ry h;obtain⟨l,b,xs,zs,rfl,rfl,hH,hB,hz,q⟩:=h;cases rx;cases ry;obtain⟨z,bz,n,r,hl,e⟩:=I.xE hH;obtain⟨z2,vK,n2,r2,K',e2⟩:=I.xE hB;refine PySem.P.add_list e e2 ?_ (by rw[b_,b_];omega)
 have ea:bz.toArray++vK.toArray=(bz++vK).toArray:=by simp
 rw[ea];exact⟨.ref _,_,I.Lz (t':=s.toks) (r.append r2) (by rw[cD];omega),rfl,q _ I.fresh⟩
def Yw:R2:=fun x y H Q=>∃l k xs,x=.ref l/\y=.int k/\H l=some (.lst xs)/\-(2 ^63)<=k/\k<2 ^63/\xs.length*k.toNat<=sizeLine/\
 ∀p,H p=none->Q (.ref p) (upd H p (.lst (List.replicate k.toNat xs).flatten))
theorem len_rep{α:Type}(xs:List α)(k:Nat):(List.replicate k xs).flatten.length=k*xs.length:=by
 induction k with
 |zero=>simp
 |succ k ih=>rw[lZ,kT,cD,ih,Nat.succ_mul,Nat.add_comm]
theorem Pm:uL X (binaryOp .Mult) Yw:=by
 intro U s Z H x y v u Q I rx ry h;obtain⟨l,k,xs,rfl,rfl,hH,h1,h2,hz,q⟩:=h;cases rx;obtain⟨t,rfl⟩:=ry;obtain⟨z,bz,n,r,hl,e⟩:=I.xE hH;have b7:bz.toArray.size*k.toNat<=sizeLine:=by rw[b_,<-hl];exact hz
 have Yx:¬bz.toArray.size*k.toNat>(2 ^63 - 1)/8:=by
  have:(sizeLine:Nat)<=(2 ^63 - 1)/8:=by decide
  omega
 have Yy:¬(!Builtin.List.listFitsIndex k)=true:=by
  rw[fitsIndex_both h1 h2];exact d9
 have TX:¬Builtin.List.listTooLong (bz.toArray.size*k.toNat)=true:=by
  rw[HX b7];exact d9
 have HY:List.foldl (fun x1 x2=>x1++x2) #[] (List.replicate (if bz.toArray.isEmpty=true then 0 else k.toNat) bz.toArray)=(List.replicate k.toNat bz).flatten.toArray:=by
  have f0:∀m:Nat,List.foldl (fun x1 x2=>x1++x2) #[] (List.replicate m bz.toArray)=(List.replicate m bz).flatten.toArray:=fun m=>by
   have:=foldl_rep bz m [];rw[gm]at this;exact this
  rw[f0];cases bz with
  |nil=>simp
  |cons a r'=>rw[ak (by simp)]
 refine wpAny_binaryOp_repeat_ref (T:="list") (U:="int") (by decide) ⟨_,e,rfl⟩ (fun s'=>typeIs_int s' k t) noFill_list_mul F.fills_int_mul F.slot_int_rmul repeat_list F.slot_int_index.lookup
  (jx F.slot_int_rmul (typeIs_int s k t) F.entry_int_rmul (F.args_int_rmul_2 _ _) (int___rmul___int_list k t l bz.toArray n)
   ⟨e,rfl,⟨_,e,rfl⟩,jx F.slot_list_mul ⟨_,e,rfl⟩ F.entry_list_mul (F.args_list_mul_2 _ _) (AutoListH.list___mul___list_int_3 l bz.toArray n k t Yy Yx TX) ⟨e,?_⟩⟩)
 rw[HY];exact⟨.ref _,_,I.Lz (t':=s.toks) (r.rep k.toNat) (by rw[len_rep,Nat.mul_comm];exact hz),rfl,q _ I.fresh⟩
end
section
variable {κ:Type}[DecidableEq κ]
def lz(kvs:List (κ×V))(k:κ):Option V:=(kvs.find? fun kv=>decide (kv.1=k)).map (·.2)
def putK(kvs:List (κ×V))(k:κ)(v:V):List (κ×V):=
 if(kvs.any fun kv=>decide (kv.1=k))=true then kvs.map (fun kv=>if kv.1=k then(kv.1,v)else kv)else kvs++[(k,v)]
def pO(kvs:List (κ×V))(k:κ):List (κ×V):=kvs.filter fun kv=>decide (kv.1≠k)
theorem rS{p:κ×V}{r:List (κ×V)}{k:κ}(e:p.1=k):lz (p::r) k=some p.2:=by simp[lz,iV,e]
theorem rV{p:κ×V}{r:List (κ×V)}{k:κ}(e:¬p.1=k):lz (p::r) k=lz r k:=by simp[lz,iV,e]
theorem AL(k:κ):∀kvs:List (κ×V),(kvs.any fun kv=>decide (kv.1=k))=(lz kvs k).isSome
 |[]=>rfl
 |p::r=>by
  rw[hJ];by_cases e:p.1=k
  ·simp only[rS e,g_ e,Bool.true_or,gi]
  ·rw[rV e,d_ e,lj];exact AL k r
theorem nT(kvs:List (κ×V))(k:κ)(v:V):(putK kvs k v).length<=kvs.length+1:=by
 unfold putK;split
 ·rw[aC];omega
 ·rw[cD,cG,vo];omega
theorem km.lA {o:Option V}{u:Option Value}(r:km o u):o.isSome=u.isSome:=by
 cases o with
 |none=>cases u with
  |none=>rfl
  |some _=>exact fe r
 |some _=>cases u with
  |none=>exact fe r
  |some _=>rfl
theorem km.getD {o:Option V}{u:Option Value}{d:V}{d':Value}(r:km o u)(rd:RelV d d'):RelV (o.getD d) (u.getD d'):=by
 cases o with
 |none=>cases u with
  |none=>exact rd
  |some _=>exact fe r
 |some _=>cases u with
  |none=>exact fe r
  |some _=>exact r
theorem KV.val {kvs:List (κ×V)}{vs:List (κ×Value)}(r:KV kvs vs)(k:κ):km (lz kvs k) (valueAt vs k):=by
 unfold KV at r
 induction r with
 |nil=>exact True.intro
 |@cons p q ps qs h t ih=>
  obtain⟨h1,h2⟩:=h;by_cases e:p.1=k
  ·have e':q.1=k:=h1.symm.trans e;have b:valueAt (q::qs) k=some q.2:=by simp[valueAt,iV,e']
   rw[rS e,b];exact h2
  ·have e':¬q.1=k:=fun z=>e (h1.trans z);have b:valueAt (q::qs) k=valueAt qs k:=by simp[valueAt,iV,e']
   rw[rV e,b];exact ih
theorem KV.any {kvs:List (κ×V)}{vs:List (κ×Value)}(r:KV kvs vs)(k:κ):(kvs.any fun kv=>decide (kv.1=k))=vs.any fun kv=>decide (kv.1=k):=by
 unfold KV at r
 induction r with
 |nil=>rfl
 |cons h t ih=>rw[hJ,hJ,ih,h.1]
theorem KV.Pn {kvs:List (κ×V)}{vs:List (κ×Value)}(r:KV kvs vs)(k:κ){y:V}{u:Value}(ry:RelV y u):
  KV (kvs.map fun kv=>if kv.1=k then(kv.1,y)else kv) (vs.map fun kv=>if kv.1=k then(kv.1,u)else kv):=by
 unfold KV at r⊢
 induction r with
 |nil=>exact .nil
 |@cons p q ps qs h t ih=>
  rw[aO,aO];refine .cons ?_ ih
  obtain⟨h1,h2⟩:=h;by_cases e:p.1=k
  ·rw[ag e,ag (h1.symm.trans e)];exact⟨h1,ry⟩
  ·rw[ak e,ak (fun z=>e (h1.trans z))];exact⟨h1,h2⟩
theorem KV.put {kvs:List (κ×V)}{vs:List (κ×Value)}(r:KV kvs vs)(k:κ){y:V}{u:Value}(ry:RelV y u):KV (putK kvs k y) (stored vs k u):=by
 unfold putK stored;rw[r.any k];by_cases e:(vs.any fun kv=>decide (kv.1=k))=true
 ·rw[ag e,ag e];exact r.Pn k ry
 ·rw[ak e,ak e];exact Paired.snoc r ⟨rfl,ry⟩
theorem KV.drop {kvs:List (κ×V)}{vs:List (κ×Value)}(r:KV kvs vs)(k:κ):KV (pO kvs k) (without vs k):=by
 unfold KV at r⊢;unfold pO without
 induction r with
 |nil=>exact .nil
 |@cons p q ps qs h t ih=>
  obtain⟨h1,h2⟩:=h;rw[qZ,qZ];by_cases e:p.1=k
  ·have a:¬decide (p.1≠k)=true:=by simp[e]
   have b:¬decide (q.1≠k)=true:=by simp[h1.symm.trans e]
   rw[ak a,ak b];exact ih
  ·have e':¬q.1=k:=fun z=>e (h1.trans z);have a:decide (p.1≠k)=true:=by simp[e]
   have b:decide (q.1≠k)=true:=by simp[e']
   rw[ag a,ag b];exact .cons ⟨h1,h2⟩ ih
theorem KV.keys {kvs:List (κ×V)}{vs:List (κ×Value)}(r:KV kvs vs):kvs.map (·.1)=vs.map (·.1):=by
 unfold KV at r
 induction r with
 |nil=>rfl
 |cons h t ih=>rw[aO,aO,ih,h.1]
theorem KV.length {kvs:List (κ×V)}{vs:List (κ×Value)}(r:KV kvs vs):kvs.length=vs.length:=Paired.length r
theorem HZ(kvs:List (κ×V))(k:κ):(pO kvs k).length<=kvs.length:=qO _ _
end
theorem nU{P:Program}{w:World}{k:Key}{u:Value}(r:RelV (kV k) u):(bx P w).is k u=true:=by
 cases k with
 |inl i=>obtain⟨t,e⟩:=(show∃t,u=Value.int i t from r);subst e;exact Az P w i t
 |inr x=>obtain⟨t,e⟩:=(show∃t,u=Value.str x t from r);subst e;exact AA P w x t
theorem yc:∀{ks:List Key} {us:List Value},Vals (ks.map kV) us->ItemsAre (bx P w) ks us
 |[],_,r=>by rw[dQ]at r;cases r;exact .nil
 |k::ks,_,r=>by
  rw[aO]at r;cases r with
  |cons h t=>exact .cons (nU h) (yc t)
abbrev KT(H:Hp):List (List Key×V)->List (List Key×Addr×Value)->Prop:=Paired fun p q=>p.1=q.1/\H q.2.1=some (.tup (p.1.map kV))/\RelV p.2 q.2.2
theorem KT.val {kvs:List (List Key×V)}{xs:List (List Key×Addr×Value)}(r:KT H kvs xs)(k:List Key):km (lz kvs k) ((atKey xs k).map (·.2)):=by
 induction r with
 |nil=>exact True.intro
 |@cons p q ps qs h t ih=>
  obtain⟨h1,_,h2⟩:=h;by_cases e:p.1=k
  ·have e':q.1=k:=h1.symm.trans e;have b:atKey (q::qs) k=some q.2:=by simp[atKey,iV,e']
   rw[rS e,b];exact h2
  ·have e':¬q.1=k:=fun z=>e (h1.trans z);have b:atKey (q::qs) k=atKey qs k:=by simp[atKey,iV,e']
   rw[rV e,b];exact ih
theorem KT.Pn {kvs:List (List Key×V)}{xs:List (List Key×Addr×Value)}(r:KT H kvs xs)(k:List Key){y:V}{u:Value}(ry:RelV y u):
  KT H (kvs.map fun kv=>if kv.1=k then(kv.1,y)else kv) (xs.map (putAt k u)):=by
 induction r with
 |nil=>exact .nil
 |@cons p q ps qs h t ih=>
  rw[aO,aO];refine .cons ?_ ih
  obtain⟨h1,h2,h3⟩:=h;unfold putAt;by_cases e:p.1=k
  ·rw[ag e,ag (h1.symm.trans e)];exact⟨h1,h2,ry⟩
  ·rw[ak e,ak (fun z=>e (h1.trans z))];exact⟨h1,h2,h3⟩
theorem KT.put {kvs:List (List Key×V)}{xs:List (List Key×Addr×Value)}(r:KT H kvs xs)(k:List Key){b:Addr}{y:V}{u:Value}(hb:H b=some (.tup (k.map kV)))(ry:RelV y u):
  KT H (putK kvs k y) (storedH xs k b u):=by
 have e:(kvs.any fun kv=>decide (kv.1=k))=(atKey xs k).isSome:=by
  rw[AL,(r.val k).lA,kU]
 unfold putK storedH;rw[e];by_cases q:(atKey xs k).isSome=true
 ·rw[ag q,ag q];exact r.Pn k ry
 ·rw[ak q,ak q];exact Paired.snoc r ⟨rfl,hb,ry⟩
theorem KT.keeps {H':Hp}{kvs:List (List Key×V)}{xs:List (List Key×Addr×Value)}(r:KT H kvs xs)(ht:∀b ys,H b=some (.tup ys)->H' b=some (.tup ys)):KT H' kvs xs:=
 Paired.OQ r fun _ _ z=>⟨z.1,ht _ _ z.2.1,z.2.2⟩
section
variable {h:Heap}
theorem NY{u:HO}(ok:p5 P w H h)(e:Rd H a u):ck P w H h a u:=e.ok ok
theorem rW{kvs:List (Key×V)}(ok:p5 P w H h)(e:Rd H a (.dK kvs)):kvs.length<=sizeLine/\(a==sysModules)=false/\∃vs,KV kvs vs/\h.DictOf (bx P w) a vs:=
 show ck P w H h a (.dK kvs)from NY ok e
theorem Ef{kvs:List (Key×V)}(ok:p5 P w H h)(e:H a=some (.dK kvs)):kvs.length<=sizeLine/\(a==sysModules)=false/\∃vs,KV kvs vs/\h.DictOf (bx P w) a vs:=rW ok (.inl e)
theorem p9{ks:List Key}(ok:p5 P w H h)(e:H a=some (.tup (ks.map kV))):(tupleKind (bx P w)).is h ks a:=by
 obtain⟨_,bz,r,o,h1,h2,n,h3⟩:=(show ck P w H h a (.tup (ks.map kV))from ok a _ e);exact⟨o,bz.toArray,n,h1,h2,h3,by simpa using yc r⟩
theorem ud{kvs:List (List Key×V)}(ok:p5 P w H h)(e:Rd H a (.dT kvs)):kvs.length<=sizeLine/\(a==sysModules)=false/\
  ∃xs,KT H kvs xs/\h.DictOfH (tupleKind (bx P w)) a xs:=by
 obtain⟨z,y,xs,r,o,es,ep,h1,h2,h3,h4,h5⟩:=(show ck P w H h a (.dT kvs)from NY ok e);refine⟨z,y,xs,r,o,es,ep,h1,h2,h3,h4,fun x hx=>?_,h5⟩;have all:∀{l:List (List Key×V)} {m:List (List Key×Addr×Value)},KT H l m->∀x∈m,(tupleKind (bx P w)).is h x.1 x.2.1:=by
  intro l m q
  induction q with
  |nil=>intro x hx;exact nomatch hx
  |@cons p q ps qs hq t ih=>
   intro x hx;rcases aE.mp hx with e|hx
   ·subst e;exact p9 ok (by rw[<-hq.1];exact hq.2.1)
   ·exact ih x hx
 exact all r x hx
theorem TY{kvs:List (List Key×V)}(ok:p5 P w H h)(e:H a=some (.dT kvs)):kvs.length<=sizeLine/\(a==sysModules)=false/\
  ∃xs,KT H kvs xs/\h.DictOfH (tupleKind (bx P w)) a xs:=ud ok (.inl e)
end
def nV(H:Hp)(a:Addr)(y:V)(r:Option V):Prop:=
 (∃kvs k,Rd H a (.dK kvs)/\y=kV k/\r=lz kvs k)\/∃kvs k b,Rd H a (.dT kvs)/\y=.ref b/\H b=some (.tup (k.map kV))/\r=lz kvs k
def CN(H:Hp)(a:Addr)(y v:V)(H':Hp):Prop:=
 (∃kvs k,H a=some (.dK kvs)/\y=kV k/\kvs.length<sizeLine/\H'=upd H a (.dK (putK kvs k v)))\/
 ∃kvs k b,H a=some (.dT kvs)/\y=.ref b/\H b=some (.tup (k.map kV))/\kvs.length<sizeLine/\H'=upd H a (.dT (putK kvs k v))
theorem nV.k {H:Hp}{kvs:List (Key×V)}{k:Key}(e:H a=some (.dK kvs)):nV H a (kV k) (lz kvs k):=.inl ⟨kvs,k,.inl e,rfl,rfl⟩
theorem nV.t {H:Hp}{a b:Addr}{kvs:List (List Key×V)}{k:List Key}(e:H a=some (.dT kvs))(eb:H b=some (.tup (k.map kV))):nV H a (.ref b) (lz kvs k):=.inr ⟨kvs,k,b,.inl e,rfl,eb,rfl⟩
theorem CN.k {H:Hp}{kvs:List (Key×V)}{k:Key}{v:V}(e:H a=some (.dK kvs))(hl:kvs.length<sizeLine):CN H a (kV k) v (upd H a (.dK (putK kvs k v))):=.inl ⟨kvs,k,e,rfl,hl,rfl⟩
theorem CN.t {H:Hp}{a b:Addr}{kvs:List (List Key×V)}{k:List Key}{v:V}(e:H a=some (.dT kvs))(eb:H b=some (.tup (k.map kV)))(hl:kvs.length<sizeLine):
  CN H a (.ref b) v (upd H a (.dT (putK kvs k v))):=.inr ⟨kvs,k,b,e,rfl,eb,hl,rfl⟩
section
variable {y v:V}{u r:Value}{o:Option V}
theorem Inv.big (I:Inv X U Z H s):sysModules<s.heap.objs.size:=by
 have h:mainGlobals<s.heap.objs.size:=(I.mod.glob.keeps I.bk).lt;exact Nat.lt_trans (by decide) h
theorem F3(hu:A.units+1<cLine)(I:Inv X U Z H s)(g:nV H a y (some v))(ry:RelV y u)(h:∀w' s',Inv X U Z H s'->RelV v w'->Q w' s'):
  wpAny (model X.prog X.w) A (getItem (.ref a) u) Q E s:=by
 rcases g with⟨kvs,k,e,ey,l⟩|⟨kvs,k,b,e,ey,eb,l⟩
 ·subst ey;obtain⟨z,hd,vs,rel,dd⟩:=rW I.cj e;obtain⟨w',hw,nQ⟩:=km.some_of (v:=v) (o:=valueAt vs k) (by rw[l];exact rel.val k);exact wpAny_getItem_of (nU ry) dd.mapOf hw (h w' _ (I.tok _) nQ)
 ·subst ey;cases(show u=Value.ref b from ry);obtain⟨z,hd,xs,rel,dd⟩:=ud I.cj e;obtain⟨w',hw,nQ⟩:=km.some_of (v:=v) (o:=(atKey xs k).map (·.2)) (by rw[l];exact rel.val k);obtain⟨p,hp,Po⟩:=Option.map_eq_some_iff.mp hw;refine wpAny_getItem_heap (kY hu) (p9 I.cj eb) dd hp ?_
  rw[Po];exact h w' _ (I.tok _) nQ
theorem Yz(hu:A.units+1<cLine)(I:Inv X U Z H s)(g:nV H a y o)(ry:RelV y u)(h:∀s',Inv X U Z H s'->Q (.bool o.isSome) s'):
  wpAny (model X.prog X.w) A (compareOp .In u (.ref a)) Q E s:=by
 rcases g with⟨kvs,k,e,ey,l⟩|⟨kvs,k,b,e,ey,eb,l⟩
 ·subst ey;obtain⟨z,hd,vs,rel,dd⟩:=rW I.cj e;refine wpAny_in_of (nU ry) hd dd.mapOf ?_
  rw[<-(rel.val k).lA,<-l];exact h _ (I.tok _)
 ·subst ey;cases(show u=Value.ref b from ry);obtain⟨z,hd,xs,rel,dd⟩:=ud I.cj e;refine wpAny_in_heap (kY hu) (p9 I.cj eb) hd dd ?_
  have q:=(rel.val k).lA;rw[kU]at q;rw[<-q,<-l];exact h _ (I.tok _)
theorem LA(hu:A.units+1<cLine)(I:Inv X U Z H s)(g:nV H a y o)(ry:RelV y u)(h:∀s',Inv X U Z H s'->Q (.bool (!o.isSome)) s'):
  wpAny (model X.prog X.w) A (compareOp .NotIn u (.ref a)) Q E s:=by
 rcases g with⟨kvs,k,e,ey,l⟩|⟨kvs,k,b,e,ey,eb,l⟩
 ·subst ey;obtain⟨z,hd,vs,rel,dd⟩:=rW I.cj e;refine wpAny_notIn_of (nU ry) hd dd.mapOf ?_
  rw[<-(rel.val k).lA,<-l];exact h _ (I.tok _)
 ·subst ey;cases(show u=Value.ref b from ry);obtain⟨z,hd,xs,rel,dd⟩:=ud I.cj e;refine wpAny_notIn_heap (kY hu) (p9 I.cj eb) hd dd ?_
  have q:=(rel.val k).lA;rw[kU]at q;rw[<-q,<-l];exact h _ (I.tok _)
theorem rX{h':Heap}{t':Nat}{ob:HO}(I:Inv X U Z H s)(mu:Te (H a))(hs:Heap.SameBut a s.heap h')(he:∃q,h'.get? a=some q)(new:ck X.prog X.w (upd H a ob) h' a ob):
  Inv X U Z (upd H a ob) {s with heap:=h',toks:=t'}:=
 I.write (x:=a) (e:=a) mu (.inl rfl) (fun b q hb z=>(hs.2 b hb).trans z) he new
theorem vL{H':Hp}{h':Heap}{kvs:List (Key×V)}{vs:List (Key×Value)}(z:kvs.length<=sizeLine)(hd:(a==sysModules)=false)(rel:KV kvs vs)(dd:h'.DictOf (bx P w) a vs):
  ck P w H' h' a (.dK kvs):=⟨z,hd,vs,rel,dd⟩
theorem F4{H':Hp}{Q:Unit->Shared->Prop}(hu:A.units+1<cLine)(I:Inv X U Z H s)(g:CN H a y v H')(ry:RelV y u)(rv:RelV v r)(h:∀s',Inv X U Z H' s'->Q () s'):
  wpAny (model X.prog X.w) A (setItem (.ref a) u r) Q E s:=by
 rcases g with⟨kvs,k,e,ey,l,eH⟩|⟨kvs,k,b,e,ey,eb,l,eH⟩
 ·subst ey eH;obtain⟨z,hd,vs,rel,dd⟩:=Ef I.cj e;have hz:vs.length<=sizeLine:=by rw[<-rel.length];exact z
  have hl:(putK kvs k v).length<=sizeLine:=by have:=nT kvs k v;omega
  refine wpAny_setItem_pairs (hsz:=hz) (nU ry) dd fun h' Eg hs=>h _ ?_
  have he:∃q,h'.get? a=some q:=let⟨q,_,_,hq,_⟩:=Eg;⟨q,hq⟩
  exact rX I (by rw[e];exact True.intro) hs he (vL hl hd (rel.put k rv) Eg)
 ·subst ey eH;cases(show u=Value.ref b from ry);obtain⟨z,hd,xs,rel,dd⟩:=TY I.cj e;have hz:xs.length<=sizeLine:=by rw[<-Paired.length rel];exact z
  have hl:(putK kvs k v).length<=sizeLine:=by have:=nT kvs k v;omega
  refine wpAny_setItem_heap (hsz:=hz) (kY hu) (p9 I.cj eb) dd fun h' Eg hs=>h _ ?_
  obtain⟨q,es,ep,hq,h2,h3,h4,_,h5⟩:=Eg;refine rX I (by rw[e];exact True.intro) hs ⟨q,hq⟩ ⟨hl,hd,_,(rel.put k eb rv).keeps fun c ys ec=>?_,q,es,ep,hq,h2,h3,h4,h5⟩;rw[ay (Tb ec e (fun z=>nomatch z))];exact ec
end
section
variable {kvs:List (Key×V)}{k:Key}{u:Value}
theorem NZ{v:V}{more:List Value}(I:Inv X U Z H s)(e:H a=some (.dK kvs))(ry:RelV (kV k) u)(l:lz kvs k=some v)(hm:more=[]\/∃x,more=[x])
  (h:∀w' s',Inv X U Z (upd H a (.dK (pO kvs k))) s'->RelV v w'->Q w' s'):wpAny (model X.prog X.w) A (call (.builtin "dict.pop") (.ref a::u::more)) Q E s:=by
 obtain⟨z,hd,vs,rel,dd⟩:=Ef I.cj e;obtain⟨w',hw,nQ⟩:=km.some_of (v:=v) (o:=valueAt vs k) (by rw[<-l];exact rel.val k);have hp:(keyPart u).isSome=true:=by
  cases k with
  |inl i=>obtain⟨t,q⟩:=(show∃t,u=Value.int i t from ry);subst q;rfl
  |inr x=>obtain⟨t,q⟩:=(show∃t,u=Value.str x t from ry);subst q;rfl
 have ha:argsOk "dict.pop" ⟨.ref a::u::more,[]⟩:=by
  rcases hm with q|⟨x,q⟩
  ·subst q;exact PySem.F.args_dict_pop_2 _ _
  ·subst q;exact PySem.F.args_dict_pop_3 _ _ _
 refine il qP dd.typeIs PySem.F.entry_dict_pop ha (meets_dict_pop_there (bx X.prog X.w) a (nU ry) more hm hp)
  ⟨vs,w',dd,by rw[<-rel.length];exact z,hw,fun h' Eg hs=>h w' _ ?_ nQ⟩
 have he:∃q,h'.get? a=some q:=let⟨q,_,_,hq,_⟩:=Eg;⟨q,hq⟩
 exact rX I (by rw[e];exact True.intro) hs he (vL (bJ (HZ kvs k) z) hd (rel.drop k) Eg)
theorem Pp{r:Value}(I:Inv X U Z H s)(e:H a=some (.dK kvs))(ry:RelV (kV k) u)(l:lz kvs k=none)(h:∀s',Inv X U Z H s'->Q r s'):
  wpAny (model X.prog X.w) A (call (.builtin "dict.pop") [.ref a,u,r]) Q E s:=by
 obtain⟨z,hd,vs,rel,dd⟩:=Ef I.cj e;have hn:valueAt vs k=none:=km.none_of (by rw[<-l];exact rel.val k);have hp:(keyPart u).isSome=true:=by
  cases k with
  |inl i=>obtain⟨t,q⟩:=(show∃t,u=Value.int i t from ry);subst q;rfl
  |inr x=>obtain⟨t,q⟩:=(show∃t,u=Value.str x t from ry);subst q;rfl
 exact il qP dd.typeIs PySem.F.entry_dict_pop (PySem.F.args_dict_pop_3 _ _ _) (meets_dict_pop_default (bx X.prog X.w) a (nU ry) hd hp r) ⟨vs,dd,hn,h _ (I.tok _)⟩
theorem TZ(I:Inv X U Z H s)(e:Rd H a (.dK kvs))(h:∀t s',Inv X U Z H s'->Q (.int kvs.length t) s'):wpAny (model X.prog X.w) A (call (.builtin "len") [.ref a]) Q E s:=by
 obtain⟨z,hd,vs,rel,dd⟩:=rW I.cj e;refine call_len_dict hd dd (by rw[<-rel.length];rw[cR]at z;omega) ?_
 rw[<-rel.length];exact h _ _ (I.tok _)
end
def LB(i:Expr):Prop:=∀ov iv,subscripted i false ov iv=operate [ov,iv] (getItem ov iv)
theorem LC{prog:Program}{env:Env}{value slice:Expr}{T id:String}
  (hl:typeLookup (.type T) "__getitem__"=pure (some (.builtin id))) (hs:LB slice)
  (h:wpAny (model prog w) A (eval value env) (fun o cy=>wpAny (model prog w) A (eval slice env) (fun i rM=>rM.TypeIs o T/\wpAny (model prog w) A (getItem o i) Q E rM) E cy) E s):
  wpAny (model prog w) A (eval (.Subscript value slice pos) env) Q E s:=by
 refine Subscript_ (cX h (fun o cy dS=>cX dS (fun i rM nW=>?_) fun _ _ x=>x) fun _ _ x=>x);obtain⟨hT,nW⟩:=nW;unfold subscriptTail;refine af ?_
 rw[getitemInPython_of_ne hT.not_modules];refine af (wpAny_specialOf hT hl ?_);have fin:wpAny (model prog w) A (subscripted slice false o i) (fun r AM=>wpAny (model prog w) A (letTemporaryGo value o r>>=fun _=>pure r) Q E AM) E rM:=by
  rw[hs o i];exact wpAny_operating (cX nW (fun r AM xF=>af (wpAny_letTemporaryGo (ar xF))) fun _ _ x=>x)
 first
  |exact ar (af fin)
  |exact af (ar (af fin))
  |exact af fin
theorem AN{y:V}{o:Option V}(I:Inv X U Z H s)(g:nV H a y o):s.TypeIs (.ref a) "dict":=by
 rcases g with⟨kvs,k,e,_,_⟩|⟨kvs,k,b,e,_,_,_⟩
 ·obtain⟨_,_,vs,_,dd⟩:=rW I.cj e;exact dd.typeIs
 ·obtain⟨_,_,xs,_,dd⟩:=ud I.cj e;exact dd.typeIs
def T1(td ty tv:TE):TS:=fun D Z H=>tv Z H fun v H1=>td Z H1 fun x H2=>ty Z H2 fun y H3=>∃a H4,x=.ref a/\CN H3 a y v H4/\D.nx Z H4
section
variable {i value:Expr}{pos' nO:Pos}{td ty tv:TE}
theorem LD(hu:X.A.units+1<cLine)(ho:PE X o td)(hi:PE X i ty)(hv:PE X value tv)(hs:swapsWith value (some (.Subscript o i pos')) pos.line X.env=pure false):
  PS X (.Assign [.Subscript o i pos'] value pos) (T1 td ty tv):=by
 intro U s Z H D I h;refine wpAny_Assign_Subscript (dc (hv U s Z H _ I h) fun r s1 ⟨v,H1,I1,rv,q1⟩=>dc (ho U s1 Z H1 _ I1 q1) fun u s2 ⟨x,H2,I2,rx,q2⟩=>dc (hi U s2 Z H2 _ I2 q2) fun iv s3 ⟨y,H3,I3,ry,a,H4,ex,g,q3⟩=>?_) hs;subst ex;obtain rfl:u=Value.ref a:=rx;exact F4 hu I3 g ry rv fun s4 I4=>⟨Z,H4,I4,q3⟩
end
theorem AO(h:Heap)(hb:sysModules<h.objs.size):ck P w H (h.push {cls:=.type "dict",data:=.dict #[]}) h.objs.size (.dK []):=
 ⟨dh _,jU.mpr (Ne.symm (bc hb)),[],.nil,Heap.DictOf.new h⟩
def Pq:TE:=fun _ H Q=>∀p,H p=none->Q (.ref p) (upd H p (.dK []))
section
theorem H_:PE X (.Dict [] [] pos) Pq:=fun U s Z H Q I h=>
 wpAny_Dict_empty ⟨.ref s.heap.objs.size,_,I.laid (a:=s.heap.objs.size) (o:=.dK []) (t':=s.toks) (fun _ _ q=>aX _ q) (aN _) (AO s.heap I.big),rfl,h _ (I.cj.fresh (aN _))⟩
end
def vM:List (TE×TE)->St->Hp->(List (V×V)->Hp->Prop)->Prop
 |[],_,H,Q=>Q [] H
 |(tk,tv)::r,Z,H,Q=>tk Z H fun x H1=>tv Z H1 fun y H2=>vM r Z H2 fun ps H3=>Q ((x,y)::ps) H3
abbrev VV:List (V×V)->List (Value×Value)->Prop:=Paired fun p q=>RelV p.1 q.1/\RelV p.2 q.2
def SE(X:Cx)(pos:Pos)(keys:List (Option Expr))(values:List Expr)(za:List (TE×TE)):Prop:=
 ∀(U:List (Addr×Obj)) (s:Shared) (Z:St) (H:Hp) (Q:List (V×V)->Hp->Prop),Inv X U Z H s->vM za Z H Q->
  wpAny (model X.prog X.w) X.A (evalPairs (pairTrees keys values X.env pos)) (fun vs s'=>∃ps H',Inv X U Z H' s'/\VV ps vs/\Q ps H') X.xe s
theorem Eh:SE X pos [] [] []:=fun U s Z H Q I h=>pairTrees_nil_walk ⟨[],H,I,.nil,h⟩
theorem AQ{k v:Expr}{ks:List (Option Expr)}{vs:List Expr}{tk tv:TE}{za:List (TE×TE)}(hk:PE X k tk)(hv:PE X v tv)(hr:SE X pos ks vs za):
  SE X pos (some k::ks) (v::vs) ((tk,tv)::za):=fun U s Z H Q I h=>
 pairTrees_cons_walk (dc (hk U s Z H _ I h) fun u s1 ⟨x,H1,I1,rx,q1⟩=>dc (hv U s1 Z H1 _ I1 q1) fun w2 s2 ⟨y,H2,I2,ry,q2⟩=>
  dc (hr U s2 Z H2 _ I2 q2) fun ws s3 ⟨ps,H3,I3,rel,q3⟩=>⟨(x,y)::ps,H3,I3,.cons ⟨rx,ry⟩ rel,q3⟩)
def gS(kvs more:List (Key×V)):List (Key×V):=more.foldl (fun acc kv=>putK acc kv.1 kv.2) kvs
theorem KV.merge:∀{more:List (Key×V)} {rs:List (Key×Value)} {kvs:List (Key×V)} {vs:List (Key×Value)},KV more rs->KV kvs vs->KV (gS kvs more) (merged vs rs):=by
 intro more rs kvs vs r;unfold KV at r
 induction r generalizing kvs vs with
 |nil=>intro q;exact q
 |@cons p q ps qs h t ih=>
  intro r0;have e:KV (putK kvs p.1 p.2) (stored vs q.1 q.2):=by
   have:=r0.put p.1 h.2;rw[<-h.1];exact this
  exact ih e
theorem hU:∀(more kvs:List (Key×V)),(gS kvs more).length<=kvs.length+more.length
 |[],kvs=>by show kvs.length<=kvs.length+0;omega
 |p::r,kvs=>by
  have h1:=hU r (putK kvs p.1 p.2);have h2:=nT kvs p.1 p.2;show(gS (putK kvs p.1 p.2) r).length<=_;rw[cG];omega
theorem vN{P:Program}{w:World}:∀{kvs:List (Key×V)} {ws:List (Value×Value)},VV (kvs.map fun kv=>(kV kv.1,kv.2)) ws->∃rs,Carries (bx P w) ws rs/\KV kvs rs
 |[],_,r=>by rw[dQ]at r;cases r;exact⟨[],True.intro,.nil⟩
 |p::kvs,_,r=>by
  rw[aO]at r;cases r with
  |@cons a b as bs h t=>
   obtain⟨rs,c,q⟩:=vN (P:=P) (w:=w) t;obtain⟨b1,b2⟩:=b;exact⟨(p.1,b2)::rs,⟨nU h.1,rfl,c⟩,.cons ⟨rfl,h.2⟩ q⟩
def T2(za:List (TE×TE)):TE:=fun Z H Q=>∀p,H p=none->vM za Z (upd H p (.dK [])) fun ps H2=>H2 p=some (.dK [])/\∃kvs:List (Key×V),ps=kvs.map (fun kv=>(kV kv.1,kv.2))/\kvs.length<=15/\Q (.ref p) (upd H2 p (.dK (gS [] kvs)))
theorem Ei{keys:List (Option Expr)}{values:List Expr}{za:List (TE×TE)}(h:SE X pos keys values za)(sV:keys.all (·.isSome)=true)(hl:keys.length=values.length)(h0:keys≠[])
  (LF:keys.length<=15):PE X (.Dict keys values pos) (T2 za):=by
 intro U s Z H Q I q;have hn:=I.cj.fresh (aN s.heap.objs.size);have I1:=I.laid (a:=s.heap.objs.size) (o:=.dK []) (h':=s.heap.push {cls:=.type "dict",data:=.dict #[]}) (t':=s.toks) (fun _ _ q=>aX _ q) (aN _) (AO s.heap I.big);refine wpAny_Dict_walk (knd:=bx X.prog X.w) sV hl h0 LF (dc (h U _ Z _ _ I1 (q _ hn)) fun ws s2 ⟨ps,H2,I2,rel,e,kvs,ep,lk,q2⟩=>?_);subst ep;obtain⟨rs,c,rk⟩:=vN (P:=X.prog) (w:=X.w) rel;obtain⟨z,hd,vs0,r0,dd⟩:=Ef I2.cj e;cases r0;refine⟨rs,c,dd,fun h' Eg hs=>⟨.ref s.heap.objs.size,_,?_,rfl,q2⟩⟩;have hz:(gS [] kvs).length<=sizeLine:=by
  have h1:=hU kvs [];rw[vo]at h1;rw[cR];omega
 have he:∃q,h'.get? s.heap.objs.size=some q:=let⟨q,_,_,hq,_⟩:=Eg;⟨q,hq⟩
 exact rX I2 (by rw[e];exact True.intro) hs he (vL hz hd (rk.merge .nil) Eg)
structure M1(X:Cx)(o:Expr)(m:Str)(b6:Pos)(e:Expr)(bh:Pos):Prop where
 base:attributeBase o m X.env (eval o X.env)=eval o X.env
 T5:((backTo bh (starEach [e] X.env)).all (fun x=>!x.1)&&(backToKw bh (keywordEach [] X.env)).all (fun x=>x.1.isSome)
  &&decide (([e]:List Expr).length+([]:List Keyword).length+(if([]:List Keyword).isEmpty then 0 else 1)<30))=true
 line:(b6.endLine==bh.line)=true
 trees:backTo bh (starEach [e] X.env)=[(false,eval e X.env)]
structure M2(X:Cx)(o:Expr)(m:Str)(b6:Pos)(e f:Expr)(bh:Pos):Prop where
 base:attributeBase o m X.env (eval o X.env)=eval o X.env
 T5:((backTo bh (starEach [e,f] X.env)).all (fun x=>!x.1)&&(backToKw bh (keywordEach [] X.env)).all (fun x=>x.1.isSome)
  &&decide (([e,f]:List Expr).length+([]:List Keyword).length+(if([]:List Keyword).isEmpty then 0 else 1)<30))=true
 line:(b6.endLine==bh.line)=true
 trees:backTo bh (starEach [e,f] X.env)=[(false,eval e X.env),(false,eval f X.env)]
def T6(H:Hp)(a:Addr):Prop:=(∃kvs,Rd H a (.dK kvs))\/∃kvs,Rd H a (.dT kvs)
theorem zc(I:Inv X U Z H s)(d:T6 H a):
  s.TypeIs (.ref a) "dict"/\(∀b,Value.ref a=.ref b->∃ob,s.heap.get? b=some ob/\ob.dict=none)/\(a==sysModules)=false:=by
 rcases d with⟨kvs,e⟩|⟨kvs,e⟩
 ·obtain⟨_,hd,vs,_,dd⟩:=rW I.cj e;refine⟨dd.typeIs,fun b q=>?_,hd⟩;cases q;obtain⟨ob,_,_,h1,h2,_⟩:=dd;exact⟨ob,h1,h2.2.1⟩
 ·obtain⟨_,hd,xs,_,dd⟩:=ud I.cj e;refine⟨dd.typeIs,fun b q=>?_,hd⟩;cases q;obtain⟨ob,_,_,h1,h2,_⟩:=dd;exact⟨ob,h1,h2.2.1⟩
section
variable {y d:V}{u r:Value}{o:Option V}
theorem Pt(hu:A.units+1<cLine)(I:Inv X U Z H s)(g:nV H a y o)(ry:RelV y u)(h:∀w' s',Inv X U Z H s'->RelV (o.getD .bK) w'->Q w' s'):
  wpAny (model X.prog X.w) A (call (.builtin "dict.get") [.ref a,u]) Q E s:=by
 rcases g with⟨kvs,k,e,ey,l⟩|⟨kvs,k,b,e,ey,eb,l⟩
 ·subst ey;obtain⟨z,hd,vs,rel,dd⟩:=rW I.cj e;refine il kP dd.typeIs qN (PySem.F.args_dict_get_2 _ _) (meets_dict_get (bx X.prog X.w) a (nU ry) hd) ⟨_,dd.mapOf,h _ _ (I.tok _) ?_⟩;rw[l];exact(rel.val k).getD rfl
 ·subst ey;cases(show u=Value.ref b from ry);obtain⟨z,hd,xs,rel,dd⟩:=ud I.cj e;refine il kP dd.typeIs qN (PySem.F.args_dict_get_2 _ _) (meetsH_dict_get (tupleKind (bx X.prog X.w)) a b hd) ⟨kY hu,k,xs,p9 I.cj eb,dd,h _ _ (I.tok _) ?_⟩;rw[l];exact(rel.val k).getD rfl
theorem Pu(hu:A.units+1<cLine)(I:Inv X U Z H s)(g:nV H a y o)(ry:RelV y u)(rd:RelV d r)(h:∀w' s',Inv X U Z H s'->RelV (o.getD d) w'->Q w' s'):
  wpAny (model X.prog X.w) A (call (.builtin "dict.get") [.ref a,u,r]) Q E s:=by
 rcases g with⟨kvs,k,e,ey,l⟩|⟨kvs,k,b,e,ey,eb,l⟩
 ·subst ey;obtain⟨z,hd,vs,rel,dd⟩:=rW I.cj e;refine il kP dd.typeIs qN (PySem.F.args_dict_get_3 _ _ _) (meets_dict_get_default (bx X.prog X.w) a (nU ry) hd r) ⟨_,dd.mapOf,h _ _ (I.tok _) ?_⟩;rw[l];exact(rel.val k).getD rd
 ·subst ey;cases(show u=Value.ref b from ry);obtain⟨z,hd,xs,rel,dd⟩:=ud I.cj e;refine il kP dd.typeIs qN (PySem.F.args_dict_get_3 _ _ _) (meetsH_dict_get_default (tupleKind (bx X.prog X.w)) a b hd r) ⟨kY hu,k,xs,p9 I.cj eb,dd,h _ _ (I.tok _) ?_⟩;rw[l];exact(rel.val k).getD rd
end
def Pw(td ty:TE):TE:=fun Z H Q=>td Z H fun x H1=>∃a,x=.ref a/\T6 H1 a/\ty Z H1 fun y H2=>∃o,nV H2 a y o/\Q (o.getD .bK) H2
def Px(td ty tx:TE):TE:=fun Z H Q=>td Z H fun x H1=>∃a,x=.ref a/\T6 H1 a/\ty Z H1 fun y H2=>tx Z H2 fun z H3=>∃o,nV H3 a y o/\Q (o.getD z) H3
def Py(td ty:TE):TE:=fun Z H Q=>td Z H fun x H1=>∃a,x=.ref a/\T6 H1 a/\ty Z H1 fun y H2=>∃kvs k v,H2 a=some (.dK kvs)/\y=kV k/\lz kvs k=some v/\Q v (upd H2 a (.dK (pO kvs k)))
def Pz(td ty tx:TE):TE:=fun Z H Q=>td Z H fun x H1=>∃a,x=.ref a/\T6 H1 a/\ty Z H1 fun y H2=>tx Z H2 fun z H3=>∃kvs k,H3 a=some (.dK kvs)/\y=kV k/\
 (∀v,lz kvs k=some v->Q v (upd H3 a (.dK (pO kvs k))))/\(lz kvs k=none->Q z H3)
section
variable {f:Expr}{bh:Pos}{td ty tx:TE}
theorem Ia(hu:X.A.units+1<cLine)(ho:PE X o td)(he:PE X e ty)(m:M1 X o "get" b6 e bh):PE X (.Call (.Attribute o "get" b6) [e] [] bh) (Pw td ty):=by
 intro U s Z H Q I h;refine rf m.base m.T5 m.line oW kP PySem.F.type_dict_get (dc (ho U s Z H _ I h) fun u s1 ⟨x,H1,I1,rx,a,ex,d,q1⟩=>?_);subst ex;obtain rfl:u=Value.ref a:=rx;obtain⟨t1,t2,_⟩:=zc I1 d;refine⟨t1,t2,?_⟩;rw[m.trees];refine lV rfl (lY (jo (dc (he U s1 Z H1 _ I1 q1) fun iv s2 ⟨y,H2,I2,ry,ov,g,q2⟩=>ny ?_)));exact Pt hu I2 g ry fun w' s3 I3 nQ=>⟨_,H2,I3,nQ,q2⟩
theorem Ib(hu:X.A.units+1<cLine)(ho:PE X o td)(he:PE X e ty)(hf:PE X f tx)(m:M2 X o "get" b6 e f bh):PE X (.Call (.Attribute o "get" b6) [e,f] [] bh) (Px td ty tx):=by
 intro U s Z H Q I h;refine rf m.base m.T5 m.line oW kP PySem.F.type_dict_get (dc (ho U s Z H _ I h) fun u s1 ⟨x,H1,I1,rx,a,ex,d,q1⟩=>?_);subst ex;obtain rfl:u=Value.ref a:=rx;obtain⟨t1,t2,_⟩:=zc I1 d;refine⟨t1,t2,?_⟩;rw[m.trees];refine lV rfl (lY (jo (dc (he U s1 Z H1 _ I1 q1) fun iv s2 ⟨y,H2,I2,ry,q2⟩=>
  jo (dc (hf U s2 Z H2 _ I2 q2) fun fv s3 ⟨z,H3,I3,rz,ov,g,q3⟩=>ny ?_))))
 exact Pu hu I3 g ry rz fun w' s4 I4 nQ=>⟨_,H3,I4,nQ,q3⟩
theorem Ic(ho:PE X o td)(he:PE X e ty)(m:M1 X o "pop" b6 e bh):PE X (.Call (.Attribute o "pop" b6) [e] [] bh) (Py td ty):=by
 intro U s Z H Q I h;refine rf m.base m.T5 m.line oW qP PySem.F.type_dict_pop (dc (ho U s Z H _ I h) fun u s1 ⟨x,H1,I1,rx,a,ex,d,q1⟩=>?_);subst ex;obtain rfl:u=Value.ref a:=rx;obtain⟨t1,t2,_⟩:=zc I1 d;refine⟨t1,t2,?_⟩;rw[m.trees];refine lV rfl (lY (jo (dc (he U s1 Z H1 _ I1 q1) fun iv s2 ⟨y,H2,I2,ry,kvs,k,v,ea,ey,l,q2⟩=>ny ?_)));subst ey;exact NZ I2 ea ry l (.inl rfl) fun w' s3 I3 nQ=>⟨v,_,I3,nQ,q2⟩
theorem Ie(ho:PE X o td)(he:PE X e ty)(hf:PE X f tx)(m:M2 X o "pop" b6 e f bh):PE X (.Call (.Attribute o "pop" b6) [e,f] [] bh) (Pz td ty tx):=by
 intro U s Z H Q I h;refine rf m.base m.T5 m.line oW qP PySem.F.type_dict_pop (dc (ho U s Z H _ I h) fun u s1 ⟨x,H1,I1,rx,a,ex,d,q1⟩=>?_);subst ex;obtain rfl:u=Value.ref a:=rx;obtain⟨t1,t2,_⟩:=zc I1 d;refine⟨t1,t2,?_⟩;rw[m.trees];refine lV rfl (lY (jo (dc (he U s1 Z H1 _ I1 q1) fun iv s2 ⟨y,H2,I2,ry,q2⟩=>
  jo (dc (hf U s2 Z H2 _ I2 q2) fun fv s3 ⟨z,H3,I3,rz,kvs,k,ea,ey,q3,q4⟩=>ny ?_))))
 subst ey;cases l:lz kvs k with
 |some v=>exact NZ I3 ea ry l (.inr ⟨fv,rfl⟩) fun w' s4 I4 nQ=>⟨v,_,I4,nQ,q3 v l⟩
 |none=>exact Pp I3 ea ry l fun s4 I4=>⟨z,H3,I4,rz,q4 l⟩
end
theorem yd:∀{vs:List Value} {ns:List Int},IntsAre vs ns->Vals (ns.map V.int) vs
 |_,_,.nil=>.nil
 |_,_,.cons n t h=>.cons ⟨t,rfl⟩ (yd h)
def PB(H:Hp):Prop:=∀b,H b=none\/∃o xs,H b=some (.jO o (.lst xs))
theorem Ig{mb:Str->Option Value}{CX:AG}{k:Nat}{fa:Addr}{fd:FuncData}{sp:Sp}{cy:Shared}{vs:List Value}{ns:List Int}
  (KX:K.In cy.heap) (PC:cy.heap.Ns mainGlobals mg) (hb:cy.heap.Ns builtinsNs mb) (hbb:∀x:Str,x≠"__name__"->mb x=bootBuiltins x) (YA:cy.heap.NoLimit) (hg:cy.gens=#[])
  (ha:cy.heap.get? a=some {cls:=.type "list",data:=.seq vs.toArray}) (hi:IntsAre vs ns) (hl:ns.length<=sizeLine) (hr:cp k callerA)
  (F:∀base:Heap,K.In base->base.Ns mainGlobals mg->c_ P w K mg base CX k fa fd [x] sp) (T7:∀(s:Shared) (u:Value),BindsTo s fd ⟨[u],[]⟩ [(x,u)])
  (HV:∀H:Hp,PB H->jZ K H a (ns.map V.int)->sp [.ref a] H (fun v _=>v=.bl true) fun _ _ _=>False)
  (YB:∀H e s',CX [] H cy (fun _ _ _=>False) e s'->False):
  codeAny (model P w) callerA (.call (.ref fa) ⟨[.ref a],[]⟩) (fun r s'=>r=.ok (.ret (.bool true))/\OldK cy.heap s'.heap/\s'.os=cy.os/\AllBare s'.gens) cy:=by
 have rv:=yd hi;have YC:=hi.length;have core:∀H:Hp,PB H->jZ K H a (ns.map V.int)->p5 P w H cy.heap->(∀b,H b≠none->b=a)->(H a≠none->K.lookup a=none)->
   codeAny (model P w) callerA (.call (.ref fa) ⟨[.ref a],[]⟩) (fun r s'=>r=.ok (.ret (.bool true))/\OldK cy.heap s'.heap/\s'.os=cy.os/\AllBare s'.gens) cy:=by
  intro H hO hS cj hA hK;have Ej:∀{b:Addr} {o:Obj},cy.heap.get? b=some o->H b=none->(y0 cy.heap H).get? b=some o:=fun e n=>Hs e n;have TN:∀{b:Addr} {o:Obj} {es:Array DictEntry} {ep:Nat},cy.heap.get? b=some o->o.data=.dict es ep->H b=none:=fun{b o es ep} e d=>by
   cases q:H b with
   |none=>rfl
   |some u=>
    have e':b=a:=hA b (by rw[q];simp);subst e';rw[ha]at e;cases e;have d':Data.seq vs.toArray _=Data.dict es ep:=d;cases d'
  have Xk:∀{b:Addr} {m:Str->Option Value},cy.heap.Ns b m->(y0 cy.heap H).Ns b m:=fun{b m} ⟨o,es,ep,e,d,r⟩=>⟨o,es,ep,Ej e (TN e d),d,r⟩;have hKb:K.In (y0 cy.heap H):=fun b o e=>Ej (KX b o e) (by
   cases q:H b with
   |none=>rfl
   |some u=>
    have e':b=a:=hA b (by rw[q];simp);subst e';rw[hK (by rw[q];simp)]at e;cases e)
  have hM:Mod K mg (y0 cy.heap H):=⟨hKb,Xk PC,⟨mb,Xk hb,hbb⟩,let⟨mc,h1,h2⟩:=YA;⟨mc,Xk h1,h2⟩⟩;have e0:xC P w K mg (y0 cy.heap H) callerA [] cy H:=⟨rfl,hM,fun b o e=>Lb e,Nat.le_of_eq (FO _ _),trivial,fun b hb=>absurd (show b∈([]:List Addr)from hb) (by simp),cj,.of_eq hg⟩;refine gq ((F _ hKb (Xk PC)).run callerA [] cy H ⟨[.ref a],[]⟩ [.ref a] [.ref a] _ _ hr e0 (T7 cy (.ref a)) (.cons rfl .nil) (HV H hO hS)) fun r s' h=>?_
  cases r with
  |error e=>exact(YB H e s' h).elim
  |ok fl=>
   cases fl with
   |next=>exact False.elim h
   |brk=>exact False.elim h
   |cont=>exact False.elim h
   |ret u=>
    obtain⟨v,H',os,bare,un,YD,r',q⟩:=h;have q':v=.bl true:=q;subst q';obtain rfl:u=Value.bool true:=r';refine⟨rfl,OldK.of_keep fun b o e=>?_,os,bare⟩;cases q:H b with
    |none=>exact un.keep b o e q (by intro z;exact absurd (show b∈([]:List Addr)from z) (by simp)) (by simp)
    |some u=>
     rcases hO b with z|⟨ob,xs,z⟩
     ·rw[q]at z;cases z
     ·have z2:=un.jP b ob _ z;obtain⟨e1,_⟩:=cj b _ z;obtain⟨e2,_⟩:=YD b _ z2;rw[e]at e1;cases e1;exact e2
 cases hk:K.lookup a with
 |some o=>
  have e:=KX a o hk;rw[ha]at e;cases e;refine core (fun _=>none) (fun _=>.inl rfl) (.inr ⟨_,vs.toArray,_,hk,rfl,rfl,rfl,by rw[b_,YC];exact hl,by simpa using rv⟩) (fun b u z=>by have z':(none:Option HO)=some u:=z;cases z') (fun b z=>absurd rfl z) fun z=>absurd rfl z
 |none=>
  refine core (fun b=>if b=a then some (.jO {cls:=.type "list",data:=.seq vs.toArray} (.lst (ns.map V.int)))else none) (fun b=>?_) (.inl (.inr ⟨{cls:=.type "list",data:=.seq vs.toArray},ag rfl⟩)) (fun b u z=>?_) (fun b z=>?_) fun _=>hk
  ·by_cases hb:b=a
   ·exact .inr ⟨_,_,ag hb⟩
   ·exact .inl (ak hb)
  ·by_cases hb:b=a
   ·have z':=(ag hb).symm.trans z;cases z';subst hb;exact⟨ha,by rw[aC];exact hl,vs,_,rv,ha⟩
   ·have z':=(ak hb).symm.trans z;cases z'
  ·by_cases hb:b=a
   ·exact hb
   ·exact absurd (ak hb) z
theorem LG{l:PySem.W.OpenLaw}{n k:Nat}{q:Program}{loose:List Str}{XP:(Str->Option Value)->Heap->Prop}{YP:World->Heap->Prop}{d:DefRec}{K:Params->Frag}{CX:World->AG}{sp:World->Sp}{x:Str}
  (hn:l.most=some n) (O8:n<=sizeLine) (S8:d.params.defaults=[]) (hr:cp k callerA)
  (hY:∀(w:World) (h:Heap),YP w h->(K w.params).In h)
  (F:∀(w:World) (mg:Str->Option Value) (fa:Addr) (h:Heap),(K w.params).In h->h.Ns mainGlobals mg->mg d.name=some (.ref fa)->
   ∃fd:FuncData,(∀(s:Shared) (u:Value),BindsTo s fd ⟨[u],[]⟩ [(x,u)])/\
    ∀base:Heap,(K w.params).In base->base.Ns mainGlobals mg->c_ l.prog w (K w.params) mg base (CX w) k fa fd [x] (sp w))
  (HV:∀(w:World) (H:Hp) (a:Addr) (ns:List Int),ns.length<=n->PB H->jZ (K w.params) H a (ns.map V.int)->sp w [.ref a] H (fun v _=>v=.bl true) fun _ _ _=>False)
  (YB:∀(w:World) (H:Hp) (s:Shared) (e:Value) (s':Shared),CX w [] H s (fun _ _ _=>False) e s'->False):
  PySem.W.WalkO q loose XP YP l.row.toRowW d [] (fun f vs=>PySem.call f vs):=by
 refine Att.Ay hn S8 fun w eZ cy mg mb fa o pm cd doc a vs ns G ρ ho hd Cy S9 OK hints b7 hg=>?_
 have KX:=hY w _ ρ;obtain⟨fd,hb,hF⟩:=F w mg fa _ KX G.T.g S9;exact Ig KX G.T.g G.T.b G.T.builtins G.T.nolimit hg OK hints (bJ b7 O8) hr hF hb (fun H hO hS=>HV w H a ns b7 hO hS) fun H e s'=>YB w H cy e s'
def uM(s:Stmt):Arguments:=match s with
 |.FunctionDef _ a _ _ _ _ _ _ _ _=>a
 |_=>{posonlyargs:=[],args:=[],vararg:=none,kwonlyargs:=[],kw_defaults:=[],kwarg:=none,defaults:=[]}
def eB(s:Stmt):List Stmt:=match s with
 |.FunctionDef _ _ b _ _ _ _ _ _ _=>b
 |_=>[]
def aP(s:Stmt):Scope:=match s with
 |.FunctionDef _ _ _ _ _ _ sc _ _ _=>sc
 |_=>{kind:=.function,names:=[],isGenerator:=false,isCoroutine:=false}
abbrev kN:AG:=fun _ _ _ _ _ _=>False
abbrev E0:XK:=fun _ _ _=>False
theorem Ih:Passes kN X E0:=fun _ _ _ _ _ _ _ h=>h.elim
structure xw(K:Frag)(x qual:Str)(st:Stmt)(f:Addr)(fd:FuncData):Prop where
 ex:∃(oc:Value) (od:Option Addr) (kV doc pm:Value) (an:Option Addr) (eI ct:Value) (HU:Array (Option Value)),
  fd=PySem.W.fnOf x qual (uM st) (eB st) (aP st) .none kV doc pm an eI ct/\K.lookup f=some ⟨oc,od,.func fd,HU⟩/\PySem.W.codeIn K eI qual=true
 kp:PySem.W.keepIn K (.ref f)=true
section
variable {base:Heap}
theorem xw.ok {qual:Str}{st:Stmt}{f:Addr}{fd:FuncData}{N:List Str}{k:Nat}{sp:Sp}(F:xw K x qual st f fd)(S:fL N ps (aP st))(len:∀vs H Q E,sp vs H Q E->vs.length=ps.length)
  (jz:∀(eI:Value) (A:Around) (outer:List Env) (s:Shared) (H:Hp) (vs:List V) (Q:VK) (E:XK),cp k (A.deeper (envOfC qual (aP st) s.heap.objs.size f eI))->sp vs H Q E->
   ∃t,m6 (mX kN P w K mg base N qual (aP st) f eI A outer s H E).Hj (eB st) t/\t {nx:=fun _ H'=>Q .bK H',rt:=Q} (start N vs) H):c_ P w K mg base kN (k+1) f fd ps sp:=by
 obtain⟨oc,od,kV,doc,pm,an,eI,ct,HU,rfl,lk,Cy⟩:=F.ex;refine NV lk Cy S len fun A outer s H vs Q E hr HV=>?_
 obtain⟨t,h,q⟩:=jz eI A outer s H vs Q E hr HV;exact⟨t,h.Hj,q⟩
theorem xw.binds {qual:Str}{st:Stmt}{f:Addr}{fd:FuncData}(F:xw K x qual st f fd)
  (h:∀(kV doc pm:Value) (an:Option Addr) (eI ct:Value) (us:List Value),us.length=ps.length->bindArgs (PySem.W.fnOf x qual (uM st) (eB st) (aP st) .none kV doc pm an eI ct) ⟨us,[]⟩=pure (ps.zip us)):Binds K fd ps []:=by
 obtain⟨oc,od,kV,doc,pm,an,eI,ct,HU,rfl,lk,Cy⟩:=F.ex;exact .all (h kV doc pm an eI ct)
end
theorem aB{k:Nat}(hr:cp k A):A.units+1<cLine:=qT (Nat.add_le_add_left (by decide:1<=64) _) hr.units
theorem PD{A B:Prop}(h:B):if false=true then A else B:=by
 rw[ak d9];exact h
theorem PH{A B:Prop}(h:A):if true=true then A else B:=by
 rw[ag rfl];exact h
def au(H H':Hp):Prop:=∀b o,H b=some o->H' b=some o
theorem au.refl (H:Hp):au H H:=fun _ _ h=>h
theorem au.trans {H1 H2:Hp}(a:au H H1)(b:au H1 H2):au H H2:=fun c o h=>b c o (a c o h)
theorem au.free {H':Hp}(e:au H H'){l:Addr}(h:H' l=Option.none):H l=Option.none:=by
 cases q:H l with
 |none=>rfl
 |some o=>
  rw[e l o q]at h;cases h
theorem au.seq {H':Hp}{xs:List V}(e:au H H')(h:jZ K H a xs):jZ K H' a xs:=by
 rcases h with(h|⟨o,h⟩)|h
 ·exact .inl (.inl (e _ _ h))
 ·exact .inl (.inr ⟨o,e _ _ h⟩)
 ·exact .inr h
theorem vO{α β:Type}{f:α->β->Sem (ForInStep β)}{g:β->α->β}:∀(l:List α) (c:β),(∀x∈l,∀c,f x c=pure (.yield (g c x)))->forIn l c f=(pure (l.foldl g c):Sem β)
 |[],c,_=>rfl
 |x::l,c,h=>by
  rw[nz,h x bR,pure_bind];exact vO l _ fun y hy=>h y (bI _ hy)
def ko(env:Env)(cs:List (Str×Addr))(x:Str×NameKind):List (Str×Addr):=if x.2== .free then(x.1,(env.cells.lookup x.1).getD 0)::cs else cs
def CO(scope:Scope)(env:Env):List (Str×Addr):=scope.names.foldl (ko env) []
theorem rY{scope:Scope}{env:Env}(h:∀x∈scope.names,x.2=.free->∃c,env.cells.lookup x.1=some c):closureFor scope env=pure (CO scope env):=by
 simp only[closureFor];rw[vO (g:=ko env) scope.names [] (fun x hx c=>by
  obtain⟨n,k⟩:=x;by_cases hk:k=.free
  ·subst hk;obtain⟨a,ha⟩:=h _ hx rfl;have kr:env.cells.lookup n=some a:=ha;simp[cellOf,kr,ko]
  ·have e:(k==NameKind.free)=false:=by simpa using hk
   simp[e,ko])]
 rfl
theorem vP{env:Env}:∀(names:List (Str×NameKind)) (acc:List (Str×Addr)),(∀x∈names,x.2=.free->∃c,env.cells.lookup x.1=some c)->(∀x c,acc.lookup x=some c->env.cells.lookup x=some c)->
  ∀x c,(names.foldl (ko env) acc).lookup x=some c->env.cells.lookup x=some c
 |[],_,_,ha,x,c,e=>ha x c e
 |(n,k)::r,acc,hf,ha,x,c,e=>by
  refine vP r (ko env acc (n,k)) (fun y hy=>hf y (bI _ hy)) (fun y d ed=>?_) x c e;unfold ko at ed;by_cases hk:k=.free
  ·subst hk;obtain⟨a,hn⟩:=hf (n,.free) bR rfl;have NN:env.cells.lookup n=some a:=hn;simp only[bA,bB,NN,q_,bS]at ed;split at ed
   ·rename_i hy;have:y=n:=by simpa using hy
    subst this;rw[NN];exact ed
   ·exact ha y d ed
  ·have e:(k==NameKind.free)=false:=by simpa using hk
   simp only[e,cu,bw]at ed;exact ha y d ed
theorem vQ{env:Env}:∀(names:List (Str×NameKind)) (acc:List (Str×Addr)) (x:Str),((acc.lookup x).isSome=true\/(x,NameKind.free)∈names)->((names.foldl (ko env) acc).lookup x).isSome=true
 |[],_,_,h=>h.elim (fun z=>z) fun z=>absurd z (by simp)
 |(n,k)::r,acc,x,h=>by
  refine vQ r (ko env acc (n,k)) x ?_
  unfold ko;rcases h with h|h
  ·left;split
   ·rw[bS];split<;>simp_all
   ·exact h
  ·rcases aE.mp h with h|h
   ·left;cases h;simp[bS]
   ·exact .inr h
theorem p_{env:Env}:∀{names:List (Str×NameKind)} {x:Str} {k:NameKind},(names.map fun(n,k)=>if(k==NameKind.free&&env.scope.kind== .function&&env.kindOf n==some .cell)then(n,NameKind.cell)else(n,k)).lookup x=some k->
  names.lookup x=some k\/names.lookup x=some .free
 |[],_,_,h=>by simp at h
 |(n,j)::r,x,k,h=>by
  simp only[aO]at h;by_cases hx:x=n
  ·subst hx;by_cases hc:(j==NameKind.free&&env.scope.kind== .function&&env.kindOf x==some .cell)=true
   ·rw[ag hc]at h;simp only[bf,dR]at hc;right;rw[bS,bA,hc.1.1]
   ·rw[ak hc]at h;left;rw[bS,bA]at h⊢;exact h
  ·have e:(x==n)=false:=by simpa using hx
   have h':(r.map fun(n,k)=>if(k==NameKind.free&&env.scope.kind== .function&&env.kindOf n==some .cell)then(n,NameKind.cell)else(n,k)).lookup x=some k:=by
    split at h<;>(rw[bS,e]at h;exact h)
   rcases p_ h' with z|z
   ·left;rw[bS,e];exact z
   ·right;rw[bS,e];exact z
theorem rZ{env:Env}:∀{names:List (Str×NameKind)} {x:Str},names.lookup x=some .free->
  (names.map fun(n,k)=>if(k==NameKind.free&&env.scope.kind== .function&&env.kindOf n==some .cell)then(n,NameKind.cell)else(n,k)).lookup x=some .cell\/
  (names.map fun(n,k)=>if(k==NameKind.free&&env.scope.kind== .function&&env.kindOf n==some .cell)then(n,NameKind.cell)else(n,k)).lookup x=some .free
 |[],_,h=>by simp at h
 |(n,j)::r,x,h=>by
  simp only[aO];by_cases hx:x=n
  ·subst hx;rw[bS,bA]at h;have hj:j=.free:=Option.some.inj h;by_cases hc:(j==NameKind.free&&env.scope.kind== .function&&env.kindOf x==some .cell)=true
   ·left;rw[ag hc,bS,bA]
   ·right;rw[ak hc,bS,bA,hj]
  ·have e:(x==n)=false:=by simpa using hx
   rw[bS,e]at h;rcases rZ (env:=env) h with z|z
   ·left;split<;>(rw[bS,e];exact z)
   ·right;split<;>(rw[bS,e];exact z)
def r6(X:Cx)(scope:Scope)(N:List Str)(s:Shared)(H:Hp)(ex:List Addr):Cx where
 prog:=X.prog
 w:=X.w
 K:=X.K
 mg:=X.mg
 base:=X.base
 A:=X.A
 N:=N
 eZ:=s
 AB:=H
 env:=compEnvC scope (CO scope X.env) s.heap.objs.size X.env
 outer:=X.stack
 stack:=X.stack
 ex:=ex
 fn:=fun _=>false
 calm:=X.calm
 pn:=[]
 xe:=fun _ _=>False
def T8(N N':List Str)(ix:List (Option Nat))(sc scope:Scope):Bool:=
 decide (N'.length=ix.length)&&(N'.zip ix).all (fun p=>match p.2 with
  |none=>true
  |some j=>decide (N[j]?=some p.1)&&decide (scope.names.lookup p.1=some .free))&&
 scope.names.all (fun y=>y.2 != .cell&&(y.2 != .free||decide (sc.names.lookup y.1=some .cell))&&(y.2 != .local||decide (scope.names.lookup y.1=some .local)))&&(scope.kind== .function)
structure fS(X:Cx)(N':List Str)(ix:List (Option Nat))(scope:Scope):Prop where
 len:N'.length=ix.length
 free:∀(i:Nat) (x:Str) (j:Nat),N'[i]?=some x->ix[i]?=some (some j)->X.N[j]?=some x/\scope.names.lookup x=some .free
 Ii:∀y∈scope.names,y.2≠ .cell
 cell:∀y∈scope.names,y.2=.free->X.env.scope.names.lookup y.1=some .cell
 loc:∀y∈scope.names,y.2=.local->scope.names.lookup y.1=some .local
 kind:scope.kind=.function
theorem fS.of {N N':List Str}{ix:List (Option Nat)}{sc scope:Scope}(hN:X.N=N)(hs:X.env.scope=sc)(h:T8 N N' ix sc scope=true):fS X N' ix scope:=by
 unfold T8 at h;simp only[bf,jq,cO]at h;obtain⟨⟨⟨h1,h2⟩,h3⟩,h4⟩:=h;refine⟨h1,fun i x j e1 e2=>?_,fun y hy z=>?_,fun y hy z=>?_,fun y hy z=>?_,by simpa using h4⟩
 ·have m:(x,some j)∈N'.zip ix:=cV (i:=i) (by rw[List.getElem?_zip_eq_some];exact⟨e1,e2⟩);have q:=h2 _ m;simp only[bf,jq]at q;rw[hN];exact q
 ·have q:=(h3 y hy).1.1;rw[z]at q;simp at q
 ·have q:=(h3 y hy).1.2;rw[z]at q;simp only[qW,lj,jq]at q;rw[hs];exact q
 ·have q:=(h3 y hy).2;rw[z]at q;simp only[qW,lj,jq]at q;exact q
def hV(ix:List (Option Nat))(Z:St):St:=ix.map fun o=>o.bind fun j=>(Z[j]?).join
theorem CQ{N':List Str}{ix:List (Option Nat)}{scope:Scope}{dS:Heap}{fp:List Addr}{tk:Nat}(L:fS X N' ix scope)(I:Inv X U Z H s)
  (PC:dS.Ns s.heap.objs.size (fun _=>none)) (LH:∀b o,s.heap.get? b=some o->dS.get? b=some o)
  (hf:∀b∈fp,jQ X U H b) (hfo:∀b∈fp,b<s.heap.objs.size):Inv (r6 X scope N' s H fp) [] (hV ix Z) H {s with heap:=dS,toks:=tk}:=by
 have vR:∀y∈scope.names,y.2=.free->∃c,X.env.cells.lookup y.1=some c:=fun y hy z=>I.ok.has y.1 (.inl (L.cell y hy z));have sub:∀x c,(CO scope X.env).lookup x=some c->X.env.cells.lookup x=some c:=vP scope.names [] vR (fun x c e=>by simp at e);have has:∀x,scope.names.lookup x=some .free->∃c,(CO scope X.env).lookup x=some c:=fun x e=>
  u5.mp (vQ scope.names [] x (.inr (jV e)))
 have K0:∀b∈fp,b∉iN X.stack:=fun b hb z=>by
  obtain⟨_,f1,f2,_⟩:=hf b hb;rcases aE.mp (I.vz b z)with q|q
  ·exact f1 q
  ·exact f2 q
 refine⟨⟨I.ok.mod,L.kind,I.ok.glob,I.ok.blt,aN _,fun x y c e1 e2=>I.ok.inj x y c (sub x c e1) (sub y c e2),fun x hx=>?_,fun x c z=>absurd (show false=true from z) d9,I.ok.hd,I.ok.frames,.inl rfl,
   fun b hb=>⟨bc (hfo b hb),fun x c e=>(hf b hb).2.2.2.2.1 x c (sub x c e)⟩,I.bs,bJ I.ok.FP I.sz,fun b o e hb=>?_,K0,I.stack,I.uK⟩,
  rfl,I.bare,Un.kept LH,⟨_,PC,fun i x v e1 e2 e3=>?_⟩,fun x c e=>?_,I.fresh,fun x c e=>I.eK x c (sub x c e),fun p hp=>absurd (show p∈([]:List (Addr×Obj))from hp) (by simp),I.cj.kept LH,?_⟩
 ·have hx:(relabel scope X.env).names.lookup x=some .cell\/(relabel scope X.env).names.lookup x=some .free:=hx;have D3:scope.names.lookup x=some .free:=by
   rcases hx with z|z
   ·rcases p_ z with q|q
    ·exact absurd rfl (L.Ii _ (jV q))
    ·exact q
   ·rcases p_ z with q|q
    ·exact q
    ·exact q
  exact has x D3
 ·obtain⟨_,_,_,q,_⟩:=hf b hb;rcases q with q|q
  ·exact I.ok.y1 b o e q
  ·exact absurd (cn (aF (I.ok.bs b o e).1) q) (dm _)
 ·
  unfold hV at e2;rw[bg]at e2;cases eo:ix[i]? with
  |none=>rw[eo]at e2;cases e2
  |some o=>
   rw[eo]at e2;cases o with
   |none=>exact absurd (show(some none:Option (Option V))=some (some v)from e2) (by simp)
   |some j=>
    obtain⟨n1,n2⟩:=L.free i x j e1 eo;have K2:(Z[j]?).join=some v:=Option.some.inj (show some ((Z[j]?).join)=some (some v)from e2);have e4:Z[j]?=some (some v):=by
     cases q:Z[j]? with
     |none=>rw[q]at K2;cases K2
     |some z=>
      rw[q]at K2;have:z=some v:=K2;rw[this]
    have Ek:X.env.scope.names.lookup x=some .cell:=L.cell _ (jV n2) rfl;obtain⟨m,hn,hl⟩:=I.loc;obtain⟨u,r,l⟩:=hl j x v n1 e4 (.inr (.inl Ek));refine⟨u,r,?_⟩;rcases l with⟨k,_⟩|⟨k,c,ec,z⟩
    ·have k':X.env.scope.names.lookup x=some .local:=k;rw[Ek]at k';cases k'
    ·obtain⟨c',Tj⟩:=has x n2;have ecc:c'=c:=by
      have q:=sub x c' Tj;rw[ec]at q;exact(Option.some.inj q).symm
     subst ecc;refine .inr ⟨?_,c',Tj,?_⟩
     ·exact rZ n2
     ·obtain⟨o',Lc,Ld⟩:=z;exact⟨o',LH _ _ Lc,Ld⟩
 ·obtain⟨v,o,ho,hd⟩:=I.cell x c (sub x c e);exact⟨v,o,LH _ _ ho,hd⟩
 ·show(hV ix Z).length=N'.length;unfold hV;rw[aC];exact L.len.symm
abbrev El(ifs:List Expr)(env:Env):Sem Bool:=forIn ifs true fun c r=>if r=true then do let ok<-isTrue c env (eval c env);pure (ForInStep.yield ok)else pure (ForInStep.yield r)
section
variable {prog:Program}{R:Result->Shared->Prop}
theorem LJ{elt target b8:Expr}{ifs:List Expr}{scope:Scope}{it acc:Value}{env:Env}(I:Nat->Shared->Prop)
  (turn:∀n s,I n s->wpAny (model prog w) A (pyNext it) (fun r cy=>match r with
   |none=>R (.ok .next) cy
   |some v=>wpAny (model prog w) A (letOwnedTupleGo target it v) (fun _ N0=>wpAny (model prog w) A (assign target env v) (fun _ rM=>
     wpAny (model prog w) A (El ifs env) (fun ok AM=>
      if ok=true then wpAny (model prog w) A (eval elt env) (fun x LK=>
       wpAny (model prog w) A (call (.builtin "list.append") [acc,x]) (fun _ T9=>∃m,m<n/\I m T9) (fun _ _=>False) LK) (fun _ _=>False) AM
      else∃m,m<n/\I m AM) (fun _ _=>False) rM) (fun _ _=>False) N0) (fun _ _=>False) cy) (fun _ _=>False) s)
  (n:Nat) (h:I n s):codeAny (model prog w) A (.compLoop (.ListComp elt [⟨target,b8,ifs,0⟩] scope pos) 0 it acc env) R s:=by
 refine codeAny_loop rfl I (fun n s hI=>?_) n h;show wpAny _ A ((compTurn (.ListComp elt [⟨target,b8,ifs,0⟩] scope pos) 0 it acc env).onRaise (fun x=>do noteFrame x env;theTreesLotGoes x)) _ _ s;refine wpAny_noted ?_
 rw[compTurn_list];refine af (wpAny_standAt (af (cX (turn n s hI) (fun r cy dS=>?_) fun _ _ f=>f.elim)));cases r with
 |none=>exact ar dS
 |some v=>
  refine af (cX dS (fun _ N0 T_=>?_) fun _ _ f=>f.elim);refine af (cX T_ (fun _ rM nW=>af (cX nW (fun ok AM xF=>?_) fun _ _ f=>f.elim)) fun _ _ f=>f.elim);cases ok with
  |false=>exact ar ⟨rfl,xF⟩
  |true=>exact af (af (cX xF (fun x LK PK=>af (cX PK (fun _ T9 pI=>ar (ar ⟨rfl,pI⟩)) fun _ _ f=>f.elim)) fun _ _ f=>f.elim))
end
def PF(X:Cx)(ifs:List Expr)(t:TT):Prop:=
 ∀(U:List (Addr×Obj)) (s:Shared) (Z:St) (H:Hp) (Q:Bool->Hp->Prop),Inv X U Z H s->t Z H Q->wpAny (model X.prog X.w) X.A (El ifs X.env) (TP X U Z Q) X.xe s
theorem PL:PF X [] (fun _ H Q=>Q true H):=fun _ _ _ H _ I h=>wpAny_tests_nil ⟨H,I,h⟩
theorem PM{c:Expr}{t:TT}(h:PT X c t):PF X [c] t:=fun U s Z H Q I q=>wpAny_tests_one (h U s Z H Q I q)
def YE(J:It)(D:Addr)(Xl:St)(H0:Hp)(g:TG)(tc:TT)(te:TE)(Q:Hp->Prop):Prop:=
 ∃W:Nat->Nat->St->Hp->Prop,(∃m,W 0 m Xl H0)/\∀i m Z H,W i m Z H->(J.stop i H/\Q H)\/
  (J.go i H/\∃N:St->Hp->Prop,(∀cI H',N cI H'->∃m',m'<m/\W (i+1) m' cI H')/\∀x H',J.FR i H x H'->g x Z H' fun xB H2=>tc xB H2 fun b H3=>
    if b=true then te xB H3 fun y H4=>∃ys,H4 D=some (.lst ys)/\ys.length<sizeLine/\N xB (upd H4 D (.lst (ys++[y])))else N xB H3)
def SF(wi:TI)(ix:List (Option Nat))(g:TG)(tc:TT)(te:TE):TE:=fun Z H Q=>wi Z H fun J H1=>∀D,H1 D=none->YE J D (hV ix Z) (upd H1 D (.lst [])) g tc te fun H'=>Q (.ref D) H'
section
variable {scope:Scope}{N':List Str}{ix:List (Option Nat)}{tg b8 elt:Expr}{ifs:List Expr}{g:TG}{tc:TT}{te:TE}
theorem Em{use:Option (Value->Sem Unit)}{Qf:Value->Shared->Prop}{QD:Addr->Hp->Prop}{s2:Shared}{H2:Hp}{it:Addr}{fp:List Addr}{tn:Nat->Heap->Prop}{J:It}
  (L:fS X N' ix scope) (hc:X.calm=true) (kO:∀s H ex,PG (r6 X scope N' s H ex) tg g/\PF (r6 X scope N' s H ex) ifs tc/\PE (r6 X scope N' s H ex) elt te)
  (I2:Inv X U Z H2 s2) (T:Turn X.prog X.w X.K tg J fp it tn) (Lj:tn 0 s2.heap) (f2:∀b∈fp,jQ X U H2 b)
  (hw:∀D,H2 D=none->YE J D (hV ix Z) (upd H2 D (.lst [])) g tc te (QD D))
  (YF:∀D C H' s' m,Inv X U Z H' s'->jQ X U H' C->s'.heap.Ns C m->QD D H'->compPost (model X.prog X.w) X.A X.xe use Qf (.ref D) C (.ok .next) s'):
  wpAny (model X.prog X.w) X.A (newList []) (fun acc AM=>wpAny (model X.prog X.w) X.A (newFunctionEnv scope X.env.globals (CO scope X.env) [] X.env.qual none .none (some X.env)) (fun T' LK=>
   codeAny (model X.prog X.w) X.A (.compStart (.ListComp elt [⟨tg,b8,ifs,0⟩] scope pos) 0 (.ref it) acc {T' with scope:=relabel scope X.env}) (compPost (model X.prog X.w) X.A X.xe use Qf acc T'.locals) LK) X.xe AM) X.xe s2:=by
 refine jr (wpAny_newFunctionEnv L.Ii (by intro y hy;simp at hy) (fun dS CT CU=>?_) L.kind);dsimp only at CT CU⊢;have hD:H2 s2.heap.objs.size=none:=I2.fresh;have I3:Inv X U Z (upd H2 s2.heap.objs.size (.lst [])) {s2 with heap:=s2.heap.push {cls:=.type "list",data:=.seq ([]:List Value).toArray},toks:=s2.toks}:=I2.Lz (bz:=[]) .nil (dh _);generalize hs3:({s2 with heap:=s2.heap.push {cls:=.type "list",data:=.seq ([]:List Value).toArray},toks:=s2.toks}:Shared)=s3 at I3;have e3:({s2 with heap:=s2.heap.push {cls:=.type "list",dict:=none,data:=.seq ([]:List Value).toArray}}:Shared)=s3:=hs3;have eh:s2.heap.push {cls:=.type "list",dict:=none,data:=.seq ([]:List Value).toArray}=s3.heap:=cw Shared.heap e3;have eos:s3.os=s2.os:=by rw[<-e3]
 have ek:∀b o,s2.heap.get? b=some o->s3.heap.get? b=some o:=fun b o e=>by rw[<-eh];exact aX _ e
 have PN:s2.heap.objs.size<=s3.heap.objs.size:=by rw[<-eh,ik];exact nJ _
 rw[eh]at CT CU⊢;have f3:∀b∈fp,jQ X U (upd H2 s2.heap.objs.size (.lst [])) b:=fun b hb=>by
  obtain⟨o,eo,_⟩:=T.obj _ _ Lj b hb;refine⟨?_,(f2 b hb).2⟩;rw[ay (bc (aF eo))];exact(f2 b hb).1
 have La:∀b∈fp,b<s3.heap.objs.size:=fun b hb=>by
  obtain⟨o,eo,_⟩:=T.obj _ _ Lj b hb;exact cn (aF eo) PN
 have k4:∀b o,s3.heap.get? b=some o->dS.get? b=some o:=fun b o e=>CU.extBut b o (bc (aF e)) (aX _ e);have st4:tn 0 dS:=T.keep _ _ _ Lj fun b _ o e=>k4 b o (ek b o e);obtain⟨W,⟨m0,w0⟩,turn⟩:=hw s2.heap.objs.size hD;have I4:∀tk,Inv (r6 X scope N' s3 (upd H2 s2.heap.objs.size (.lst [])) fp) [] (hV ix Z) (upd H2 s2.heap.objs.size (.lst [])) {s3 with heap:=dS,toks:=tk}:=fun tk=>
  CQ L I3 CT k4 f3 La
 obtain⟨hg,hf,he⟩:=kO s3 (upd H2 s2.heap.objs.size (.lst [])) fp;have CC:∀{H':Hp},(∀b∈fp,H' b=none)->∀b∈fp,jQ (r6 X scope N' s3 (upd H2 s2.heap.objs.size (.lst [])) fp) [] H' b:=fun{H'} hn b hb=>by
  have ok:=(I4 0).ok;obtain⟨x1,x2⟩:=ok.Sz b hb;exact⟨hn b hb,x1,ok.AD b hb,.inl hb,x2,fun p hp=>absurd (show p∈([]:List (Addr×Obj))from hp) (by simp)⟩
 have loop:∀tk,codeAny (model X.prog X.w) X.A (.compLoop (.ListComp elt [⟨tg,b8,ifs,0⟩] scope pos) 0 (.ref it) (.ref s2.heap.objs.size) (compEnvC scope (CO scope X.env) s3.heap.objs.size X.env))
   (compPost (model X.prog X.w) X.A X.xe use Qf (.ref s2.heap.objs.size) s3.heap.objs.size) {s3 with heap:=dS,toks:=tk}:=fun tk=>by
  refine LJ (fun n s'=>∃i cI H',Inv (r6 X scope N' s3 (upd H2 s2.heap.objs.size (.lst [])) fp) [] cI H' s'/\tn i s'.heap/\(∀b∈fp,H' b=none)/\W i n cI H') ?_ m0
   ⟨0,_,_,I4 tk,st4,fun b hb=>(f3 b hb).1,w0⟩
  rintro n s5 ⟨i,Xm,H5,I5,SA,Xj,w5⟩
  rcases turn i n Xm H5 w5 with⟨stop,qn⟩|⟨go,N,hN,step⟩
  ·refine dc (T.done (r6 X scope N' s3 (upd H2 s2.heap.objs.size (.lst [])) fp) rfl rfl rfl hc i [] s5 Xm H5 _ I5 (CC Xj) SA stop) fun r s6 ⟨hr,I6⟩=>?_
   subst hr;have u:Un (iN X.stack) fp H2 H5 s2.heap s6.heap:=(Un.laid (o:=.lst []) ek (aN _) hD).trans I6.base;have J6:Inv X U Z H5 s6:=I2.Tn (ch:=fp) (I6.os.trans eos) u I6.cj I6.bare fun b hb=>by
    obtain⟨_,x1,_,x3,x4,x5⟩:=f2 b hb;exact⟨x3,x1,x4,x5⟩
   obtain⟨m,hm,_⟩:=I6.loc;exact YF _ _ H5 s6 m J6 (I2.vC PN I6.free) hm qn
  ·refine dc (T.item (r6 X scope N' s3 (upd H2 s2.heap.objs.size (.lst [])) fp) rfl rfl rfl hc i [] s5 Xm H5 _ I5 (CC Xj) SA go) fun r s6 ⟨v,hr,h6⟩=>?_
   subst hr;refine dc h6 fun _ s7 ⟨x,H7,I7,r7,y7,YG,fr7⟩=>?_
   have I7':=I7.pinned (CC fr7) (T.obj _ _ YG);refine dc (hg _ s7 Xm H7 x v _ I7' r7 (step x H7 y7)) fun _ s8 ⟨Xn,H8,I8,q8⟩=>?_
   have again:∀{Ua:St} {H9:Hp} {s9:Shared},Inv (r6 X scope N' s3 (upd H2 s2.heap.objs.size (.lst [])) fp) ([]++vE fp s7.heap) Ua H9 s9->N Ua H9->
     ∃m,m<n/\∃i cI H',Inv (r6 X scope N' s3 (upd H2 s2.heap.objs.size (.lst [])) fp) [] cI H' s9/\tn i s9.heap/\(∀b∈fp,H' b=none)/\W i m cI H':=fun{Ua H9 s9} I9 n9=>by
    obtain⟨m',hm,w9⟩:=hN Ua H9 n9;refine⟨m',hm,i+1,Ua,H9,I9.rL,T.keep _ _ _ YG fun b hb o e=>(I9.pin (b,o) (cH _ (cH _ (l_ hb e)))).1,fun b hb=>?_,w9⟩;obtain⟨o,e,d⟩:=T.obj _ _ YG b hb;exact(I9.pin (b,o) (cH _ (cH _ (l_ hb e)))).2.1
   refine dc (hf _ s8 Xn H8 _ I8 q8) fun ok s9 ⟨H9,I9,q9⟩=>?_
   cases ok with
   |false=>exact again I9 q9
   |true=>
    refine dc (he _ s9 Xn H9 _ I9 q9) fun y s10 ⟨v10,H10,I10,r10,ys,hy,hz,n10⟩=>?_
    refine dc (ly _ s10 Xn H10 (.ref s2.heap.objs.size) [v10] (.ref s2.heap.objs.size) [y] (fun _ H'=>N Xn H') I10 rfl (.cons r10 .nil) ⟨_,ys,v10,rfl,rfl,hy,hz,n10⟩) fun _ s11 ⟨_,H11,I11,_,q11⟩=>?_
    exact again I11 q11
 have es:∀tk,({s2 with heap:=dS,toks:=tk}:Shared)={s3 with heap:=dS,toks:=tk}:=fun tk=>by rw[<-e3]
 have N1:∀tk,codeAny (model X.prog X.w) X.A (.compLoop (.ListComp elt [⟨tg,b8,ifs,0⟩] scope pos) 0 (.ref it) (.ref s2.heap.objs.size) (compEnvC scope (CO scope X.env) s3.heap.objs.size X.env))
   (compPost (model X.prog X.w) X.A X.xe use Qf (.ref s2.heap.objs.size) s3.heap.objs.size) {s2 with heap:=dS,toks:=tk}:=fun tk=>by
  rw[es tk];exact loop tk
 exact codeAny_compStart_list (N1 _) (T.self _ 0 _ _ _ st4 (N1 _))
theorem Ij{wi:TI}(L:fS X N' ix scope)(hc:X.calm=true)(hi:PI X tg b8 wi)(kO:∀s H ex,PG (r6 X scope N' s H ex) tg g/\PF (r6 X scope N' s H ex) ifs tc/\PE (r6 X scope N' s H ex) elt te)
  (hs:∀x,foldedSetIterable b8 X.env x=pure x:=by intro _;rfl):PE X (.ListComp elt [⟨tg,b8,ifs,0⟩] scope pos) (SF wi ix g tc te):=by
 intro U s Z H Q I h;have vR:∀y∈scope.names,y.2=.free->∃c,X.env.cells.lookup y.1=some c:=fun y hy z=>I.ok.has y.1 (.inl (L.cell y hy z));rw[eval_ListComp];refine wpAny_comprehension_free (use:=none) rfl hs (rY vR) L.kind L.loc (dc (hi U s Z H _ I h) fun v s1 h1=>dc h1 fun Xh s2 h2=>?_);obtain⟨it,fp,tn,J,H2,e,I2,T,Lj,f2,hw⟩:=h2;subst e;refine Em (QD:=fun D H'=>Q (.ref D) H') L hc kO I2 T Lj f2 hw fun D C H' s' m I' fC hm q=>⟨m,hm,fun h' LH=>?_⟩;obtain⟨x0,x1,x2,x3,x4,x5⟩:=fC;exact⟨.ref D,H',I'.turned (t':=s'.toks) (fun b o hb e=>(LH.2 b hb).trans e) x0 x1 x3 x4 x5,rfl,q⟩
theorem vS{wi:TI}{px lB:Pos}(L:fS X N' ix scope)(hc:X.calm=true)(hN:X.N.Nodup)(hi:X.N[i]?=some x)(hx:Loc X.env.scope x)(hit:PI X tg b8 wi)
  (kO:∀s H ex,PG (r6 X scope N' s H ex) tg g/\PF (r6 X scope N' s H ex) ifs tc/\PE (r6 X scope N' s H ex) elt te)
  (F5:swapsWith (.ListComp elt [⟨tg,b8,ifs,0⟩] scope pos) (some (.Name x px)) lB.line X.env=pure true:=by rfl)
  (hs:∀x,foldedSetIterable b8 X.env x=pure x:=by intro _;rfl) (hf:xu X x:=by first|exact .inl rfl|exact .inr rfl|assumption):
  PS X (.Assign [.Name x px] (.ListComp elt [⟨tg,b8,ifs,0⟩] scope pos) lB) (fun D Z H=>SF wi ix g tc te Z H fun v H'=>D.nx (Z.set i (some v)) H'):=by
 intro U s Z H D I h;have vR:∀y∈scope.names,y.2=.free->∃c,X.env.cells.lookup y.1=some c:=fun y hy z=>I.ok.has y.1 (.inl (L.cell y hy z));rw[exec_Assign_Name_used _ _ _ _ F5];refine af (wpAny_standAt (af ?_));show wpAny _ X.A (do let _<-comprehension (.ListComp elt [⟨tg,b8,ifs,0⟩] scope pos) scope X.env _ (newList []) false (eval b8 X.env) (some (assign (.Name x px) X.env))) _ _ s;refine af (cX (wpAny_comprehension_free (use:=some (assign (.Name x px) X.env)) (Q:=fun _ s'=>SP X U D .next s') rfl hs (rY vR) L.kind L.loc
  (dc (hit U s Z H _ I h) fun v s1 h1=>dc h1 fun Xh s2 h2=>?_)) (fun _ s' hq=>ar (ar hq)) fun _ _ e=>e)
 obtain⟨it,fp,tn,J,H2,e,I2,T,Lj,f2,hw⟩:=h2;subst e;refine Em (QD:=fun Dd H'=>D.nx (Z.set i (some (.ref Dd))) H') L hc kO I2 T Lj f2 hw fun Dd C H' s' m I' fC hm q=>?_
 obtain⟨x0,x1,x2,x3,x4,x5⟩:=fC;show wpAny _ X.A (assign (.Name x px) X.env (.ref Dd)) _ _ _;refine wpAny_assign_Name (xZ I' hN hi hx (v:=.ref Dd) rfl (fun Pd I'' xY=>?_) hf);obtain⟨a,LH,ha⟩:=xY;have hCa:C≠a:=by
  rcases ha with ha|ha
  ·rw[ha];exact x1
  ·exact fun z=>x4 _ _ ha z.symm
 refine⟨m,hm.sameBut LH hCa,fun h' YH=>?_⟩;exact⟨_,H',I''.turned (t':=Pd.toks) (fun b o hb e=>(YH.2 b hb).trans e) x0 x1 x3 x4 x5,q⟩
end
def Xo(z:Str):It:=⟨fun i _=>i<z.cps.size,fun i H x H'=>H'=H/\∃c,z.cps[i]?=some c/\x=.str ⟨#[c]⟩,fun i _=>i=z.cps.size⟩
theorem AR{tg:Expr}{z:Str}{t:Tok}{it:Addr}{n:String}(hn:["enumerate","zip","dict_itemiterator","dict_reverseitemiterator","odict_iterator","itertools.zip_longest","itertools.pairwise"].contains n=false)
  (W:∀A':Around,A'.handled=none->Walks P w A' it [it] [it] z.cps.size (SignAt z) (fun i h=>h.IsStrIter it n z t i))
  (self:∀(A:Around) (i:Nat) (s:Shared) (Q:Value->Shared->Prop) (E:Value->Shared->Prop),s.heap.IsStrIter it n z t i->Q (.ref it) s->wpAny (model P w) A (pyIter (.ref it)) Q E s):
  Turn P w K tg (Xo z) [it] it (fun i h=>h.IsStrIter it n z t i) where
 mem:=by simp
 obj:=fun i h st b hb=>by
  have e:b=it:=by simpa using hb
  subst e;obtain⟨o,e,c,d⟩:=st;exact⟨o,e,fun v q=>by rw[d]at q;cases q⟩
 keep:=fun i h h' st k=>by
  obtain⟨o,e,c,d⟩:=st;exact⟨o,k it (by simp) o e,c,d⟩
 item:=by
  intro X hP hw hK hc i U s Z H E I hf st hg;subst hP hw hK;obtain⟨f0,f1,f2,f3,f4,f5⟩:=hf it (by simp);refine(W X.A (I.ok.hd hc)).item i s _ _ hg st fun v h' tk hv vD kk=>?_
  obtain⟨c,u,hcu,rfl⟩:=hv;have I1:Inv X U Z H {s with heap:=h',toks:=tk}:=I.turned (fun b o hb e=>kk b o (by simpa using hb) e) f0 f1 f3 f4 f5;obtain⟨o,e,cl,d⟩:=id vD;exact⟨_,rfl,x6 (s:={s with heap:=h',toks:=tk}) e cl d hn ⟨.str ⟨#[c]⟩,H,I1,⟨u,rfl⟩,⟨rfl,c,hcu,rfl⟩,vD,fun b hb=>(hf b hb).1⟩⟩
 done:=by
  intro X hP hw hK hc i U s Z H E I hf st hg;subst hP hw hK;obtain⟨f0,f1,f2,f3,f4,f5⟩:=hf it (by simp);have e:i=z.cps.size:=hg;subst e;exact(W X.A (I.ok.hd hc)).done s _ _ st fun h' tk kk=>⟨rfl,I.turned (fun b o hb e=>kk b o (by simpa using hb) e) f0 f1 f3 f4 f5⟩
 self:=self
theorem jZ.upd {D:Addr}{xs:List V}{o:HO}(hD:H D=none)(h:jZ K H a xs):jZ K (upd H D o) a xs:=by
 rcases h with(h|⟨ob,h⟩)|h
 ·exact .inl (.inl (by rw[ay (aY h hD)];exact h))
 ·exact .inl (.inr ⟨ob,by rw[ay (aY h hD)];exact h⟩)
 ·exact .inr h
theorem gR.upd {D:Addr}{xs:List V}{o:HO}(hD:H D=none)(h:gR K H a xs):gR K (upd H D o) a xs:=by
 rcases h with(h|⟨ob,h⟩)|h
 ·exact .inl (.inl (by rw[ay (aY h hD)];exact h))
 ·exact .inl (.inr ⟨ob,by rw[ay (aY h hD)];exact h⟩)
 ·exact .inr h
section
theorem PQ:uL X (compareOp .Is) (fun x y H Q=>∃c d,x=.bl c/\y=.bl d/\Q (.bl (c==d)) H):=by
 intro U s Z H x y v u Q I rx ry h;obtain⟨c,d,rfl,rfl,q⟩:=h;cases rx;cases ry;exact is_bool (vF I q rfl)
theorem LL:uL X (binaryOp .Mult) (fun x y H Q=>∃z n,x=.str z/\y=.int n/\MulOk z n/\Q (.str (Txt.mul z n)) H):=by
 intro U s Z H x y v u Q I rx ry h;obtain⟨z,n,rfl,rfl,cj,q⟩:=h;obtain⟨t,rfl⟩:=rx;obtain⟨t',rfl⟩:=ry;exact SB.mul cj fun t' k=>⟨.str _,H,I.tok _,⟨_,rfl⟩,q⟩
theorem Ik(hc:X.calm=true):fj X (.builtin "all") (fun xs H Q=>∃(p:Addr) (bs:List Bool),xs=[.ref p]/\jZ X.K H p (bs.map V.bl)/\Q (.bl (bs.all id)) H):=by
 intro U s Z H xs us Q I r h;obtain⟨p,bs,rfl,hl,q⟩:=h;obtain⟨u,rfl,ru⟩:=vals1 r;cases(show u=Value.ref p from ru);obtain⟨bz,rv,pl,hz⟩:=I.list hl;have hb:bz=bs.map Value.bool:=by
  clear hz pl hl q I
  induction bs generalizing bz with
  |nil=>cases rv;rfl
  |cons b r ih=>
   cases rv with
   |cons r1 r2=>
    rw[aO,<-ih _ (by exact r2)];cases(show _=Value.bool b from r1)
    rfl
 subst hb;have fR:p<s.heap.objs.size:=by obtain⟨o,n,e,_⟩:=pl;exact aF e
 refine call_all_walk (k_ pl.isList ?_);refine⟨s.heap.objs.size,[s.heap.objs.size,p],[s.heap.objs.size],(bs.map Value.bool).toArray.size,_,_,fun i=>(bs[i]?).getD true,rfl,Walks.list (A:=X.A.in1) (I.ok.hd hc) _ p (bc fR) _,
  ⟨⟨_,bE _ rfl,rfl,rfl⟩,pl.isList.push _⟩,fun i v s' Q' E' hP hQ=>?_,fun h' tk hk=>?_⟩
 ·have Ub:(bs.map Value.bool)[i]?=some v:=by simpa using hP
  rw[bg]at Ub;cases eb:bs[i]? with
  |none=>rw[eb]at Ub;cases Ub
  |some b=>
   rw[eb]at Ub;cases Ub;simp only[eb,q_]at hQ;exact nv hQ
 ·have e:((List.range (bs.map Value.bool).toArray.size).all fun i=>(bs[i]?).getD true)=bs.all id:=by
   rw[b_,aC];exact LSm.range_all bs
  rw[e];exact⟨.bl _,H,I.kept (LSm.kept_iter hk),rfl,q⟩
end
theorem au.tup {H':Hp}{xs:List V}(e:au H H')(h:gR K H a xs):gR K H' a xs:=by
 rcases h with(h|⟨o,h⟩)|h
 ·exact .inl (.inl (e _ _ h))
 ·exact .inl (.inr ⟨o,e _ _ h⟩)
 ·exact .inr h
theorem au.upd {D:Addr}{o:HO}(hD:H D=none):au H (upd H D o):=fun b u e=>by rw[ay (aY e hD)];exact e
theorem au.AS {H':Hp}{D:Addr}{o:HO}(s:au H H')(hD:H D=none):au H (L2.upd H' D o):=fun b u e=>by rw[ay (aY e hD)];exact s b u e
structure ye(K:Frag)(mg:Str->Option Value)(x:Str)(st:Stmt)(ps:List Str)(f:Addr)(fd:FuncData):Prop where
 fn:xw K x x st f fd
 bd:Binds K fd ps []
 mg:mg x=some (.ref f)
theorem PR{st:Stmt}{f:Addr}{fd:FuncData}{k:Nat}{sp:Sp}{t:TA}(D:ye X.K X.mg x st ps f fd)(G:c_ X.prog X.w X.K X.mg X.base kN k f fd ps sp)(hr:cp k X.A)
  (ha:PA X (e::es) t) (hg:Gl X x:=by rfl) (dZ:Db x:=by decide) (he:starEach (e::es) X.env=(false,eval e X.env)::starEach es X.env:=by rfl)
  (mL:(backTo pos (starEach es X.env)).any (·.1)=false:=by rfl):PE X (.Call (.Name x p) (e::es) [] pos) (NS sp [] E0 t):=by
 have q:=D_ (p:=p) (pos:=pos) G hr hg D.mg D.fn.kp D.bd .nil Ih ha (dZ:=dZ) (he:=he) (mL:=mL);exact q
section
def YI:V->Option Int->Option Int->Hp->VK->Prop:=fun x lo hi H Q=>∃z,x=.str z/\z.length<=sizeLine/\Q (.str (Txt.slice z lo hi)) H
theorem PU:SD X YI:=by
 intro U s Z H x v vl vu lo hi sl Q I rx hs pl pu h;obtain⟨z,rfl,hz,q⟩:=h;obtain⟨t,rfl⟩:=rx;refine⟨"str",_,F.slot_str_getitem.lookup,typeIs_str _ _ _,?_⟩;have go:∀(l u:Option (Int×Tok)),s.heap.IsSlice sl l u none->lo=l.map (·.1)->hi=u.map (·.1)->wpAny (model X.prog X.w) X.A (getItem (.str z t) (.ref sl)) (EP X U Z Q) X.xe s:=fun l u hh e1 e2=>by
  subst e1 e2;exact wpAny_getItem_str_slice hh rfl (post_val_or_str ⟨bJ (Txt.slice_le z _ _) hz,fun t' k=>⟨.str _,H,I.tok _,⟨_,rfl⟩,q⟩⟩)
 cases pl with
 |none=>
  cases pu with
  |none=>exact go none none hs rfl rfl
  |int j tj=>exact go none (some (j,tj)) hs rfl rfl
 |int i ti=>
  cases pu with
  |none=>exact go (some (i,ti)) none hs rfl rfl
  |int j tj=>exact go (some (i,ti)) (some (j,tj)) hs rfl rfl
end
section
theorem AU:∀{cs:List String} {us:List Value},Vals (cs.map V.ty) us->us=cs.map Value.type
 |[],_,.nil=>rfl
 |c::cs,_,.cons r t=>by
  rw[AU t];cases(show _=Value.type c from r)
  rfl
theorem sZ{h:Heap}{p:Addr}{bz:Array Value}(ht:h.IsTuple p bz):∃dd n sl,h.get? p=some ⟨.type "tuple",dd,.seq bz n,sl⟩:=by
 obtain⟨⟨cls,dd,data,sl⟩,h1,h2,n,h3⟩:=ht;dsimp only at h2 h3;subst h2 h3;exact⟨dd,n,sl,h1⟩
theorem F6:fj X (.builtin "isinstance") (fun xs H Q=>∃(x:V) (p:Addr) (cs:List String) (t:Value) (b:Bool),xs=[x,.ref p]/\NX x=true/\gR X.K H p (cs.map V.ty)/\rP X.K H x t/\PySem.W.kitAny X.K t (cs.map Value.type)=some b/\Q (.bl b) H):=by
 intro U s Z H xs us Q I r h;obtain⟨x,p,cs,t,b,rfl,fx,hp,ty,e,q⟩:=h;obtain⟨u,v,rfl,ru,rv⟩:=vals2 r;cases(show v=Value.ref p from rv);obtain⟨bz,r1,p1,_⟩:=I.tuple hp;obtain⟨dd,n,sl,hg⟩:=sZ p1;cases AU r1;have fin:∀tk,EP X U Z Q (.bool b) {s with toks:=tk}:=fun tk=>⟨.bl b,H,I.tok _,rfl,q⟩;cases ty with
 |bK=>
  cases(show u=Value.none from ru);exact rg PySem.W.kitx_none I.kn .intro hg e (by simp) fin
 |bl y=>
  cases(show u=Value.bool y from ru);exact rg PySem.W.kitx_bool I.kn .intro hg e (by simp) fin
 |int i=>
  obtain⟨t,rfl⟩:=(show∃t,u=Value.int i t from ru);exact rg PySem.W.kitx_int I.kn .intro hg e (by simp) fin
 |str y=>
  obtain⟨t,rfl⟩:=(show∃t,u=Value.str y t from ru);exact rg PySem.W.kitx_str I.kn .intro hg e (by simp) fin
 |_=>exact absurd (show false=true from fx) d9
end
def AV(K:Frag)(w:World)(a:Addr)(kvs:List (Str×Value)):Prop:=
 (a==sysModules)=false/\∃o es ep,K.lookup a=some o/\o.ExactDict/\o.data=.dict es ep/\∀prog,KeysOf (PySem.strKind prog w) es/\Pairs (PySem.strKind prog w) es.toList kvs/\(kvs.map (·.1)).Nodup
section
theorem AV.of {kvs:List (Str×Value)}(D:AV X.K X.w a kvs)(I:Inv X U Z H s):s.heap.DictOf (PySem.strKind X.prog X.w) a kvs:=by
 obtain⟨_,o,es,ep,h1,h2,h3,h4⟩:=D;obtain⟨k1,k2,k3⟩:=h4 X.prog;exact⟨o,es,ep,I.kn _ _ h1,h2,h3,k1,k2,k3⟩
theorem Il{i:Expr}{to ti:TE}(ho:PE X o to)(hi:PE X i ti)(hs:LB i):
  PE X (.Subscript o i pos) (O1 (fun x y H Q=>∃(a:Addr) (z:Str) (kvs:List (Str×Value)) (u:Value) (v:V),x=.ref a/\y=.str z/\AV X.K X.w a kvs/\valueAt kvs z=some u/\RelV v u/\Q v H) to ti):=by
 intro U s Z H Q I h;refine LC PySem.F.slot_dict_getitem.lookup hs (dc (ho U s Z H _ I h) fun u s1 ⟨x,H1,I1,rx,q1⟩=>dc (hi U s1 Z H1 _ I1 q1) fun iv s2 ⟨y,H2,I2,ry,q2⟩=>?_);obtain⟨a,z,kvs,u',v,rfl,rfl,D,hv,rv,q⟩:=q2;cases(show u=Value.ref a from rx);obtain⟨t,rfl⟩:=ry;have dd:=D.of I2;refine⟨?_,wpAny_getItem_of (knd:=PySem.strKind X.prog X.w) (k:=z) (by simp[PySem.strKind,Value.isStrOf]) dd.mapOf hv ⟨v,H2,I2.tok _,rv,q⟩⟩;obtain⟨ob,es,ep,h1,h2,_⟩:=dd;exact⟨ob,h1,h2.1⟩
end
inductive Tr where
 |bK|bl (b:Bool)|int (i:Int)|str (z:Str)|ty (n:String)
 |mY (ns:List Int)|tup (ts:List Tr)|lst (ts:List Tr)|bo (aG:List (Key×Tr))|at(i:Nat)
 |ue (aG:List (List Key×Tr))|ob (x:Str) (fs:List (Str×Tr))|yf (x:Str)
variable {ts:List Tr}
def bV:Nat:=1000000
def clsAt(K:Frag)(x:Str):Addr:=match PySem.W.nsIn K mainGlobals x with
 |some (some (.ref C))=>C
 |_=>0
structure Vw where
 H:Hp
 ix:Addr->Option Nat
instance:Coe Vw Hp:=⟨Vw.H⟩
instance:CoeFun Vw (fun _=>Addr->Option HO):=⟨Vw.H⟩
structure dv(W W':Vw):Prop where
 h:au W.H W'.H
 x:∀a i,W.ix a=some i->W'.ix a=some i
theorem dv.refl (W:Vw):dv W W:=⟨au.refl _,fun _ _ e=>e⟩
theorem dv.trans {W W1 W2:Vw}(a:dv W W1)(b:dv W1 W2):dv W W2:=⟨a.h.trans b.h,fun c i e=>b.x c i (a.x c i e)⟩
mutual
inductive Rep(K:Frag)(H:Vw):V->Tr->Prop where
 |bK:Rep K H .bK .bK
 |bl (b:Bool):Rep K H (.bl b) (.bl b)
 |int (i:Int):Rep K H (.int i) (.int i)
 |str (z:Str) (h:z.length<=bV):Rep K H (.str z) (.str z)
 |ty (n:String):Rep K H (.ty n) (.ty n)
 |mY {a:Addr} {ns:List Int} (h:jZ K H.H a (ns.map V.int)):Rep K H (.ref a) (.mY ns)
 |tup {a:Addr} {vs:List V} {ts:List Tr} (h:gR K H.H a vs) (r:aV K H vs ts):Rep K H (.ref a) (.tup ts)
 |lst {a:Addr} {vs:List V} {ts:List Tr} (h:H.H a=some (.lst vs)) (r:aV K H vs ts):Rep K H (.ref a) (.lst ts)
 |bo {a:Addr} {kvs:List (Key×V)} {aG:List (Key×Tr)} (h:Rd H.H a (.dK kvs)) (e:kvs.map (·.1)=aG.map (·.1)) (r:aV K H (kvs.map (·.2)) (aG.map (·.2))):Rep K H (.ref a) (.bo aG)
 |at{a:Addr} {i:Nat} (h:H.ix a=some i):Rep K H (.ref a) (.at i)
 |ue {a:Addr} {kvs:List (List Key×V)} {aG:List (List Key×Tr)} (h:H.H a=some (.dT kvs)) (e:kvs.map (·.1)=aG.map (·.1)) (r:aV K H (kvs.map (·.2)) (aG.map (·.2))):Rep K H (.ref a) (.ue aG)
 |ob {a dx:Addr} {x:Str} {fW:List (Str×V)} {fs:List (Str×Tr)} (h:H.H a=some (.ins (clsAt K x) dx fW)) (e:fW.map (·.1)=fs.map (·.1)) (r:aV K H (fW.map (·.2)) (fs.map (·.2))):Rep K H (.ref a) (.ob x fs)
 |yf {a:Addr} {oe:Obj} {x:Str} (h:H.H a=some (.ext fun h=>h.get? a=some oe)) (c:oe.cls=.ref (clsAt K x)):Rep K H (.ref a) (.yf x)
inductive aV(K:Frag)(H:Vw):List V->List Tr->Prop where
 |nil:aV K H [] []
 |cons {v:V} {t:Tr} {vs:List V} {ts:List Tr} (h:Rep K H v t) (r:aV K H vs ts):aV K H (v::vs) (t::ts)
end
section
theorem Rd.same {H H':Hp}{u:HO}(s:au H H')(h:Rd H a u):Rd H' a u:=by
 rcases h with h|⟨o,h⟩
 ·exact .inl (s _ _ h)
 ·exact .inr ⟨o,s _ _ h⟩
variable {H H':Vw}
theorem Rep.same (s:dv H H'){v:V}{t:Tr}(h:Rep K H v t):Rep K H' v t:=by
 refine Rep.rec (motive_1:=fun v t _=>Rep K H' v t) (motive_2:=fun vs ts _=>aV K H' vs ts) ?_ ?_ ?_ ?_ ?_ ?_ ?_ ?_ ?_ ?_ ?_ ?_ ?_ ?_ ?_ h
 ·exact .bK
 ·exact fun b=>.bl b
 ·exact fun i=>.int i
 ·exact fun z h=>.str z h
 ·exact fun n=>.ty n
 ·exact fun h=>.mY (s.h.seq h)
 ·exact fun h _ r=>.tup (s.h.tup h) r
 ·exact fun h _ r=>.lst (s.h _ _ h) r
 ·exact fun h e _ r=>.bo (Rd.same s.h h) e r
 ·exact fun h=>.at (s.x _ _ h)
 ·exact fun h e _ r=>.ue (s.h _ _ h) e r
 ·exact fun h e _ r=>.ob (s.h _ _ h) e r
 ·exact fun h c=>.yf (s.h _ _ h) c
 ·exact .nil
 ·exact fun _ _ h r=>.cons h r
theorem aV.same (s:dv H H'):∀{vs:List V} {ts:List Tr},aV K H vs ts->aV K H' vs ts
 |[],_,h=>by cases h;exact .nil
 |_::_,_,h=>by cases h with|cons h r=>exact .cons (h.same s) (aV.same s r)
theorem aV.length:∀{vs:List V} {ts:List Tr},aV K H vs ts->vs.length=ts.length
 |[],_,h=>by cases h;rfl
 |_::_,_,h=>by cases h with|cons h r=>rw[cG,cG,aV.length r]
theorem aV.get:∀{vs:List V} {ts:List Tr} {i:Nat} {t:Tr},aV K H vs ts->ts[i]?=some t->∃v,vs[i]?=some v/\Rep K H v t
 |[],_,i,t,h,e=>by cases h;simp at e
 |_::_,_,0,t,h,e=>by cases h with|cons h r=>simp at e;subst e;exact⟨_,rfl,h⟩
 |_::_,_,i+1,t,h,e=>by
  cases h with
  |cons h r=>
   obtain⟨v,e1,r1⟩:=aV.get (i:=i) (t:=t) r (by simpa using e);exact⟨v,by simpa using e1,r1⟩
theorem aV.vU:∀{vs:List V} {ts:List Tr} {i:Nat} {v:V},aV K H vs ts->vs[i]?=some v->∃t,ts[i]?=some t/\Rep K H v t
 |[],_,i,t,h,e=>by simp at e
 |_::_,_,0,t,h,e=>by cases h with|cons h r=>simp at e;subst e;exact⟨_,rfl,h⟩
 |_::_,_,i+1,t,h,e=>by
  cases h with
  |cons h r=>
   obtain⟨v,e1,r1⟩:=aV.vU (i:=i) r (by simpa using e);exact⟨v,by simpa using e1,r1⟩
theorem aV.append:∀{vs ws:List V} {ts us:List Tr},aV K H vs ts->aV K H ws us->aV K H (vs++ws) (ts++us)
 |[],_,_,_,h,q=>by cases h;exact q
 |_::_,_,_,_,h,q=>by cases h with|cons h r=>exact .cons h (aV.append r q)
theorem aV.take:∀{vs:List V} {ts:List Tr} (n:Nat),aV K H vs ts->aV K H (vs.take n) (ts.take n)
 |_,_,0,_=>by rw[List.take_zero,List.take_zero];exact .nil
 |[],_,_+1,h=>by cases h;exact .nil
 |_::_,_,n+1,h=>by cases h with|cons h r=>exact .cons h (aV.take n r)
theorem aV.drop:∀{vs:List V} {ts:List Tr} (n:Nat),aV K H vs ts->aV K H (vs.drop n) (ts.drop n)
 |_,_,0,h=>h
 |[],_,_+1,h=>by cases h;exact .nil
 |_::_,_,n+1,h=>by cases h with|cons h r=>exact aV.drop n r
theorem aV.rep {vs:List V}(h:aV K H vs ts):∀n:Nat,aV K H (List.replicate n vs).flatten (List.replicate n ts).flatten
 |0=>.nil
 |n+1=>by
  rw[lZ,lZ,kT,kT];exact h.append (aV.rep h n)
theorem yg:∀{zs:List Str},(∀z∈zs,z.length<=bV)->aV K H (zs.map V.str) (zs.map Tr.str)
 |[],_=>.nil
 |z::zs,h=>.cons (.str z (h z (bR ..))) (yg fun y hy=>h y (bI _ hy))
end
structure dG where
 hd:Addr->Bool
 ix:Addr->Option Nat
variable {B:dG}
instance:CoeFun dG (fun _=>Addr->Bool):=⟨dG.hd⟩
def bq(B:dG)(H:Hp):Vw:=⟨fun b=>if B.hd b=true then none else H b,B.ix⟩
def HB(B:dG)(H:Hp):Prop:=∀b,B.hd b=true->∃o,H b=some o
section
variable {B':dG}{H':Hp}
theorem fm{b:Addr}(h:B.hd b=false):(bq B H).H b=H b:=by show(if B.hd b=true then none else H b)=_;rw[h,ak d9]
theorem aT:au (bq B H).H H:=fun b o (e:(if B.hd b=true then none else H b)=some o)=>by
 split at e
 ·cases e
 ·exact e
theorem aR(s:au H H'):dv (bq B H) (bq B H'):=⟨fun b o (e:(if B.hd b=true then none else H b)=some o)=>by
 show(if B.hd b=true then none else H' b)=some o;split at e
 ·cases e
 ·rw[ak (by assumption)];exact s b o e,fun _ _ e=>e⟩
def raw(B:dG)(H:Hp):Vw:=⟨H,B.ix⟩
theorem dU:dv (bq B H) (raw B H):=⟨aT,fun _ _ e=>e⟩
theorem HB.same (h:HB B H)(s:au H H'):HB B H':=fun b e=>by obtain⟨o,q⟩:=h b e;exact⟨o,s b o q⟩
theorem HB.free {p:Addr}(h:HB B H)(hp:H p=none):B.hd p=false:=by
 cases e:B.hd p with
 |false=>rfl
 |true=>obtain⟨o,q⟩:=h p e;rw[hp]at q;cases q
theorem HB.new {p:Addr}{o:HO}(h:HB B H)(hp:H p=none):(bq B (upd H p o)).H p=some o:=by rw[fm (h.free hp)];exact aU
structure uf(B B':dG):Prop where
 hd:∀b,B.hd b=true->B'.hd b=true
 ix:∀b i,B'.ix b=some i->B.ix b=some i
theorem vV(h:uf B B'):dv (bq B' H) (bq B H):=⟨fun b o (e:(if B'.hd b=true then none else H b)=some o)=>by
 show(if B.hd b=true then none else H b)=some o;split at e
 ·cases e
 ·rename_i n;rw[ak fun z=>n (h.hd b z)];exact e,h.ix⟩
end
inductive Rs(α:Type) where
 |bad|ok (a:α)|exc (c:Tr)
variable {h:List Tr->Rs Tr}
def Rs.bind {α β:Type}(r:Rs α)(f:α->Rs β):Rs β:=match r with
 |.ok a=>f a
 |.exc c=>.exc c
 |.bad=>.bad
def XA(X:Cx)(c:Tr)(H:Hp):Prop:=False
def o5(xc:Tr->Prop){α:Type}(r:Rs α)(k:α->Prop):Prop:=match r with
 |.ok a=>k a
 |.exc c=>xc c
 |.bad=>False
def xP(X:Cx)(H:Hp):Tr->Prop:=fun c=>∀H',au H H'->XA X c H'
def Fi(X:Cx)(H:Hp){α:Type}(r:Rs α)(k:α->Prop):Prop:=o5 (xP X H) r k
section
variable {H':Hp}{α β:Type}{r:Rs α}{k k':α->Prop}{xc SG:Tr->Prop}
theorem o5.mono (h:o5 xc r k)(w:∀a,k a->k' a):o5 xc r k':=by
 cases r with
 |ok a=>exact w a h
 |_=>exact h
theorem o5.imp (h:o5 xc r k)(w:∀c,xc c->SG c):o5 SG r k:=by
 cases r with
 |ok a=>exact h
 |exc c=>exact w c h
 |bad=>exact h
theorem o5.bind {f:α->Rs β}{k:β->Prop}(h:o5 xc (r.bind f) k):o5 xc r fun a=>o5 xc (f a) k:=by
 cases r with
 |_=>exact h
theorem Fi.mono (h:Fi X H r k)(w:∀a,k a->k' a):Fi X H r k':=o5.mono h w
theorem Fi.same (h:Fi X H r k)(s:au H H'):Fi X H' r k:=o5.imp h fun _ q H2 s2=>q H2 (s.trans s2)
theorem Fi.bind {f:α->Rs β}{k:β->Prop}(h:Fi X H (r.bind f) k):Fi X H r fun a=>Fi X H (f a) k:=o5.bind h
end
inductive Cell where
 |no|sh (t:Tr)|ow (ts:List Tr)
abbrev aQ:=List Cell
variable {F G:aQ->Rs Tr}{L:aQ->Rs (List Tr)}
structure bL(K:Frag)(B:dG)(H:Hp)(Z:St)(Y:aQ):Prop where
 len:Y.length=Z.length
 sh:∀(i:Nat) (t:Tr),Y[i]?=some (.sh t)->∃v,Z[i]?=some (some v)/\Rep K (bq B H) v t
 ow:∀(i:Nat) (ts:List Tr),Y[i]?=some (.ow ts)->∃D ys,Z[i]?=some (some (.ref D))/\B D=true/\H D=some (.lst ys)/\aV K (bq B H) ys ts
 ap:∀(i j:Nat) (ts us:List Tr) (D:Addr),i≠j->Y[i]?=some (.ow ts)->Y[j]?=some (.ow us)->Z[i]?=some (some (.ref D))->Z[j]? ≠some (some (.ref D))
section
variable {B':dG}{H':Hp}{Y:aQ}
theorem bL.same (h:bL K B H Z Y)(s:au H H'):bL K B H' Z Y:=
 ⟨h.len,fun i t e=>by obtain⟨v,e1,r⟩:=h.sh i t e;exact⟨v,e1,r.same (aR s)⟩,
   fun i ts e=>by obtain⟨D,ys,e1,e2,e3,r⟩:=h.ow i ts e;exact⟨D,ys,e1,e2,s _ _ e3,r.same (aR s)⟩,h.ap⟩
theorem d6{α:Type}{l:List α}{j:Nat}{x y:α}(e:(l.set i x)[j]?=some y):(i=j/\i<l.length/\y=x)\/(i≠j/\l[j]?=some y):=by
 rw[kW]at e;by_cases zd:i=j
 ·rw[ag zd]at e;by_cases hl:i<l.length
  ·rw[ag hl]at e;exact .inl ⟨zd,hl,(Option.some.inj e).symm⟩
  ·rw[ak hl]at e;cases e
 ·rw[ak zd]at e;exact .inr ⟨zd,e⟩
theorem bL.set {v:V}{t:Tr}(h:bL K B H Z Y)(i:Nat)(r:Rep K (bq B H) v t):bL K B H (Z.set i (some v)) (Y.set i (.sh t)):=by
 refine⟨by rw[ju,ju];exact h.len,fun j u e=>?_,fun j us e=>?_,fun j k us ws D hjk e1 e2 e3=>?_⟩
 ·rcases d6 e with⟨rfl,hl,q⟩|⟨zd,q⟩
  ·cases q;exact⟨v,by rw[kW,ag rfl,ag (by rw[<-h.len];exact hl)],r⟩
  ·obtain⟨w,e1,r1⟩:=h.sh j u q;exact⟨w,by rw[kW,ak zd];exact e1,r1⟩
 ·rcases d6 e with⟨rfl,hl,q⟩|⟨zd,q⟩
  ·cases q
  ·obtain⟨D,ys,e1,r1⟩:=h.ow j us q;exact⟨D,ys,by rw[kW,ak zd];exact e1,r1⟩
 ·rcases d6 e1 with⟨rfl,hl,q⟩|⟨zd,q⟩
  ·cases q
  ·rcases d6 e2 with⟨rfl,hl,q2⟩|⟨Uc,q2⟩
   ·cases q2
   ·rw[kW,ak zd]at e3;rw[kW,ak Uc];exact h.ap j k us ws D hjk q q2 e3
end
def startT(n:Nat)(ts:List Tr):aQ:=ts.map Cell.sh++List.replicate (n - ts.length) .no
theorem o6{n:Nat}{c:Cell}(e:(startT n ts)[i]?=some c):c=.no\/∃t,ts[i]?=some t/\c=.sh t:=by
 unfold startT at e;by_cases hi:i<ts.length
 ·rw[m7 (by rw[aC];exact hi),bg]at e;cases q:ts[i]? with
  |none=>rw[q]at e;cases e
  |some u=>rw[q]at e;exact .inr ⟨u,rfl,(Option.some.inj e).symm⟩
 ·rw[u3 (by rw[aC];omega),qK]at e;split at e
  ·exact .inl (Option.some.inj e).symm
  ·cases e
theorem bL.start {N:List Str}{vs:List V}(h:aV K (bq B H) vs ts):bL K B H (start N vs) (startT N.length ts):=by
 have hl:=h.length;refine⟨by unfold L2.start startT;simp only[cD,aC,vc];omega,fun i t e=>?_,fun i us e=>?_,fun i j us ws D _ e _ _=>?_⟩
 ·rcases o6 e with q|⟨u,q,q2⟩
  ·cases q
  ·cases q2;obtain⟨v,e1,r⟩:=h.get q;have hi:i<vs.length:=(eR.mp e1).1;refine⟨v,?_,r⟩;unfold L2.start;rw[m7 (by rw[aC];exact hi),bg,e1]
   rfl
 ·rcases o6 e with q|⟨u,q,q2⟩
  ·cases q
  ·cases q2
 ·rcases o6 e with q|⟨u,q,q2⟩
  ·cases q
  ·cases q2
def isStar:Expr->Bool
 |.Starred .. =>true
 |_=>false
theorem aS(es:List Expr)(env:Env)(h:isStar e=false):starEach (e::es) env=(false,eval e env)::starEach es env:=by
 cases e<;>first|rfl|cases h
def aH(es:List Expr):Bool:=es.all fun e=>!isStar e
theorem bZ{env:Env}:∀{es:List Expr},aH es=true->(backTo pos (starEach es env)).any (·.1)=false
 |[],_=>by rw[starEach];rfl
 |e::es,h=>by
  unfold aH at h;rw[gn,bf]at h;have h1:isStar e=false:=by simpa using h.1
  rw[aS es env h1];exact bZ (es:=es) h.2
theorem ir{env:Env}:∀{es:List Expr},aH es=true->(backTo pos (starEach es env)).all (fun x=>!x.1)=true
 |[],_=>by rw[starEach];rfl
 |e::es,h=>by
  unfold aH at h;rw[gn,bf]at h;have h1:isStar e=false:=by simpa using h.1
  rw[aS es env h1];exact ir (es:=es) h.2
theorem az{es:List Expr}(h:aH (e::es)=true):isStar e=false/\aH es=true:=by
 unfold aH at h;rw[gn,bf]at h;exact⟨by simpa using h.1,h.2⟩
def qa:Expr->Bool
 |.ListComp .. =>true
 |.SetComp .. =>true
 |.DictComp .. =>true
 |_=>false
theorem vW{t:Option Expr}{n:Nat}{env:Env}(h:qa e=false):swapsWith e t n env=pure false:=by
 cases e<;>first|rfl|cases h
def lC:Expr->Bool
 |.UnaryOp .. =>false
 |.BoolOp .. =>false
 |.IfExp .. =>false
 |.Compare .. =>false
 |_=>true
theorem vX{env:Env}(h:lC e=true):∀whole,isTrue e env whole=(do let v<-whole;standAt e.pos;holding [v] (truthy v)):=by
 intro whole;cases e<;>first|rfl|cases h
def isSet:Expr->Bool
 |.Set .. =>true
 |_=>false
theorem fX{env:Env}(h:isSet e=false):∀x,foldedSetIterable e env x=pure x:=by
 intro x;cases e<;>first|rfl|cases h
def isCall:Expr->Bool
 |.Call .. =>true
 |_=>false
theorem e_{env:Env}{w:Sem Value}(h:isCall o=false):attributeBase o x env w=w:=by
 cases o<;>first|rfl|cases h
inductive tP(X:Cx)(F:aQ->Rs Tr)(Z:St)(H:Hp)(Q:VK):Prop
 |mk (B:dG) (Y:aQ):HB B H->bL X.K B H Z Y->(Fi X H (F Y) fun t=>∀v H',au H H'->Rep X.K (bq B H') v t->Q v H')->tP X F Z H Q
inductive tQ(X:Cx)(F:aQ->Rs Bool)(Z:St)(H:Hp)(Q:Bool->Hp->Prop):Prop
 |mk (B:dG) (Y:aQ):HB B H->bL X.K B H Z Y->(Fi X H (F Y) fun b=>∀H',au H H'->Q b H')->tQ X F Z H Q
inductive AW(X:Cx)(F:aQ->Rs (List Tr))(Z:St)(H:Hp)(Q:List V->Hp->Prop):Prop
 |mk (B:dG) (Y:aQ):HB B H->bL X.K B H Z Y->(Fi X H (F Y) fun ts=>∀vs H',au H H'->aV X.K (bq B H') vs ts->Q vs H')->AW X F Z H Q
inductive Out where
 |nx (Y:aQ)|ret (t:Tr)|bk (Y:aQ)|ct (Y:aQ)
structure c9(C B0:dG)(H0:Hp)(B:dG)(H:Hp):Prop where
 kp:∀b o,C b=true->H0 b=some o->H b=some o
 jk:dv (bq B0 H0) (bq B H)
 sub:uf C B
 hb:HB B H
section
variable {C B0 B1 B2:dG}{H0 H' H1 H2:Hp}
theorem c9.go (h:c9 C B0 H0 B H)(s:au H H'):c9 C B0 H0 B H':=⟨fun b o c e=>s _ _ (h.kp b o c e),h.jk.trans (aR s),h.sub,h.hb.same s⟩
theorem uf.refl:uf B B:=⟨fun _ e=>e,fun _ _ e=>e⟩
theorem c9.refl (h:HB B H)(c:uf C B):c9 C B H B H:=⟨fun _ _ _ e=>e,dv.refl _,c,h⟩
theorem c9.trans (h:c9 C B0 H0 B1 H1)(q:c9 C B1 H1 B2 H2):c9 C B0 H0 B2 H2:=⟨fun b o c e=>q.kp b o c (h.kp b o c e),h.jk.trans q.jk,q.sub,q.hb⟩
theorem c9.same (h:c9 C C H0 B H):au H0 H:=fun b o e=>by
 cases q:C b with
 |true=>exact h.kp b o q e
 |false=>exact aT _ _ (h.jk.h b o (by rw[fm q];exact e))
end
def CV(X:Cx)(D:Ends)(C B0:dG)(H0:Hp):Out->Prop
 |.nx Y=>∀cI B' H',c9 C B0 H0 B' H'->bL X.K B' H' cI Y->D.nx cI H'
 |.ret t=>∀v B' H',c9 C B0 H0 B' H'->Rep X.K (bq C H') v t->D.rt v H'
 |.bk Y=>∀cI B' H',c9 C B0 H0 B' H'->bL X.K B' H' cI Y->D.bk cI H'
 |.ct Y=>∀cI B' H',c9 C B0 H0 B' H'->bL X.K B' H' cI Y->D.ct cI H'
def xS(X:Cx)(C B0:dG)(H0:Hp):Tr->Prop:=fun c=>∀B' H',c9 C B0 H0 B' H'->XA X c H'
inductive tS(X:Cx)(G:aQ->Rs Out)(D:Ends)(Z:St)(H:Hp):Prop
 |mk (C:dG) (B0:dG) (H0:Hp) (B:dG) (Y:aQ):c9 C B0 H0 B H->bL X.K B H Z Y->o5 (xS X C B0 H0) (G Y) (CV X D C B0 H0)->tS X G D Z H
theorem PE.weak {t t':TE}(h:PE X e t)(w:∀Z H Q,t' Z H Q->t Z H Q):PE X e t':=fun U s Z H Q I q=>h U s Z H Q I (w Z H Q q)
theorem PT.weak {t t':TT}(h:PT X e t)(w:∀Z H Q,t' Z H Q->t Z H Q):PT X e t':=fun U s Z H Q I q=>h U s Z H Q I (w Z H Q q)
theorem PW.weak {t t':TT}(h:PW X e t)(w:∀Z H Q,t' Z H Q->t Z H Q):PW X e t':=fun wh U s Z H Q I q=>h wh U s Z H Q I (w Z H Q q)
theorem PA.weak {t t':TA}(h:PA X es t)(w:∀Z H Q,t' Z H Q->t Z H Q):PA X es t':=fun pos U s Z H Q I q=>h pos U s Z H Q I (w Z H Q q)
theorem PS.weak {st:Stmt}{t t':TS}(h:PS X st t)(w:∀D Z H,t' D Z H->t D Z H):PS X st t':=fun U s Z H D I q=>h U s Z H D I (w D Z H q)
theorem m6.weak {st:List Stmt}{t t':TS}(h:m6 X st t)(w:∀D Z H,t' D Z H->t D Z H):m6 X st t':=fun U s Z H D I q=>h U s Z H D I (w D Z H q)
def cq(Y:aQ)(i:Nat):Rs Tr:=match Y[i]? with
 |some (.sh t)=>.ok t
 |_=>.bad
theorem Im{Y:aQ}{k:Tr->Prop}(r:bL X.K B H Z Y)(h:Fi X H (cq Y i) k):∃v t,Z[i]?=some (some v)/\Rep X.K (bq B H) v t/\k t:=by
 unfold cq at h;split at h
 ·rename_i t e;obtain⟨v,e1,r1⟩:=r.sh i t e;exact⟨v,t,e1,r1,h⟩
 ·exact h.elim
section
variable {a b c:Expr}{E:aQ->Rs Tr}
theorem Ud(i:Nat)(hN:X.N[i]?=some x:=by rfl) (hv:Xe X.env.scope x:=by first|exact Or.inl rfl|exact Or.inr (Or.inl rfl)|exact Or.inr (Or.inr rfl)) (hd:Db x:=by decide)
  (Cy:(x==("__classdict__":Str))=false:=by decide):PE X (.Name x pos) (tP X fun Y=>cq Y i):=
 (OT hN hv hd Cy).weak fun Z H Q ⟨B,Y,hb,r,q⟩=>by
  obtain⟨v,t,e,r1,k⟩:=Im r q;exact⟨v,e,k v H (au.refl H) r1⟩
theorem AX{v:V}{t:Tr}(h:PE X e (tC v))(r:∀H,Rep X.K H v t):PE X e (tP X fun _=>.ok t):=
 h.weak fun Z H Q ⟨B,Y,_,_,q⟩=>q v H (au.refl H) (r _)
theorem Ue{i:Int}{j pos}:PE X (.Constant (.int i) j pos) (tP X fun _=>.ok (.int i)):=AX OU fun H=>.int i
theorem YJ{b:Bool}{j pos}:PE X (.Constant (.bool b) j pos) (tP X fun _=>.ok (.bl b)):=AX To fun H=>.bl b
theorem Ug{j pos}:PE X (.Constant .none j pos) (tP X fun _=>.ok .bK):=AX OV fun H=>.bK
theorem Uh{z:Str}{j pos}(hz:z.length<=bV:=by decide):PE X (.Constant (.str z) j pos) (tP X fun _=>.ok (.str z)):=AX OW fun H=>.str z hz
def Ui(K:Frag)(mg:Str->Option Value)(x:Str)(t:Tr):Prop:=∃v u,mg x=some u/\RelV v u/\∀H,Rep K H v t
theorem YK{n:String}(hm:X.mg x=none)(hv:bootBuiltins x=some (.type n):=by rfl) (hg:Gl X x:=by rfl) (hn:x≠"__name__":=by decide) (hd:Db x:=by decide):PE X (.Name x pos) (tP X fun _=>.ok (.ty n)):=
 AX (D5 (v:=.ty n) hg hm hv rfl hn hd) fun H=>.ty n
def j7(h:Tr->Tr->Rs Tr)(a b:Rs Tr):Rs Tr:=a.bind fun x=>b.bind fun y=>h x y
inductive rT(X:Cx)(h:Tr->Tr->Rs Tr)(x:V)(y:V)(H:Hp)(Q:VK):Prop
 |mk (B:dG) (tx:Tr) (ty:Tr):HB B H->Rep X.K (bq B H) x tx->Rep X.K (bq B H) y ty->(Fi X H (h tx ty) fun t=>∀v H',au H H'->Rep X.K (bq B H') v t->Q v H')->rT X h x y H Q
abbrev Ct(X:Cx)(f:Value->Value->Sem Value)(h:Tr->Tr->Rs Tr):Prop:=uL X f (rT X h)
theorem r8{h:Tr->Tr->Rs Tr}{Q:VK}(q:tP X (fun Y=>j7 h (F Y) (G Y)) Z H Q):O1 (rT X h) (tP X F) (tP X G) Z H Q:=by
 obtain⟨B,Y,hb,r,q⟩:=q;refine⟨B,Y,hb,r,q.bind.mono fun x qx v H1 s1 r1=>⟨B,Y,hb.same s1,r.same s1,(qx.bind.same s1).mono fun y qy u H2 s2 r2=>⟨B,x,y,(hb.same s1).same s2,r1.same (aR s2),r2,?_⟩⟩⟩;exact(qy.same (s1.trans s2)).mono fun t qt w H3 s3 r3=>qt w H3 ((s1.trans s2).trans s3) r3
theorem Uj{op:Operator}{h:Tr->Tr->Rs Tr}(ho:Ct X (binaryOp op) h)(ha:PE X a (tP X F))(hb:PE X b (tP X G)):PE X (.BinOp a op b pos) (tP X fun Y=>j7 h (F Y) (G Y)):=
 (Tz ho ha hb).weak fun _ _ _ q=>r8 q
theorem Uk{op:CmpOp}{h:Tr->Tr->Rs Tr}(ho:Ct X (compareOp op) h)(ha:PE X a (tP X F))(hb:PE X b (tP X G))(hm:behindInMarks op b=false:=by first|exact y8 _|rfl|with_unfolding_all rfl):PE X (.Compare a [op] [b] pos) (tP X fun Y=>j7 h (F Y) (G Y)):=
 (Ll ho ha hb hm).weak fun _ _ _ q=>r8 q
def SH(r:Rs Tr):Rs Bool:=r.bind fun t=>match t with
 |.bl b=>.ok b
 |_=>.bad
theorem Rep.vY {H:Vw}{v:V}{b:Bool}(h:Rep K H v (.bl b)):v=.bl b:=by cases h;rfl
theorem eM{W:Vw}{xs:List V}{t:Tr}(r:aV K W xs [t]):∃x,xs=[x]/\Rep K W x t:=by
 cases r with
 |cons a r=>cases r;exact⟨_,rfl,a⟩
theorem yh{W:Vw}{xs:List V}{t u:Tr}(r:aV K W xs [t,u]):∃x y,xs=[x,y]/\Rep K W x t/\Rep K W y u:=by
 cases r with
 |cons a r=>
  obtain⟨y,rfl,b⟩:=eM r;exact⟨_,_,rfl,a,b⟩
theorem Rep.En {H:Vw}{v:V}{ns:List Int}(h:Rep K H v (.mY ns)):∃a,v=.ref a/\jZ K H.H a (ns.map V.int):=by cases h;exact⟨_,rfl,by assumption⟩
theorem Rep.md {H:Vw}{v:V}{aG:List (Key×Tr)}(h:Rep K H v (.bo aG)):∃a kvs,v=.ref a/\Rd H.H a (.dK kvs)/\kvs.map (·.1)=aG.map (·.1)/\aV K H (kvs.map (·.2)) (aG.map (·.2)):=by cases h;exact⟨_,_,rfl,by assumption,by assumption,by assumption⟩
theorem Rep.me {H:Vw}{v:V}(h:Rep K H v (.at i)):∃a,v=.ref a/\H.ix a=some i:=by cases h;exact⟨_,rfl,by assumption⟩
theorem Rep.ze {H:Vw}{v:V}{fs:List (Str×Tr)}(h:Rep K H v (.ob x fs)):∃a dx fW,v=.ref a/\H.H a=some (.ins (clsAt K x) dx fW)/\fW.map (·.1)=fs.map (·.1)/\aV K H (fW.map (·.2)) (fs.map (·.2)):=by cases h;exact⟨_,_,_,rfl,by assumption,by assumption,by assumption⟩
theorem Rep.LM {H:Vw}{v:V}(h:Rep K H v .bK):v=.bK:=by cases h;rfl
theorem Rep.int_inv {H:Vw}{v:V}{i:Int}(h:Rep K H v (.int i)):v=.int i:=by cases h;rfl
theorem Rep.str_inv {H:Vw}{v:V}{z:Str}(h:Rep K H v (.str z)):v=.str z/\z.length<=bV:=by cases h;exact⟨rfl,by assumption⟩
theorem Rep.cY {H:Vw}{v:V}(h:Rep K H v (.tup ts)):∃a vs,v=.ref a/\gR K H.H a vs/\aV K H vs ts:=by cases h;exact⟨_,_,rfl,by assumption,by assumption⟩
theorem Rep.lst_inv {H:Vw}{v:V}(h:Rep K H v (.lst ts)):∃a vs,v=.ref a/\H.H a=some (.lst vs)/\aV K H vs ts:=by cases h;exact⟨_,_,rfl,by assumption,by assumption⟩
theorem hide{G:Prop}(k:∀P:Prop,(G->P)->P):G:=k G id
theorem LN{r:Rs Tr}{k:Bool->Prop}(h:Fi X H (SH r) k):Fi X H r fun t=>∃b,t=.bl b/\k b:=by
 refine h.bind.mono fun t q=>?_
 cases t with
 |bl b=>exact⟨b,rfl,q⟩
 |_=>exact q.elim
theorem Ul{op:CmpOp}{h:Tr->Tr->Rs Tr}(ho:Ct X (compareOp op) h)(ha:PE X a (tP X F))(hb:PE X b (tP X G))(hm:behindInMarks op b=false:=by first|exact y8 _|rfl|with_unfolding_all rfl):PT X (.Compare a [op] [b] pos) (tQ X fun Y=>SH (j7 h (F Y) (G Y))):=
 (Lm ho ha hb hm).weak fun Z H Q ⟨B,Y,hb,r,q⟩=>by
  refine r8 (Q:=fun x H'=>∃k,x=.bl k/\Q k H') ⟨B,Y,hb,r,(LN q).mono fun t qt v H' s' r'=>?_⟩;obtain⟨b,rfl,k⟩:=qt;exact⟨b,r'.vY,k H' s'⟩
def ky:Tr->Rs Bool
 |.bK=>.ok false
 |.bl b=>.ok b
 |.int i=>.ok (i !=0)
 |.str z=>.ok ((z.length:Int) !=0)
 |.tup ts=>.ok (!ts.isEmpty)
 |.lst ts=>.ok (!ts.isEmpty)
 |.bo aG=>.ok (!aG.isEmpty)
 |_=>.bad
theorem aV.isEmpty {H:Vw}{vs:List V}(h:aV K H vs ts):vs.isEmpty=ts.isEmpty:=by cases h<;>rfl
theorem j8:bV<=sizeLine:=by rw[cR];decide
theorem LO{H:Vw}{v:V}{t:Tr}{b:Bool}(r:Rep K H v t)(e:ky t=.ok b):Ln K v H b:=by
 cases r with
 |bK=>cases e;rfl
 |bl c=>cases e;rfl
 |int i=>cases e;rfl
 |str z h=>cases e;exact⟨bJ h j8,rfl⟩
 |ty n=>cases e
 |tup h r=>cases e;exact .inr (.inl ⟨_,h,by rw[r.isEmpty]⟩)
 |lst h r=>cases e;exact .inl ⟨_,.of h,by rw[r.isEmpty]⟩
 |mY h=>cases e
 |«at» h=>cases e
 |ue h e1 rr=>cases e
 |ob h e1 rr=>cases e
 |yf h c=>cases e
 |bo h e1 r=>
  cases e;refine .inr (.inr ⟨_,h,?_⟩);rename_i kvs aG;cases kvs<;>cases aG<;>first|rfl|cases e1
theorem vZ{H:Vw}{v:V}{t:Tr}{k:Bool->Prop}(r:Rep X.K H v t)(h:Fi X H (ky t) k):∃b,Ln X.K v H b/\k b:=by
 cases e:ky t with
 |ok b=>rw[e]at h;exact⟨b,LO r e,h⟩
 |exc c=>cases t<;>cases e
 |bad=>rw[e]at h;exact h.elim
theorem Um(ha:PE X a (tP X F))(he:lC a=true:=by rfl):PT X a (tQ X fun Y=>(F Y).bind ky):=
 (AF ha (vX he)).weak fun Z H Q ⟨B,Y,hb,r,q⟩=>⟨B,Y,hb,r,q.bind.mono fun t qt v H' s' r'=>by
  obtain⟨b,h1,h2⟩:=vZ (r'.same dU) (qt.same s');exact⟨b,h1,h2 H' s'⟩⟩
def uz(r:Rs Bool):Rs Bool:=r.bind fun b=>.ok (!b)
variable {A B:aQ->Rs Bool}{c7:List Expr}
theorem Uo(ha:PT X a (tQ X A)):PT X (.UnaryOp .Not a pos) (tQ X fun Y=>uz (A Y)):=
 (Hy ha).weak fun Z H Q ⟨B,Y,hb,r,q⟩=>⟨B,Y,hb,r,q.bind⟩
def Io(a b:Rs Bool):Rs Bool:=a.bind fun c=>if c then b else .ok false
def Xp(a b:Rs Bool):Rs Bool:=a.bind fun c=>if c then .ok true else b
theorem PV(ha:PT X a (tQ X A)):PW X (.BoolOp .And [a] pos) (tQ X A):=pw_and1 ha
theorem Up(ha:PT X a (tQ X A)):PW X (.BoolOp .Or [a] pos) (tQ X A):=pw_or1 ha
theorem w_and(ha:PT X a (tQ X A))(hb:PW X (.BoolOp .And (b::c7) pos) (tQ X B)):PW X (.BoolOp .And (a::b::c7) pos) (tQ X fun Y=>Io (A Y) (B Y)):=
 (pw_and ha hb).weak fun Z H Q ⟨Bb,Y,hb,r,q⟩=>⟨Bb,Y,hb,r,q.bind.mono fun c qc H1 s1=>by
  cases c with
  |true=>exact⟨Bb,Y,hb.same s1,r.same s1,(Fi.same qc s1).mono fun b qb H2 s2=>qb H2 (s1.trans s2)⟩
  |false=>exact qc H1 s1⟩
theorem w_or(ha:PT X a (tQ X A))(hb:PW X (.BoolOp .Or (b::c7) pos) (tQ X B)):PW X (.BoolOp .Or (a::b::c7) pos) (tQ X fun Y=>Xp (A Y) (B Y)):=
 (pw_or ha hb).weak fun Z H Q ⟨Bb,Y,hb,r,q⟩=>⟨Bb,Y,hb,r,q.bind.mono fun c qc H1 s1=>by
  cases c with
  |false=>exact⟨Bb,Y,hb.same s1,r.same s1,(Fi.same qc s1).mono fun b qb H2 s2=>qb H2 (s1.trans s2)⟩
  |true=>exact qc H1 s1⟩
theorem PX{op}(h:PW X (.BoolOp op es pos) (tQ X A)):PT X (.BoolOp op es pos) (tQ X A):=h.pt
def Uq(a b:Rs Tr):Rs Tr:=a.bind fun t=>(ky t).bind fun c=>if c then b else .ok t
theorem Ur(ha:PE X a (tP X F))(hb:PE X (.BoolOp .And (b::c7) pos) (tP X G)):PE X (.BoolOp .And (a::b::c7) pos) (tP X fun Y=>Uq (F Y) (G Y)):=by
 intro U s Z H Q I ⟨B,Y,hB,r,q⟩;refine BoolOp_and (dc (ha U s Z H _ I ⟨B,Y,hB,r,q.bind.mono fun t qt v H1 s1 r1=>(show∃t,Rep X.K (bq B H1) v t/\au H H1/\Fi X H ((ky t).bind fun c=>if c then G Y else .ok t) (fun t=>∀v H',au H H'->Rep X.K (bq B H') v t->Q v H')from⟨t,r1,s1,qt⟩)⟩) fun v s1 ⟨x,H1,I1,r1,t,rt,sm,qt⟩=>?_);obtain⟨c,h1,h2⟩:=vZ (rt.same dU) (qt.bind.same sm);refine dc (HK U s1 Z H1 x v (fun k H'=>k=c/\H'=H1) I1 r1 ⟨c,h1,rfl,rfl⟩) fun k s2 ⟨H2,I2,e1,e2⟩=>?_
 subst e1 e2;cases k with
 |true=>exact hb U s2 Z _ Q I2 ⟨B,Y,hB.same sm,r.same sm,(Fi.same h2 sm).mono fun t q v H' s' r'=>q v H' (sm.trans s') r'⟩
 |false=>exact⟨x,_,I2,r1,h2 x _ sm rt⟩
theorem Us{op}(h:PE X a (tP X F)):PE X (.BoolOp op [a] pos) (tP X F):=OX h
def PY(r:Rs Bool):Rs Tr:=r.bind fun b=>.ok (.bl b)
def Ip(c:Rs Bool)(a b:Rs Tr):Rs Tr:=c.bind fun k=>if k then a else b
theorem YL(hc:PT X c (tQ X A))(ha:PE X a (tP X F))(hb:PE X b (tP X G)):PE X (.IfExp c a b pos) (tP X fun Y=>Ip (A Y) (F Y) (G Y)):=
 (Hz hc ha hb).weak fun Z H Q ⟨B,Y,hb,r,q⟩=>⟨B,Y,hb,r,q.bind.mono fun k qk H1 s1=>by
  cases k with
  |true=>exact⟨B,Y,hb.same s1,r.same s1,(Fi.same qk s1).mono fun t q v H2 s2 r2=>q v H2 (s1.trans s2) r2⟩
  |false=>exact⟨B,Y,hb.same s1,r.same s1,(Fi.same qk s1).mono fun t q v H2 s2 r2=>q v H2 (s1.trans s2) r2⟩⟩
def bt(a:Rs Tr)(l:Rs (List Tr)):Rs (List Tr):=a.bind fun x=>l.bind fun xs=>.ok (x::xs)
theorem Eo:PA X [] (AW X fun _=>.ok []):=p8.weak fun Z H Q ⟨B,Y,hb,r,q⟩=>q [] H (au.refl H) .nil
theorem zf(ha:PE X a (tP X F))(hr:PA X es (AW X L))(hs:isStar a=false:=by rfl):PA X (a::es) (AW X fun Y=>bt (F Y) (L Y)):=
 (j6 ha hr (aS _ _ hs)).weak fun Z H Q ⟨B,Y,hb,r,q⟩=>⟨B,Y,hb,r,q.bind.mono fun x qx v H1 s1 r1=>⟨B,Y,hb.same s1,r.same s1,(qx.bind.same s1).mono fun xs qs vs H2 s2 r2=>qs _ H2 (s1.trans s2) (.cons (r1.same (aR s2)) r2)⟩⟩
def d7:Nat:=16777216
theorem iI:d7=sizeLine:=cR.symm
def pJ(l:Rs (List Tr)):Rs Tr:=l.bind fun ts=>if ts.length<=d7 then .ok (.tup ts)else .bad
def Iq(l:Rs (List Tr)):Rs Tr:=l.bind fun ts=>if ts.length<=d7 then .ok (.lst ts)else .bad
theorem Ut{x1}(h:PA X es (AW X L)):PE X (.Tuple es x1 pos) (tP X fun Y=>pJ (L Y)):=
 (Pa h).weak fun Z H Q ⟨B,Y,hb,r,q⟩=>⟨B,Y,hb,r,q.bind.mono fun ts qt vs H1 s1 r1=>by
  by_cases hz:ts.length<=d7
  ·rw[ag hz]at qt;refine⟨by rw[r1.length,<-iI];exact hz,fun p hp=>qt (.ref p) _ (s1.AS (s1.free hp)) (.tup (.of ((hb.same s1).new hp)) (r1.same (aR (au.upd hp))))⟩
  ·rw[ak hz]at qt;exact qt.elim⟩
theorem Uu(h:PA X es (AW X L)):PE X (.List es pos) (tP X fun Y=>Iq (L Y)):=
 (HR h).weak fun Z H Q ⟨B,Y,hb,r,q⟩=>⟨B,Y,hb,r,q.bind.mono fun ts qt vs H1 s1 r1=>by
  by_cases hz:ts.length<=d7
  ·rw[ag hz]at qt;refine⟨by rw[r1.length,<-iI];exact hz,fun p hp=>qt (.ref p) _ (s1.AS (s1.free hp)) (.lst ((hb.same s1).new hp) (r1.same (aR (au.upd hp))))⟩
  ·rw[ak hz]at qt;exact qt.elim⟩
def bP(h:List Tr->Rs Tr)(l:Rs (List Tr)):Rs Tr:=l.bind h
inductive rC(X:Cx)(h:List Tr->Rs Tr)(xs:List V)(H:Hp)(Q:VK):Prop
 |mk (B:dG) (ts:List Tr):HB B H->aV X.K (bq B H) xs ts->(Fi X H (h ts) fun t=>∀v H',au H H'->Rep X.K (bq B H') v t->Q v H')->rC X h xs H Q
abbrev j9(X:Cx)(f:Value)(h:List Tr->Rs Tr):Prop:=fj X f (rC X h)
theorem yi{Q:VK}(q:tP X (fun Y=>bP h (L Y)) Z H Q):Yn (rC X h) (AW X L) Z H Q:=by
 obtain⟨B,Y,hb,r,q⟩:=q;exact⟨B,Y,hb,r,q.bind.mono fun ts qt vs H1 s1 r1=>⟨B,ts,hb.same s1,r1,(qt.same s1).mono fun t qt v H2 s2 r2=>qt v H2 (s1.trans s2) r2⟩⟩
theorem LP{id:String}(hc:j9 X (.builtin id) h)(hm:X.mg x=none)(ha:PA X (e::es) (AW X L))(hv:bootBuiltins x=some (.builtin id):=by rfl) (hg:Gl X x:=by rfl) (hn:x≠"__name__":=by decide) (dZ:Db x:=by decide)
  (bH:aH (e::es)=true:=by rfl):PE X (.Call (.Name x p) (e::es) [] pos) (tP X fun Y=>bP h (L Y)):=
 (nP hc hg hm hv ha hn dZ (aS _ _ (az bH).1) (bZ (az bH).2)).weak fun _ _ _ q=>yi q
theorem Ir{T:String}(hc:j9 X (.type T) h)(hm:X.mg x=none)(ha:PA X (e::es) (AW X L))(hv:bootBuiltins x=some (.type T):=by rfl) (hg:Gl X x:=by rfl) (hn:x≠"__name__":=by decide) (dZ:Db x:=by decide)
  (bH:aH (e::es)=true:=by rfl):PE X (.Call (.Name x p) (e::es) [] pos) (tP X fun Y=>bP h (L Y)):=
 (sY hc hg hm hv ha hn dZ (aS _ _ (az bH).1) (bZ (az bH).2)).weak fun _ _ _ q=>yi q
inductive spT(K:Frag)(f:List Tr->Rs Tr)(vs:List V)(H:Hp)(Q:VK)(_w3:XK):Prop
 |mk (B:dG) (ts:List Tr):HB B H->aV K (bq B H) vs ts->(∃t,f ts=.ok t/\∀v H',au H H'->Rep K (bq B H') v t->Q v H')->spT K f vs H Q _w3
theorem Uv{st:Stmt}{f:Addr}{fd:FuncData}{k:Nat}(D:ye X.K X.mg x st ps f fd)(G:c_ X.prog X.w X.K X.mg X.base kN k f fd ps (spT X.K h))(hr:cp k X.A)
  (ha:PA X (e::es) (AW X L)) (hg:Gl X x:=by rfl) (dZ:Db x:=by decide) (bH:aH (e::es)=true:=by rfl):PE X (.Call (.Name x p) (e::es) [] pos) (tP X fun Y=>bP h (L Y)):=
 (PR D G hr ha hg dZ (aS _ _ (az bH).1) (bZ (az bH).2)).weak fun Z H Q ⟨B,Y,hb,r,q⟩=>⟨B,Y,hb,r,q.bind.mono fun ts qt vs H1 s1 r1=>by
  cases e:h ts with
  |ok t=>rw[e]at qt;exact⟨B,ts,hb.same s1,by rw[iU];exact r1,t,e,fun v H2 s2 r2=>qt v H2 (s1.trans s2) r2⟩
  |exc c=>rw[e]at qt;exact(qt _ (au.refl _)).elim
  |bad=>rw[e]at qt;exact qt.elim⟩
end
section
variable {a b c:Expr}{G G':aQ->Rs Out}{A:aQ->Rs Bool}{st:Stmt}{c7 Uw:List Stmt}
def pK(r:Rs Out)(G:aQ->Rs Out):Rs Out:=r.bind fun o=>match o with
 |.nx Y=>G Y
 |.ret t=>.ok (.ret t)
 |.bk Y=>.ok (.bk Y)
 |.ct Y=>.ok (.ct Y)
theorem Ux:m6 X [] (tS X fun Y=>.ok (.nx Y)):=D6.weak fun D Z H ⟨C,B0,H0,B,Y,si,r,q⟩=>q Z B H si r
theorem PZ(h1:PS X st (tS X G))(h2:m6 X c7 (tS X G')):m6 X (st::c7) (tS X fun Y=>pK (G Y) G'):=
 (AE h1 h2).weak fun D Z H ⟨C,B0,H0,B,Y,si,r,q⟩=>⟨C,B0,H0,B,Y,si,r,q.bind.mono fun o qo=>by
  cases o with
  |nx iG=>exact fun cI B' H' LQ r'=>⟨C,B0,H0,B',iG,LQ,r',qo⟩
  |ret t=>exact qo
  |bk iG=>exact qo
  |ct iG=>exact qo⟩
theorem Uy(h1:PS X st (tS X G)):m6 X [st] (tS X G):=D7 h1
def xG(i:Nat)(r:Rs Tr)(Y:aQ):Rs Out:=r.bind fun t=>.ok (.nx (Y.set i (.sh t)))
theorem o5.here {α:Type}{C B0:dG}{H0:Hp}{r:Rs α}{k:α->Prop}(h:o5 (xS X C B0 H0) r k)(si:c9 C B0 H0 B H):Fi X H r k:=h.imp fun _ q H' s'=>q B H' (si.go s')
theorem Iu{C B0:dG}{H0:Hp}{Y:aQ}{k:Tr->Prop}(si:c9 C B0 H0 B H)(r:bL X.K B H Z Y)(q:o5 (xS X C B0 H0) (F Y) k){Q:VK}(hq:∀t v H',k t->au H H'->c9 C B0 H0 B H'->bL X.K B H' Z Y->Rep X.K (bq B H') v t->Q v H'):tP X F Z H Q:=
 ⟨B,Y,si.hb,r,(q.here si).mono fun t qt v H' s' r'=>hq t v H' qt s' (si.go s') (r.same s') r'⟩
theorem Uz{C B0:dG}{H0:Hp}{Y:aQ}{k:Bool->Prop}(si:c9 C B0 H0 B H)(r:bL X.K B H Z Y)(q:o5 (xS X C B0 H0) (A Y) k){Q:Bool->Hp->Prop}(hq:∀b H',k b->au H H'->c9 C B0 H0 B H'->bL X.K B H' Z Y->Q b H'):tQ X A Z H Q:=
 ⟨B,Y,si.hb,r,(q.here si).mono fun b qb H' s'=>hq b H' qb s' (si.go s') (r.same s')⟩
theorem Rep.out {C B0:dG}{H0:Hp}{v:V}{t:Tr}(r:Rep K (bq B H) v t)(si:c9 C B0 H0 B H):Rep K (bq C H) v t:=r.same (vV si.sub)
theorem UA{pos':Pos}(he:PE X e (tP X F))(hN:X.N.Nodup:=by assumption) (hi:X.N[i]?=some x:=by rfl) (hx:Loc X.env.scope x:=by first|exact Or.inl rfl|exact Or.inr rfl) (hs:qa e=false:=by rfl) (hf:xu X x:=by first|exact .inl rfl|exact .inr rfl|assumption):
  PS X (.Assign [.Name x pos'] e pos) (tS X fun Y=>xG i (F Y) Y):=
 (HF hN hi hx he (vW hs) hf).weak fun D Z H ⟨C,B0,H0,B,Y,si,r,q⟩=>Iu si r q.bind fun t v H1 qt s1 LR r1 rv=>qt _ B H1 LR (r1.set i rv)
def qd(r:Rs Tr):Rs Out:=r.bind fun t=>.ok (.ret t)
theorem UB(he:PE X e (tP X F)):PS X (.Return (some e) pos) (tS X fun Y=>qd (F Y)):=
 (HD he).weak fun D Z H ⟨C,B0,H0,B,Y,si,r,q⟩=>Iu si r q.bind fun t v H1 qt s1 LR r1 rv=>qt v B H1 LR (rv.out LR)
def F7(c:Rs Bool)(a b:Rs Out):Rs Out:=c.bind fun k=>if k then a else b
theorem YM{ys ns:List Stmt}(hc:PT X c (tQ X A))(ha:m6 X ys (tS X G))(hb:m6 X ns (tS X G')):PS X (.If c ys ns pos) (tS X fun Y=>F7 (A Y) (G Y) (G' Y)):=
 (NP hc ha hb).weak fun D Z H ⟨C,B0,H0,B,Y,si,r,q⟩=>Uz si r q.bind fun k H1 qk s1 LR r1=>by
  cases k with
  |true=>exact PH ⟨C,B0,H0,B,Y,LR,r1,qk⟩
  |false=>exact PD ⟨C,B0,H0,B,Y,LR,r1,qk⟩
abbrev pP:=Tr->aQ->Rs aQ
inductive tG(X:Cx)(T:pP)(v:V)(Z:St)(H:Hp)(Q:St->Hp->Prop):Prop
 |mk (B:dG) (Y:aQ) (t:Tr):HB B H->bL X.K B H Z Y->Rep X.K (bq B H) v t->(Fi X H (T t Y) fun iG=>∀cI H',au H H'->bL X.K B H' cI iG->Q cI H')->tG X T v Z H Q
def gN(i:Nat):pP:=fun t Y=>.ok (Y.set i (.sh t))
theorem P0(i:Nat)(hN:X.N.Nodup:=by assumption) (hi:X.N[i]?=some x:=by rfl) (hx:Loc X.env.scope x:=by first|exact Or.inl rfl|exact Or.inr rfl) (hf:xu X x:=by first|exact .inl rfl|exact .inr rfl|assumption):PG X (.Name x pos) (tG X (gN i)):=by
 intro U s Z H v u Q I r ⟨B,Y,t,hb,rs,rt,q⟩;exact D8 hN hi hx hf U s Z H v u Q I r (q _ H (au.refl H) (rs.set i rt))
def CW:List Nat->List Tr->aQ->Rs aQ
 |[],[],Y=>.ok Y
 |i::is,t::ts,Y=>CW is ts (Y.set i (.sh t))
 |_,_,_=>.bad
inductive SI(X:Cx)(T:List Tr->aQ->Rs aQ)(vs:List V)(Z:St)(H:Hp)(Q:St->Hp->Prop):Prop
 |mk (B:dG) (Y:aQ) (ts:List Tr):HB B H->bL X.K B H Z Y->aV X.K (bq B H) vs ts->(Fi X H (T ts Y) fun iG=>∀cI H',au H H'->bL X.K B H' cI iG->Q cI H')->SI X T vs Z H Q
theorem UC:Lh X [] (SI X (CW [])):=by
 intro U s Z H vs us Q I r ⟨B,Y,ts,hb,rs,rt,q⟩
 match ts,rt,q with
 |[],.nil,q=>exact Li U s Z H [] us Q I r ⟨rfl,q Z H (au.refl H) rs⟩
 |_::_,_,q=>exact q.elim
theorem P4{is:List Nat}(h2:Lh X es (SI X (CW is)))(hN:X.N.Nodup:=by assumption) (hi:X.N[i]?=some x:=by rfl) (hx:Loc X.env.scope x:=by first|exact Or.inl rfl|exact Or.inr rfl) (hf:xu X x:=by first|exact .inl rfl|exact .inr rfl|assumption)
  (hs:(assignEach (.Name x pos::es) X.env).map (·.2)=assign (.Name x pos) X.env::(assignEach es X.env).map (·.2):=by rfl):Lh X (.Name x pos::es) (SI X (CW (i::is))):=by
 intro U s Z H vs us Q I r ⟨B,Y,ts,hb,rs,rt,q⟩
 match ts,rt,q with
 |[],_,q=>exact q.elim
 |t::ts,.cons r1 r2,q=>
  exact HE (D8 hN hi hx hf) h2 hs U s Z H _ us Q I r ⟨_,_,rfl,⟨B,_,ts,hb,rs.set i r1,r2,q⟩⟩
def gT(is:List Nat):pP:=fun t Y=>match t with
 |.tup ts=>CW is ts Y
 |_=>.bad
theorem Ep:∀{is:List Nat} {ts:List Tr} {Y iG:aQ},CW is ts Y=.ok iG->ts.length=is.length
 |[],[],_,_,_=>rfl
 |[],_::_,_,_,h=>by cases h
 |_::_,[],_,_,h=>by cases h
 |_::is,_::ts,_,_,h=>by rw[cG,cG,Ep (is:=is) (ts:=ts) h]
theorem yj:∀{is:List Nat} {ts:List Tr} {Y:aQ} {c:Tr},CW is ts Y≠ .exc c
 |[],[],_,_=>fun h=>by cases h
 |[],_::_,_,_=>fun h=>by cases h
 |_::_,[],_,_=>fun h=>by cases h
 |_::is,_::ts,_,_=>yj (is:=is) (ts:=ts)
theorem UD{k:Nat}{is:List Nat}(h:Lh X es (SI X (CW is)))(hc:X.calm=true:=by rfl) (hn:(assignEach es X.env).length=is.length:=by rfl) (bH:(assignEach es X.env).findIdx? (·.1)=none:=by rfl):PG X (.Tuple es k pos) (tG X (gT is)):=by
 intro U s Z H v u Q I r ⟨B,Y,t,hb,rs,rt,q⟩;cases rt with
 |tup hq rv=>
  refine OZ hc h hn bH U s Z H _ u Q I r ⟨_,_,rfl,(au.tup aT hq),?_,B,Y,_,hb,rs,rv,q⟩;have q':Fi X H (CW is _ Y) _:=q;cases e:CW is _ Y with
  |ok iG=>rw[rv.length];exact Ep e
  |exc c=>exact(yj e).elim
  |bad=>rw[e]at q';exact q'.elim
 |_=>exact q.elim
structure lD(K:Frag)(B:dG)(J:It)(H:Hp)(ts:List Tr):Prop where
 go:∀i B' H',i<ts.length->dv (bq B H) (bq B' H')->HB B' H'->J.go i H'
 FR:∀i B' H' x K3,i<ts.length->dv (bq B H) (bq B' H')->HB B' H'->J.FR i H' x K3->au H' K3/\∃t,ts[i]?=some t/\Rep K (bq B' K3) x t
 stop:∀B' H',dv (bq B H) (bq B' H')->J.stop ts.length H'
inductive tI(X:Cx)(W:aQ->Rs (List Tr))(Z:St)(H:Hp)(R:It->Hp->Prop):Prop
 |mk (B:dG) (Y:aQ):HB B H->bL X.K B H Z Y->(Fi X H (W Y) fun ts=>∀J H',au H H'->lD X.K B J H' ts->R J H')->tI X W Z H R
def xH(T:pP)(G:aQ->Rs Out):List Tr->aQ->Rs Out
 |[],Y=>.ok (.nx Y)
 |t::ts,Y=>(T t Y).bind fun qE=>(G qE).bind fun o=>match o with
  |.nx iH=>xH T G ts iH
  |.ct iH=>xH T G ts iH
  |.bk iH=>.ok (.nx iH)
  |.ret t=>.ok (.ret t)
def Er(T:pP)(G:aQ->Rs Out)(l:Rs (List Tr))(Y:aQ):Rs Out:=l.bind fun ts=>xH T G ts Y
def Iw(z:Str):List Tr:=z.cps.toList.map fun c=>Tr.str ⟨#[c]⟩
def xI(r:Rs Tr):Rs (List Tr):=r.bind fun t=>match t with
 |.tup ts=>.ok ts
 |.lst ts=>.ok ts
 |.str z=>.ok (Iw z)
 |_=>.bad
theorem CY{a:Addr}{vs:List V}(h:bq B H a=some (.lst vs))(r:aV K (bq B H) vs ts):lD K B (Itl K a) H ts where
 go:=fun i B' H' hi s hb=>by
  have hv:i<vs.length:=by rw[r.length];exact hi
  exact⟨vs,vs[i],jZ.of (aT _ _ (s.h _ _ h)),by simp[hv]⟩
 FR:=fun i B' H' x K3 hi s hb ⟨e,y⟩=>by
  subst e;have q:=y vs (jZ.of (aT _ _ (s.h _ _ h)));obtain⟨t,e1,r1⟩:=r.vU q;exact⟨au.refl _,t,e1,r1.same s⟩
 stop:=fun B' H' s=>⟨vs,jZ.of (aT _ _ (s.h _ _ h)),by rw[r.length];exact aN _⟩
theorem F8{a:Addr}{vs:List V}(h:gR K (bq B H) a vs)(r:aV K (bq B H) vs ts):lD K B (Itt K a) H ts where
 go:=fun i B' H' hi s hb=>by
  have hv:i<vs.length:=by rw[r.length];exact hi
  exact⟨vs,vs[i],au.tup aT (s.h.tup h),by simp[hv]⟩
 FR:=fun i B' H' x K3 hi s hb ⟨e,y⟩=>by
  subst e;have q:=y vs (au.tup aT (s.h.tup h));obtain⟨t,e1,r1⟩:=r.vU q;exact⟨au.refl _,t,e1,r1.same s⟩
 stop:=fun B' H' s=>⟨vs,au.tup aT (s.h.tup h),by rw[r.length];exact aN _⟩
theorem F9(z:Str):lD K B (Xo z) H (Iw z) where
 go:=fun i B' H' hi _ _=>by
  have h:i<z.cps.size:=by simpa[Iw]using hi
  exact h
 FR:=fun i B' H' x K3 hi s hb ⟨e,c,hc,hx⟩=>by
  subst e;subst hx;refine⟨au.refl _,.str ⟨#[c]⟩,?_,.str _ (by show 1<=bV;decide)⟩;unfold Iw;rw[bg,lX,hc]
  rfl
 stop:=fun B' H' s=>by simp[Iw,Xo]
theorem LS{H1:Hp}{s1:Shared}{R:It->Hp->Prop}{tg:Expr}{z:Str}{t:Tok}(I1:Inv X U Z H1 s1)(q:R (Xo z) H1):wpAny (model X.prog X.w) X.A (pyIter (.str z t)) (Tv X U Z tg R) X.xe s1:=by
 have fin:∀b∈[s1.heap.objs.size],jQ X U H1 b:=fun b hb=>by
  have e:b=s1.heap.objs.size:=by simpa using hb
  rw[e];exact I1.vC (aN _) (I1.cj.fresh (aN _))
 cases ha:z.cps.all (· <128)
 ·exact wpAny_pyIter_wide ha ⟨s1.heap.objs.size,[s1.heap.objs.size],_,_,H1,rfl,I1.kept (t':=s1.toks) fun b o e=>aX _ e,
   AR (n:="str_iterator") (t:=t) (by decide) (fun A' hA=>Walks.strWide hA _ z t) fun _ _ _ _ _ st hq=>wpAny_pyIter_striter_wide st hq,⟨_,bE _ rfl,rfl,rfl⟩,fin,q⟩
 ·exact wpAny_pyIter_ascii ha ⟨s1.heap.objs.size,[s1.heap.objs.size],_,_,H1,rfl,I1.kept (t':=s1.toks) fun b o e=>aX _ e,
   AR (n:="str_ascii_iterator") (t:=t) (by decide) (fun A' hA=>Walks.strAscii hA _ z t) fun _ _ _ _ _ st hq=>wpAny_pyIter_striter_ascii st hq,⟨_,bE _ rfl,rfl,rfl⟩,fin,q⟩
theorem UE{tg l:Expr}(hl:PE X l (tP X F)):PI X tg l (tI X fun Y=>xI (F Y)):=by
 intro U s Z H R I ⟨B,Y,hb,r,q⟩;have key:∀(v:Value) (s1:Shared) (x:V) (H1:Hp) (t:Tr),Inv X U Z H1 s1->RelV x v->au H H1->Rep X.K (bq B H1) x t->(∃ts,xI (.ok t)=.ok ts/\∀J H',au H H'->lD X.K B J H' ts->R J H')->wpAny (model X.prog X.w) X.A (pyIter v) (Tv X U Z tg R) X.xe s1:=by
  intro v s1 x H1 t I1 r1 sm rt ⟨ts,et,k⟩;cases rt with
  |@tup a vs us h rr=>
   cases et;cases r1;have hq:gR X.K H1 a vs:=au.tup aT h;obtain⟨bz,rv,p,hz⟩:=I1.tuple hq;refine wpAny_pyIter_tuple (show s1.heap.IsTuple a bz.toArray from p) ?_
   refine⟨s1.heap.objs.size,[s1.heap.objs.size],_,_,H1,rfl,I1.kept (t':=s1.toks) fun b o e=>aX _ e,CA a _,⟨_,bE _ rfl,rfl,rfl⟩,fun b hb=>?_,k _ H1 sm (F8 h rr)⟩;have e:b=s1.heap.objs.size:=by simpa using hb
   subst e;exact I1.vC (aN _) (I1.cj.fresh (aN _))
  |@lst a vs us h rr=>
   cases et;cases r1;have hq:jZ X.K H1 a vs:=jZ.of (aT _ _ h);obtain⟨bz,rv,p,hz⟩:=I1.list hq;refine k_ p.isList ?_
   refine⟨s1.heap.objs.size,[s1.heap.objs.size],_,_,H1,rfl,I1.kept (t':=s1.toks) fun b o e=>aX _ e,FT a _,⟨_,bE _ rfl,rfl,rfl⟩,fun b hb=>?_,k _ H1 sm (CY h rr)⟩;have e:b=s1.heap.objs.size:=by simpa using hb
   subst e;exact I1.vC (aN _) (I1.cj.fresh (aN _))
  |str z hz=>
   cases et;obtain⟨t,rfl⟩:=(show∃t,v=Value.str z t from r1);exact LS I1 (k _ H1 sm (F9 z))
  |_=>cases et
 refine dc (hl U s Z H (fun x H1=>∃t,au H H1/\Rep X.K (bq B H1) x t/\∃ts,xI (.ok t)=.ok ts/\∀J H',au H H'->lD X.K B J H' ts->R J H') I ⟨B,Y,hb,r,q.bind.mono fun t qt v H1 s1 r1=>⟨t,s1,r1,?_⟩⟩) fun v s1 ⟨x,H1,I1,r1,t,sm,rt,k⟩=>key v s1 x H1 t I1 r1 sm rt k;cases t with
 |tup ts=>exact⟨ts,rfl,qt⟩
 |lst ts=>exact⟨ts,rfl,qt⟩
 |str z=>exact⟨_,rfl,qt⟩
 |_=>exact qt.elim
def zg(lo:Int)(n:Nat):List Tr:=(List.range n).map fun k=>Tr.int (lo+(k:Nat))
theorem nX(lo:Int)(n:Nat):(zg lo n).length=n:=by simp[zg]
theorem AY(lo:Int)(n:Nat):lD K B (Xi lo n) H (zg lo n) where
 go:=fun i B' H' hi _ _=>by rw[nX]at hi;exact hi
 FR:=fun i B' H' x K3 hi s hb ⟨e,y⟩=>by
  subst e;subst y;rw[nX]at hi;refine⟨au.refl _,.int (lo+i),?_,.int _⟩;unfold zg;rw[bg,List.getElem?_range hi]
  rfl
 stop:=fun B' H' s=>by rw[nX];exact aN _
def Es(l:Rs (List Tr)):Rs (List Tr):=l.bind fun ts=>match ts with
 |[.int j]=>if-4611686018427387904<=j/\j<4611686018427387904 then .ok (zg 0 j.toNat)else .bad
 |_=>.bad
theorem PI.weak {tg b8:Expr}{t t':TI}(h:PI X tg b8 t)(w:∀Z H R,t' Z H R->t Z H R):PI X tg b8 t':=fun U s Z H R I q=>h U s Z H R I (w Z H R q)
variable {tg:Expr}
theorem Iy(hm:X.mg "range"=none)(ha:PA X [a] (AW X L))(hg:Gl X "range":=by rfl) (hs:aH [a]=true:=by rfl):PI X tg (.Call (.Name "range" p) [a] [] pos) (tI X fun Y=>Es (L Y)):=
 (FU hg hm ha (by rw[aS _ _ (az hs).1];rfl)).weak fun Z H R ⟨B,Y,hb,r,q⟩=>⟨B,Y,hb,r,q.bind.mono fun ts qt vs H1 s1 r1=>by
  split at qt
  ·rename_i j;cases r1 with
   |cons h1 r1=>
    cases h1;cases r1;split at qt
    ·rename_i hj;exact⟨j,rfl,by omega,by omega,qt _ H1 s1 (AY 0 _)⟩
    ·exact qt.elim
  ·exact qt.elim⟩
def LU{α:Type}(r:Rs α):Rs α:=match r with
 |.ok a=>.ok a
 |_=>.bad
def r9(ix:List (Option Nat))(Y:aQ):aQ:=ix.map fun o=>match o with
 |none=>.no
 |some j=>match Y[j]? with
  |some (.sh t)=>.sh t
  |_=>.no
theorem bL.comp {B':dG}{H':Hp}{Y:aQ}(ix:List (Option Nat))(h:bL K B H Z Y)(s:dv (bq B H) (bq B' H')):bL K B' H' (hV ix Z) (r9 ix Y):=by
 have no:∀(i:Nat) (c:Cell),(r9 ix Y)[i]?=some c->c=.no\/∃j t,ix[i]?=some (some j)/\Y[j]?=some (.sh t)/\c=.sh t:=fun i c e=>by
  unfold r9 at e;rw[bg]at e;cases q:ix[i]? with
  |none=>rw[q]at e;cases e
  |some o=>
   rw[q]at e;cases o with
   |none=>exact .inl (Option.some.inj e).symm
   |some j=>
    have e':(match Y[j]? with|some (Cell.sh t)=>Cell.sh t|_=>Cell.no)=c:=Option.some.inj e;split at e'
    ·rename_i t q2;exact .inr ⟨j,t,rfl,q2,e'.symm⟩
    ·exact .inl e'.symm
 refine⟨by unfold r9 hV;rw[aC,aC],fun i t e=>?_,fun i ts e=>?_,fun i j ts us D _ e=>?_⟩
 ·rcases no i _ e with q|⟨j,u,q1,q2,q3⟩
  ·cases q
  ·cases q3;obtain⟨v,e1,r1⟩:=h.sh j t q2;refine⟨v,?_,r1.same s⟩;unfold hV;rw[bg,q1];show some ((Z[j]?).join)=_;rw[e1]
   rfl
 ·rcases no i _ e with q|⟨j,u,q1,q2,q3⟩
  ·cases q
  ·cases q3
 ·rcases no i _ e with q|⟨j,u,q1,q2,q3⟩
  ·cases q
  ·cases q3
def C0(T:pP)(A:aQ->Rs Bool)(F:aQ->Rs Tr):List Tr->aQ->Rs (List Tr)
 |[],_=>.ok []
 |t::ts,Y=>(LU (T t Y)).bind fun qE=>(LU (A qE)).bind fun k=>if k then(LU (F qE)).bind fun y=>(C0 T A F ts qE).bind fun ys=>.ok (y::ys)else C0 T A F ts qE
def qF(ix:List (Option Nat))(T:pP)(A:aQ->Rs Bool)(F:aQ->Rs Tr)(l:Rs (List Tr))(Y:aQ):Rs Tr:=l.bind fun ts=>if ts.length<=d7 then(C0 T A F ts (r9 ix Y)).bind fun ys=>.ok (.lst ys)else .bad
def lE(B:dG)(D:Addr):dG:=⟨fun b=>B.hd b||b==D,B.ix⟩
theorem jA{D:Addr}{o:HO}(hD:H D=none):dv (bq B H) (bq (lE B D) (upd H D o)):=⟨fun b u e=>by
 have e1:=aT b u e;have fT:b≠D:=aY e1 hD;have hB:B.hd b=false:=by
  cases q:B.hd b with
  |false=>rfl
  |true=>
   have e2:(if B.hd b=true then none else H b)=some u:=e;rw[q,ag rfl]at e2;cases e2
 rw[fm (show(B.hd b||b==D)=false by rw[hB,iW fT];rfl),ay fT];exact e1,fun _ _ e=>e⟩
theorem Et{D:Addr}{o:HO}(h:HB B H)(hD:H D=none):HB (lE B D) (upd H D o):=fun b e=>by
 by_cases q:b=D
 ·subst q;exact⟨o,aU⟩
 ·have e':(B.hd b||b==D)=true:=e;rw[iW q,rj]at e';rw[ay q];exact h b e'
theorem yk{D:Addr}:(lE B D).hd D=true:=by show(B.hd D||D==D)=true;rw[bA,Bool.or_true]
theorem r_{D:Addr}{o:HO}:bq (lE B D) (upd H D o)=bq (lE B D) H:=by
 unfold bq;congr 1;funext b;by_cases q:b=D
 ·subst q;rw[ag yk,ag yk]
 ·rw[ay q]
theorem Eu{D:Addr}:uf B (lE B D):=⟨fun b e=>by show(B.hd b||b==D)=true;rw[e,Bool.true_or],fun _ _ e=>e⟩
theorem AZ{D:Addr}:dv (bq (lE B D) H) (bq B H):=vV Eu
def fb(Y:aQ):Prop:=∀(i:Nat) (ts:List Tr),Y[i]? ≠some (.ow ts)
def iZ(T:pP):Prop:=∀t Y iG,fb Y->T t Y=.ok iG->fb iG
theorem fb.set {Y:aQ}(h:fb Y)(i:Nat)(t:Tr):fb (Y.set i (.sh t)):=fun j ts e=>by
 rcases d6 e with⟨_,_,q⟩|⟨_,q⟩
 ·cases q
 ·exact h j ts q
theorem fo(i:Nat):iZ (gN i):=fun t Y iG h e=>by cases e;exact h.set i t
theorem Ew:∀{is:List Nat} {ts:List Tr} {Y iG:aQ},fb Y->CW is ts Y=.ok iG->fb iG
 |[],[],_,_,h,e=>by cases e;exact h
 |[],_::_,_,_,_,e=>by cases e
 |_::_,[],_,_,_,e=>by cases e
 |i::is,t::ts,_,_,h,e=>Ew (is:=is) (ts:=ts) (h.set i t) e
theorem Iz(is:List Nat):iZ (gT is):=fun t Y iG h e=>by
 cases t with
 |tup ts=>exact Ew h e
 |_=>cases e
theorem uN(ix:List (Option Nat))(Y:aQ):fb (r9 ix Y):=fun i ts e=>by
 unfold r9 at e;rw[bg]at e;cases q:ix[i]? with
 |none=>rw[q]at e;cases e
 |some o=>
  rw[q]at e;cases o with
  |none=>cases e
  |some j=>
   have e':(match Y[j]? with|some (Cell.sh t)=>Cell.sh t|_=>Cell.no)=.ow ts:=Option.some.inj e;split at e'<;>cases e'
theorem C1{α:Type}{xc:Tr->Prop}{r:Rs α}{k:α->Prop}(h:o5 xc (LU r) k):∃a,r=.ok a/\k a:=by
 cases r with
 |ok a=>exact⟨a,rfl,h⟩
 |_=>exact h.elim
inductive N2(K:Frag)(F:aQ->Rs Tr)(Z:St)(H:Hp)(Q:VK):Prop
 |mk (B:dG) (Y:aQ):HB B H->bL K B H Z Y->(∃t,F Y=.ok t/\∀v H',au H H'->Rep K (bq B H') v t->Q v H')->N2 K F Z H Q
inductive N3(K:Frag)(F:aQ->Rs Bool)(Z:St)(H:Hp)(Q:Bool->Hp->Prop):Prop
 |mk (B:dG) (Y:aQ):HB B H->bL K B H Z Y->(∃b,F Y=.ok b/\∀H',au H H'->Q b H')->N3 K F Z H Q
inductive N4(K:Frag)(T:pP)(v:V)(Z:St)(H:Hp)(Q:St->Hp->Prop):Prop
 |mk (B:dG) (Y:aQ) (t:Tr):HB B H->bL K B H Z Y->Rep K (bq B H) v t->(∃iG,T t Y=.ok iG/\∀cI H',au H H'->bL K B H' cI iG->Q cI H')->N4 K T v Z H Q
theorem P5{Q:VK}:N2 X.K F Z H Q->tP X F Z H Q:=fun⟨B,Y,hb,r,t,e,q⟩=>⟨B,Y,hb,r,by rw[e];exact q⟩
theorem P6{F:aQ->Rs Bool}{Q:Bool->Hp->Prop}:N3 X.K F Z H Q->tQ X F Z H Q:=fun⟨B,Y,hb,r,t,e,q⟩=>⟨B,Y,hb,r,by rw[e];exact q⟩
theorem P7{T:pP}{v:V}{Q:St->Hp->Prop}:N4 X.K T v Z H Q->tG X T v Z H Q:=fun⟨B,Y,t,hb,r,rt,iG,e,q⟩=>⟨B,Y,t,hb,r,rt,by rw[e];exact q⟩
theorem uO{J:It}{D:Addr}{Xl:St}{Xq:aQ}{T:pP}{Q:Hp->Prop}(hT:iZ T)(h0:fb Xq)(hb:HB B H)(gt:lD K B J H ts)(hz:ts.length<=d7)(r:bL K (lE B D) (upd H D (.lst [])) Xl Xq)(hD:H D=none)
  {xc:Tr->Prop} {k:List Tr->Prop} (q:o5 xc (C0 T A F ts Xq) k) (hQ:∀ys H',k ys->au H H'->Rep K (bq B H') (.ref D) (.lst ys)->Q H'):YE J D Xl (upd H D (.lst [])) (N4 K T) (N3 K A) (N2 K F) Q:=by
 refine⟨fun i m Z H'=>m=ts.length - i/\i<=ts.length/\au H H'/\HB (lE B D) H'/\dv (bq B H) (bq (lE B D) H')/\∃Y vs us,fb Y/\bL K (lE B D) H' Z Y/\H' D=some (.lst vs)/\vs.length<=i/\aV K (bq (lE B D) H') vs us/\o5 xc (C0 T A F (ts.drop i) Y) (fun ys=>k (us++ys)),
  ⟨_,rfl,dh _,au.upd hD,Et hb hD,jA hD,Xq,[],[],h0,r,aU,aN _,.nil,q⟩,?_⟩
 rintro i m Z H' ⟨rfl,hi,sm,Hk,jk,Y,vs,us,no,rs,hd,hl,rv,q'⟩
 by_cases fR:i<ts.length
 ·rw[qH fR]at q';refine .inr ⟨gt.go i _ H' fR jk Hk,fun xB H2=>au H H2/\HB (lE B D) H2/\dv (bq B H) (bq (lE B D) H2)/\∃Y vs us,fb Y/\bL K (lE B D) H2 xB Y/\H2 D=some (.lst vs)/\vs.length<=i+1/\aV K (bq (lE B D) H2) vs us/\o5 xc (C0 T A F (ts.drop (i+1)) Y) (fun ys=>k (us++ys)),
   fun xB H2 h=>⟨ts.length - (i+1),by omega,rfl,fR,h⟩,fun x H2 hx=>?_⟩
  obtain⟨s2,t,et,rt⟩:=gt.FR i _ H' x H2 fR jk Hk hx;have UG:ts[i]=t:=by rw[bb fR]at et;exact Option.some.inj et
  rw[UG]at q';obtain⟨qE,eT,q1⟩:=C1 (o5.bind q');have YN:=hT t Y qE no eT;refine⟨_,Y,t,Hk.same s2,rs.same s2,rt,qE,eT,fun NR H3 s3 r3=>?_⟩;have s23:=s2.trans s3;obtain⟨c,eA,qc⟩:=C1 (o5.bind q1);refine⟨_,qE,Hk.same s23,r3,c,eA,fun H4 s4=>?_⟩;have P8:=s23.trans s4;have g4:au H H4:=sm.trans P8;cases c with
  |false=>
   exact PD ⟨g4,Hk.same P8,jk.trans (aR P8),qE,vs,us,YN,r3.same s4,P8 _ _ hd,by omega,rv.same (aR P8),qc⟩
  |true=>
   obtain⟨y,eF,qy⟩:=C1 (o5.bind qc);refine PH ⟨_,qE,Hk.same P8,r3.same s4,y,eF,fun v H5 s5 r5=>?_⟩;have UH:=P8.trans s5;refine⟨vs,UH _ _ hd,by rw[<-iI];omega,(sm.trans UH).AS hD,?_,?_,qE,vs++[v],us++[y],YN,?_,aU,by rw[cD];exact Nat.add_le_add_right hl 1,?_,?_⟩
   ·intro b e;by_cases q:b=D
    ·subst q;exact⟨_,aU⟩
    ·rw[ay q];exact(Hk.same UH) b e
   ·rw[r_];exact jk.trans (aR UH)
   ·have YO:=(r3.same s4).same s5;refine⟨YO.len,fun i t e=>?_,fun i ts e=>(YN i ts e).elim,YO.ap⟩;rw[r_];exact YO.sh i t e
   ·rw[r_];exact(rv.same (aR UH)).append (.cons r5 .nil)
   ·exact(o5.bind qy).mono fun ys q=>by rw[vi];exact q
 ·have e:i=ts.length:=by omega
  subst e;rw[ra]at q';refine .inl ⟨gt.stop _ H' jk,hQ us H' (by have:=(show k (us++[])from q');rw[iU]at this;exact this) sm (.lst ?_ (rv.same AZ))⟩;rw[fm (hb.free hD)];exact hd
variable {scope:Scope}{N':List Str}{ix:List (Option Nat)}{elt b8:Expr}{ifs:List Expr}{T:pP}{W:aQ->Rs (List Tr)}
theorem UI:PF X [] (tQ X fun _=>.ok true):=fun U s Z H Q I ⟨B,Y,hb,r,q⟩=>PL U s Z H Q I (q H (au.refl H))
theorem UJ(h:PT X c (tQ X A)):PF X [c] (tQ X A):=PM h
theorem A5{Q:VK}(hT:iZ T)(q:tP X (fun Y=>qF ix T A F (W Y) Y) Z H Q):SF (tI X W) ix (N4 X.K T) (N3 X.K A) (N2 X.K F) Z H Q:=by
 obtain⟨B,Y,hb,r,q⟩:=q;refine⟨B,Y,hb,r,q.bind.mono fun ts qt J H1 s1 gt D hD=>?_⟩;by_cases hz:ts.length<=d7
 ·rw[ag hz]at qt;exact uO hT (uN ix Y) (hb.same s1) gt hz ((r.same s1).comp ix (jA hD)) hD (Fi.bind qt) fun ys H' k s' rp=>k _ H' (s1.trans s') rp
 ·rw[ak hz]at qt;exact qt.elim
structure LV(X:Cx)(scope:Scope)(N':List Str)(tg elt:Expr)(ifs:List Expr)(T:pP)(A:aQ->Rs Bool)(F:aQ->Rs Tr):Prop where
 all:∀s H ex,PG (r6 X scope N' s H ex) tg (tG (r6 X scope N' s H ex) T)/\PF (r6 X scope N' s H ex) ifs (tQ (r6 X scope N' s H ex) A)/\PE (r6 X scope N' s H ex) elt (tP (r6 X scope N' s H ex) F)
theorem LV.SJ {F:aQ->Rs Tr}(h:LV X scope N' tg elt ifs T A F):∀s H ex,PG (r6 X scope N' s H ex) tg (N4 X.K T)/\PF (r6 X scope N' s H ex) ifs (N3 X.K A)/\PE (r6 X scope N' s H ex) elt (N2 X.K F):=fun s H ex=>by
 obtain⟨h1,h2,h3⟩:=h.all s H ex;exact⟨fun U s Z H v u Q I r q=>h1 U s Z H v u Q I r (P7 q),fun U s Z H Q I q=>h2 U s Z H Q I (P6 q),fun U s Z H Q I q=>h3 U s Z H Q I (P5 q)⟩
theorem YQ(Lk:fS X N' ix scope)(hi:PI X tg b8 (tI X W))(kO:LV X scope N' tg elt ifs T A F)(hT:iZ T)(hc:X.calm=true:=by rfl) (hs:isSet b8=false:=by rfl):
  PE X (.ListComp elt [⟨tg,b8,ifs,0⟩] scope pos) (tP X fun Y=>qF ix T A F (W Y) Y):=
 (Ij Lk hc hi kO.SJ (fX hs)).weak fun Z H Q q=>A5 hT q
theorem LW{px lB:Pos}(Lk:fS X N' ix scope)(hit:PI X tg b8 (tI X W))(kO:LV X scope N' tg elt ifs T A F)(hT:iZ T)(hN:X.N.Nodup:=by assumption) (hc:X.calm=true:=by rfl) (hi:X.N[i]?=some x:=by rfl) (hx:Loc X.env.scope x:=by first|exact Or.inl rfl|exact Or.inr rfl)
  (F5:swapsWith (.ListComp elt [⟨tg,b8,ifs,0⟩] scope pos) (some (.Name x px)) lB.line X.env=pure true:=by rfl) (hs:isSet b8=false:=by rfl) (hf:xu X x:=by first|exact .inl rfl|exact .inr rfl|assumption):
  PS X (.Assign [.Name x px] (.ListComp elt [⟨tg,b8,ifs,0⟩] scope pos) lB) (tS X fun Y=>xG i (qF ix T A F (W Y) Y) Y):=
 (vS Lk hc hN hi hx hit kO.SJ F5 (fX hs) hf).weak fun D Z H ⟨C,B0,H0,B,Y,si,r,q⟩=>A5 hT (Iu (F:=fun Y=>qF ix T A F (W Y) Y) si r q.bind fun t v H1 qt s1 LR r1 rv=>qt _ B H1 LR (r1.set i rv))
def dn(r:Rs Out):Rs Tr:=r.bind fun o=>match o with
 |.nx _=>.ok .bK
 |.ret t=>.ok t
 |_=>.bad
theorem xw.okT {base:Heap}{qual:Str}{f:Addr}{fd:FuncData}{N:List Str}{k:Nat}(Fn:xw K x qual st f fd)(S:fL N ps (aP st))(len:∀ts t,h ts=.ok t->ts.length=ps.length)
  (jz:∀(eI:Value) (A:Around) (outer:List Env) (s:Shared) (H:Hp) (E:XK),cp k (A.deeper (envOfC qual (aP st) s.heap.objs.size f eI))->
   ∃G,m6 (mX kN P w K mg base N qual (aP st) f eI A outer s H E).Hj (eB st) (tS (mX kN P w K mg base N qual (aP st) f eI A outer s H E).Hj G)/\∀ts t,h ts=.ok t->dn (G (startT N.length ts))=.ok t):c_ P w K mg base kN (k+1) f fd ps (spT K h):=by
 refine Fn.ok S (fun vs H Q E q=>?_) (fun eI A outer s H vs Q E hr q=>?_)
 ·obtain⟨B,ts,hb,r,t,e,_⟩:=q;rw[r.length];exact len ts t e
 ·obtain⟨B,ts,hb,r,t,e,q⟩:=q;obtain⟨G,hG,hE⟩:=jz eI A outer s H E hr;refine⟨_,hG,B,B,H,B,startT N.length ts,c9.refl hb uf.refl,bL.start r,?_⟩;have e1:=hE ts t e;cases eo:G (startT N.length ts)with
  |ok o=>
   rw[eo]at e1;cases o with
   |nx Y=>cases e1;exact fun cI B' H' si r'=>q .bK H' si.same .bK
   |ret u=>cases e1;exact fun v B' H' si r'=>q v H' si.same r'
   |_=>cases e1
  |_=>rw[eo]at e1;cases e1
end
section
theorem LX:uL X (binaryOp .Add) (fun x y H Q=>∃(a b:Addr) (xs ys:List V),x=.ref a/\y=.ref b/\gR X.K H a xs/\gR X.K H b ys/\xs.length+ys.length<=sizeLine/\(xs=[]->Q (.ref b) H)/\(ys=[]->Q (.ref a) H)/\∀p,H p=none->Q (.ref p) (upd H p (.tup (xs++ys)))):=by
 intro U s Z H x y v u Q I rx ry h;obtain⟨a,b,xs,ys,rfl,rfl,ha,hb,hz,q1,q2,q3⟩:=h;by_cases hx:xs=[]
 ·subst hx;cases(show v=Value.ref a from rx);cases(show u=Value.ref b from ry);obtain⟨i1,r1,p1,_⟩:=I.tuple ha;obtain⟨i2,r2,p2,_⟩:=I.tuple hb;cases r1;obtain⟨dd,n,sl,h1⟩:=sZ p1;obtain⟨Sw,n2,W5,h2⟩:=sZ p2;exact concat_meets ⟨_,h1,rfl⟩ ⟨_,h2,rfl⟩ noFill_tuple_add seq_tuple_add PySem.F.slot_tuple_add PySem.F.entry_tuple_add (PySem.F.args_tuple_add_2 _ _) (tuple_addW0 a b _ _ n n2 dd Sw sl W5 rfl) ⟨h1,h2,⟨.ref b,H,I,rfl,q1 rfl⟩⟩
 ·exact Lu U s Z H _ _ v u Q I rx ry ⟨a,b,xs,ys,rfl,rfl,ha,hb,hx,hz,q2,fun _ p hp=>q3 p hp⟩
theorem Rep.up {v:V}{t:Tr}(r:Rep K (bq B H) v t):Rep K (raw B H) v t:=r.same dU
theorem gR.up {xs:List V}(h:gR K (bq B H) a xs):gR K H a xs:=au.tup aT h
theorem cZ{o:HO}(h:bq B H a=some o):H a=some o:=aT _ _ h
theorem Rep.P9 {p:Addr}{vs:List V}(hb:HB B H)(hp:H p=none)(r:aV K (bq B H) vs ts):Rep K (bq B (upd H p (.tup vs))) (.ref p) (.tup ts):=.tup (.of (hb.new hp)) (r.same (aR (au.upd hp)))
theorem Rep.zh {p:Addr}{vs:List V}(hb:HB B H)(hp:H p=none)(r:aV K (bq B H) vs ts):Rep K (bq B (upd H p (.lst vs))) (.ref p) (.lst ts):=.lst (hb.new hp) (r.same (aR (au.upd hp)))
theorem A6{H:Vw}(h:aV K H [] ts):ts=[]:=by cases h;rfl
theorem P_{a b:Str}(h:a.length+b.length<=bV):(a++b).length<=bV:=by rw[g7];exact h
def zk:Tr->Tr->Rs Tr
 |.int i,.int j=>.ok (.int (i+j))
 |.str a,.str b=>if a.length+b.length<=bV then .ok (.str (a++b))else .bad
 |.tup a,.tup b=>if a.length+b.length<=d7 then .ok (.tup (a++b))else .bad
 |.lst a,.lst b=>if a.length+b.length<=d7 then .ok (.lst (a++b))else .bad
 |_,_=>.bad
theorem fY{α:Type}{c:Prop}[Decidable c]{t:α}{k:α->Prop}(h:Fi X H (if c then Rs.ok t else .bad) k):c/\k t:=by
 by_cases hc:c
 ·rw[ag hc]at h;exact⟨hc,h⟩
 ·rw[ak hc]at h;exact h.elim
theorem gJ:Ct X (binaryOp .Add) zk:=by
 intro U s Z H x y v u Q I rx ry ⟨B,tx,ty,hb,r1,r2,q⟩;unfold zk at q;split at q
 ·exact O3 U s Z H _ _ v u Q I rx ry ⟨_,_,r1.int_inv,r2.int_inv,q _ H (au.refl H) (.int _)⟩
 ·have f:=fY q;exact CF U s Z H _ _ v u Q I rx ry ⟨_,_,r1.str_inv.1,r2.str_inv.1,bJ f.1 j8,f.2 _ H (au.refl H) (.str _ (P_ f.1))⟩
 ·have f:=fY q;obtain⟨a,as,e1,h1,IA⟩:=r1.cY;obtain⟨b,bs,e2,h2,LY⟩:=r2.cY;exact LX U s Z H _ _ v u Q I rx ry ⟨_,_,_,_,e1,e2,h1.up,h2.up,by rw[IA.length,LY.length,<-iI];exact f.1,fun e=>f.2 _ H (au.refl H) (by subst e;rw[A6 IA,<-e2];exact r2),fun e=>f.2 _ H (au.refl H) (by subst e;rw[A6 LY,iU,<-e1];exact r1),fun p hp=>f.2 _ _ (au.upd hp) (.P9 hb hp (IA.append LY))⟩
 ·have f:=fY q;obtain⟨a,as,e1,h1,IA⟩:=r1.lst_inv;obtain⟨b,bs,e2,h2,LY⟩:=r2.lst_inv;exact Pl U s Z H _ _ v u Q I rx ry ⟨_,_,_,_,e1,e2,cZ h1,cZ h2,by rw[IA.length,LY.length,<-iI];exact f.1,fun p hp=>f.2 _ _ (au.upd hp) (.zh hb hp (IA.append LY))⟩
 ·exact fe q
def s_:Tr->Tr->Rs Tr
 |.int i,.int j=>if 0<j then .ok (.int (i % j))else .bad
 |_,_=>.bad
theorem A7:Ct X (binaryOp .Mod) s_:=by
 intro U s Z H x y v u Q I rx ry ⟨B,tx,ty,hb,r1,r2,q⟩;unfold s_ at q;split at q
 ·have f:=fY q;exact O5 U s Z H _ _ v u Q I rx ry ⟨_,_,r1.int_inv,r2.int_inv,f.1,f.2 _ H (au.refl H) (.int _)⟩
 ·exact fe q
def v5(i j:Int):Prop:=(-18446744073709551616<i/\i<18446744073709551616)\/(-18446744073709551616<j/\j<18446744073709551616)
theorem v5.cm {i j:Int}(h:v5 i j):HJ i j:=by
 unfold v5 at h;unfold HJ;omega
instance (i j:Int):Decidable (v5 i j):=by unfold v5;infer_instance
def xJ:Tr->Tr->Rs Tr
 |.int i,.int j=>if v5 i j then .ok (.int (i*j))else .bad
 |.str z,.int n=>if 0<=n/\n<=1000/\z.length<=1000 then .ok (.str (Txt.mul z n))else .bad
 |.lst ts,.int n=>if 0<=n/\n<=1000/\ts.length*n.toNat<=d7 then .ok (.lst (List.replicate n.toNat ts).flatten)else .bad
 |_,_=>.bad
theorem L3:uL X (binaryOp .Mult) (fun x y H Q=>∃(l:Addr) (k:Int) (xs:List V),x=.ref l/\y=.int k/\H l=some (.lst xs)/\-(2 ^63)<=k/\k<2 ^63/\xs.length*k.toNat<=sizeLine/\∀p,H p=none->Q (.ref p) (upd H p (.lst (List.replicate k.toNat xs).flatten))):=Pm
theorem L4{z:Str}{n:Int}(h0:0<=n)(h1:n<=1000)(hz:z.length<=1000):(Txt.mul z n).length<=bV:=by
 have e:=PyProof.Rows.len_mul z n;split at e
 ·have:((Txt.mul z n).length:Int)=0:=e;unfold bV;omega
 ·have h2:(z.length:Int)*n<=1000*1000:=Int.mul_le_mul (by omega) h1 h0 (by decide);have e':((Txt.mul z n).length:Int)=(z.length:Int)*n:=e;unfold bV;omega
theorem IB:Ct X (binaryOp .Mult) xJ:=by
 intro U s Z H x y v u Q I rx ry ⟨B,tx,ty,hb,r1,r2,q⟩;unfold xJ at q;split at q
 ·have f:=fY q;exact O4 U s Z H _ _ v u Q I rx ry ⟨_,_,r1.int_inv,r2.int_inv,f.1.cm,f.2 _ H (au.refl H) (.int _)⟩
 ·have f:=fY q;exact LL U s Z H _ _ v u Q I rx ry ⟨_,_,r1.str_inv.1,r2.int_inv,PyProof.Rows.mulOk_of 1000 1000 f.1.2.2 f.1.2.1 (Int.le_trans (by decide) f.1.1) (by decide) (by decide),f.2 _ H (au.refl H) (.str _ (L4 f.1.1 f.1.2.1 f.1.2.2))⟩
 ·have f:=fY q;obtain⟨a,as,e1,h1,IA⟩:=r1.lst_inv;exact L3 U s Z H _ _ v u Q I rx ry ⟨_,_,_,e1,r2.int_inv,cZ h1,Int.le_trans (by decide) f.1.1,Int.lt_of_le_of_lt f.1.2.1 (by decide),by rw[IA.length,<-iI];exact f.1.2.2,fun p hp=>f.2 _ _ (au.upd hp) (.zh hb hp (IA.rep _))⟩
 ·exact fe q
end
mutual
def eqT:Tr->Tr->Bool
 |.bK,.bK=>true
 |.bl a,.bl b=>a==b
 |.bl a,.int b=>(if a then 1 else 0)==b
 |.int a,.bl b=>a==(if b then 1 else 0)
 |.int a,.int b=>a==b
 |.str a,.str b=>a==b
 |.tup a,.tup b=>C5 a b
 |.lst a,.lst b=>C5 a b
 |_,_=>false
def C5:List Tr->List Tr->Bool
 |[],[]=>true
 |x::xs,y::ys=>eqT x y&&C5 xs ys
 |_,_=>false
end
mutual
def qe:Tr->Bool
 |.bK=>true
 |.bl _=>true
 |.int _=>true
 |.str _=>true
 |.tup ts=>v7 ts
 |.lst ts=>v7 ts
 |_=>false
def v7:List Tr->Bool
 |[]=>true
 |t::ts=>qe t&&v7 ts
end
mutual
def dT:Tr->Nat
 |.tup ts=>P' ts+1
 |.lst ts=>P' ts+1
 |_=>0
def P':List Tr->Nat
 |[]=>0
 |t::ts=>max (dT t) (P' ts)
end
theorem nY:∀{ts:List Tr},v7 ts=true->∀t∈ts,qe t=true
 |[],_,t,h=>nomatch h
 |u::us,h,t,m=>by
  rw[v7,bf]at h;rcases aE.mp m with rfl|m
  ·exact h.1
  ·exact nY h.2 t m
theorem zl:∀{ts:List Tr},∀t∈ts,dT t<=P' ts
 |[],t,h=>nomatch h
 |u::us,t,m=>by
  rw[P'];rcases aE.mp m with rfl|m
  ·exact Nat.le_max_left _ _
  ·exact bJ (zl t m) (Nat.le_max_right _ _)
theorem A8:∀(xs ys:List Tr),((List.range (min xs.length ys.length)).all (fun j=>eqT (xs.getD j .bK) (ys.getD j .bK))&&xs.length==ys.length)=C5 xs ys
 |[],[]=>rfl
 |[],y::ys=>rfl
 |x::xs,[]=>rfl
 |x::xs,y::ys=>by
  have ih:=A8 xs ys;rw[C5,<-ih,cG,cG,Nat.succ_min_succ,List.range_succ_eq_map,gn,nG,Bool.and_assoc];congr 1;have e1:(xs.length+1==ys.length+1)=(xs.length==ys.length):=by rw[Bool.eq_iff_iff,dR,dR];omega
  rw[e1]
  rfl
section
theorem L5{v u:Value}{k:Bool}(hv:∀b t,v≠Value.float b t)(hs:v=u->k=true)(h:SeqAt.RcAt A s v u k):SeqAt.EqAt A s v u k:=fun prog w E Q hq=>by
 unfold eqBool;refine dO ?_
 refine lh (fun C6=>?_) (fun _=>?_)
 ·rw[hs (eq_of_beq C6)]at hq;exact af (dY (ar hq))
 ·cases v with
  |float b t=>exact absurd rfl (hv b t)
  |_=>exact af (h prog w E _ (nv hq))
end
section
variable {pQ:Addr->Option Nat}
theorem ug(I:Inv X U Z H s){vs ws:List V}(h1:gR X.K H a vs)(h2:H a=some (.lst ws)):False:=by
 obtain⟨_,_,⟨o,e,c,_⟩,_⟩:=I.tuple h1;obtain⟨_,bz,n,_,e2⟩:=I.cj a _ h2;rw[e]at e2;cases e2;exact absurd c (by show¬(Value.type "list"=.type "tuple");decide+kernel)
def vT:V->Tr
 |.bK=>.bK
 |.bl b=>.bl b
 |.int i=>.int i
 |.str z=>.str z
 |_=>.at 0
theorem nZ{W:Vw}{x:V}{t:Tr}(r:Rep K W x t)(p:qe t=true):(∃ts,t=.tup ts)\/(∃ts,t=.lst ts)\/t=vT x:=by
 cases r<;>first|(cases p;done)|exact .inr (.inr rfl)|exact .inl ⟨_,rfl⟩|exact .inr (.inl ⟨_,rfl⟩)
theorem se{W:Vw}{x:V}{t t':Tr}(e:t=vT x)(p:qe t=true)(p':qe t'=true)(r':Rep K W x t'):t=t':=by
 rcases nZ r' p' with⟨ts,rfl⟩|⟨ts,rfl⟩|e'
 ·obtain⟨a,_,rfl,_⟩:=r'.cY;rw[e]at p;cases p
 ·obtain⟨a,_,rfl,_⟩:=r'.lst_inv;rw[e]at p;cases p
 ·rw[e,e']
theorem L6(I:Inv X U Z H s):∀(n:Nat) {x:V} {t t':Tr},dT t<=n->qe t=true->qe t'=true->Rep X.K (⟨H,pQ⟩:Vw) x t->Rep X.K (⟨H,pQ⟩:Vw) x t'->t=t':=by
 intro n
 induction n with
 |zero=>
  intro x t t' hd p p' r r';rcases nZ r p with⟨ts,rfl⟩|⟨ts,rfl⟩|e
  ·exact absurd hd (Nat.not_succ_le_zero _)
  ·exact absurd hd (Nat.not_succ_le_zero _)
  ·exact se e p p' r'
 |succ n ih=>
  intro x t t' hd p p' r r';have go:∀{vs:List V} {ts yl:List Tr},P' ts<=n->v7 ts=true->v7 yl=true->aV X.K (⟨H,pQ⟩:Vw) vs ts->aV X.K (⟨H,pQ⟩:Vw) vs yl->ts=yl:=by
   intro vs ts yl k1 k2 k3;have h1:=fun t m=>bJ (zl (ts:=ts) t m) k1;have h2:=nY k2;have h3:=nY k3
   clear hd p p' r r' k1 k2 k3
   induction vs generalizing ts yl with
   |nil=>intro q q';cases q;cases q';rfl
   |cons v vs ihv=>
    intro(.cons qh qr) (.cons qh' qr');rw[List.forall_mem_cons]at h1 h2 h3;rw[ih h1.1 h2.1 h3.1 qh qh',ihv h1.2 h2.2 h3.2 qr qr']
  rcases nZ r p with⟨ts,rfl⟩|⟨ts,rfl⟩|e
  ·rcases nZ r' p' with⟨yl,rfl⟩|⟨yl,rfl⟩|e
   ·obtain⟨a,vs,rfl,h,rr⟩:=r.cY;obtain⟨_,L7,e,h',A9⟩:=r'.cY;cases e;cases I.oZ h h';rw[go (u9 hd) p p' rr A9]
   ·obtain⟨a,vs,rfl,h,rr⟩:=r.cY;obtain⟨_,L7,e,h',A9⟩:=r'.lst_inv;cases e;exact(ug I h h').elim
   ·exact(se e p' p r).symm
  ·rcases nZ r' p' with⟨yl,rfl⟩|⟨yl,rfl⟩|e
   ·obtain⟨a,vs,rfl,h,rr⟩:=r.lst_inv;obtain⟨_,L7,e,h',A9⟩:=r'.cY;cases e;exact(ug I h' h).elim
   ·obtain⟨a,vs,rfl,h,rr⟩:=r.lst_inv;obtain⟨_,L7,e,h',A9⟩:=r'.lst_inv;cases e;cases h.symm.trans h';rw[go (u9 hd) p p' rr A9]
   ·exact(se e p' p r).symm
  ·exact se e p p' r'
mutual
theorem A_:∀{t:Tr},qe t=true->eqT t t=true
 |.bK,_=>rfl
 |.bl b,_=>by rw[eqT];exact bA b
 |.int i,_=>by rw[eqT];exact bA i
 |.str z,_=>by rw[eqT];exact bA z
 |.tup ts,h=>by rw[eqT];rw[qe]at h;exact tm h
 |.lst ts,h=>by rw[eqT];rw[qe]at h;exact tm h
 |.ty _,h=>by cases h
 |.mY _,h=>by cases h
 |.bo _,h=>by cases h
 |.at _,h=>by cases h
 |.ue _,h=>by cases h
 |.ob _ _,h=>by cases h
 |.yf _,h=>by cases h
theorem tm:∀{ts:List Tr},v7 ts=true->C5 ts ts=true
 |[],_=>rfl
 |t::ts,h=>by
  rw[v7,bf]at h;rw[C5,A_ h.1,tm h.2]
  rfl
end
theorem Ex{α:Type}{l:List α}{j:Nat}{x d:α}(h:l[j]?=some x):l.getD j d=x:=by rw[dg,h];rfl
inductive Sh(K:Frag)(G:Vw)(h:Heap):Tr->Value->Prop
 |bK:Sh K G h .bK .none
 |bl (b:Bool):Sh K G h (.bl b) (.bool b)
 |int (b:Int) (w:Tok):Sh K G h (.int b) (.int b w)
 |str (b:Str) (w:Tok):Sh K G h (.str b) (.str b w)
 |tup {a:Addr} {vs:List V} {ts:List Tr} {us:List Value} (q:h.IsTuple a us.toArray) (rr:aV K G vs ts) (rv:Vals vs us):Sh K G h (.tup ts) (.ref a)
 |lst {a:Addr} {vs:List V} {ts:List Tr} {us:List Value} (q:h.IsList a us.toArray) (rr:aV K G vs ts) (rv:Vals vs us):Sh K G h (.lst ts) (.ref a)
theorem zm(I:Inv X U Z H s){x:V}{v:Value}{t:Tr}(p:qe t=true)(r:Rep X.K (⟨H,pQ⟩:Vw) x t)(rx:RelV x v):Sh X.K ⟨H,pQ⟩ s.heap t v:=by
 cases r with
 |bK=>cases(show v=Value.none from rx);exact .bK
 |bl b=>cases(show v=Value.bool b from rx);exact .bl b
 |int b=>obtain⟨w,rfl⟩:=(show∃t,v=Value.int b t from rx);exact .int b w
 |str b _=>obtain⟨w,rfl⟩:=(show∃t,v=Value.str b t from rx);exact .str b w
 |@tup a _ _ h rr=>cases(show v=Value.ref a from rx);obtain⟨_,rv,q,_⟩:=I.tuple h;exact .tup q rr rv
 |@lst a _ _ h rr=>cases(show v=Value.ref a from rx);obtain⟨_,rv,q,_⟩:=I.list (.of h);exact .lst q.isList rr rv
 |_=>cases p
theorem Ey(I:Inv X U Z H s)(n:Nat){x y:V}{v u:Value}{t t':Tr}(hd:dT t<=n)(p:qe t=true)(p':qe t'=true)(r:Rep X.K (⟨H,pQ⟩:Vw) x t)(r':Rep X.K (⟨H,pQ⟩:Vw) y t')(rx:RelV x v)(ry:RelV y u)(q:SeqAt.RcAt A s v u (eqT t t')):SeqAt.EqAt A s v u (eqT t t'):=by
 refine L5 (fun b t e=>?_) (fun e=>?_) q
 ·subst e;cases r<;>first|(obtain⟨_,z⟩:=rx;cases z;done)|(cases rx;done)
 subst e;rw[rx.inj ry]at r;rw[<-L6 I n hd p p' r r'];exact A_ p
theorem Ez{G:Vw}{A:Around}{v u:Value}{t t':Tr}(S:Sh K G s.heap t v)(S':Sh K G s.heap t' u)(hu:A.units<cLine):(SeqAt.RcAt A s v u (eqT t t')/\SeqAt.RcNeAt A s v u (!eqT t t'))\/∃ts yl,(t=.tup ts/\t'=.tup yl)\/(t=.lst ts/\t'=.lst yl):=by
 cases S<;>cases S'<;>first|exact .inr ⟨_,_,.inl ⟨rfl,rfl⟩⟩|exact .inr ⟨_,_,.inr ⟨rfl,rfl⟩⟩|(refine .inl ⟨?_,?_⟩<;>simp only[eqT,iX,eX]<;>with_reducible first|exact .none_none|exact .none_bool _|exact .none_int _ _|exact .none_str _ _|exact .none_tuple ‹_› hu|exact .none_list ‹_› hu|exact .bool_none _|exact .bool_bool _ _|exact .bool_int _ _ _|exact .bool_str _ _ _|exact .bool_tuple _ ‹_› hu|exact .bool_list _ ‹_› hu|exact .int_none _ _|exact .int_bool _ _ _|exact .int_int _ _ _ _|exact .int_str _ _ _ _|exact .int_tuple _ _ ‹_› hu|exact .int_list _ _ ‹_› hu|exact .str_none _ _|exact .str_bool _ _ _|exact .str_int _ _ _ _|exact .str_str _ _ _ _|exact .str_tuple _ _ ‹_› hu|exact .str_list _ _ ‹_› hu|exact .tuple_none ‹_› hu|exact .tuple_bool _ ‹_› hu|exact .tuple_int _ _ ‹_› hu|exact .tuple_str _ _ ‹_› hu|exact .tuple_list ‹_› ‹_› hu|exact .list_none ‹_› hu|exact .list_bool _ ‹_› hu|exact .list_int _ _ ‹_› hu|exact .list_str _ _ ‹_› hu|exact .list_tuple ‹_› ‹_› hu)
theorem Qa(I:Inv X U Z H s):∀(n:Nat) {A:Around} {x y:V} {v u:Value} {t t':Tr},dT t<=n->qe t=true->qe t'=true->Rep X.K (⟨H,pQ⟩:Vw) x t->Rep X.K (⟨H,pQ⟩:Vw) y t'->RelV x v->RelV y u->A.units+n<cLine->SeqAt.RcAt A s v u (eqT t t')/\SeqAt.RcNeAt A s v u (!eqT t t'):=by
 intro n
 induction n with
 |zero=>
  intro A x y v u t t' hd p p' r r' rx ry hu;rcases Ez (zm I p r rx) (zm I p' r' ry) (A:=A) (by omega)with h|⟨_,_,⟨rfl,_⟩|⟨rfl,_⟩⟩
  ·exact h
  all_goals exact absurd hd (by rw[dT];omega)
 |succ n ih=>
  intro A x y v u t t' hd p p' r r' rx ry hu;have hv:A.units<cLine:=by omega
  have a8:∀{vs L7:List V} {us C7:List Value} {ts yl:List Tr},P' ts<=n->v7 ts=true->v7 yl=true->aV X.K (⟨H,pQ⟩:Vw) vs ts->aV X.K (⟨H,pQ⟩:Vw) L7 yl->Vals vs us->Vals L7 C7->∀(j:Nat) (h1:j<us.toArray.size) (h2:j<C7.toArray.size),
    SeqAt.EqAt A.in1 s us.toArray[j] C7.toArray[j] (eqT (ts.getD j .bK) (yl.getD j .bK)):=by
   intro vs L7 us C7 ts yl d1 q1 q2 rr A9 rv F_ j h1 h2;replace h1:j<us.length:=h1;replace h2:j<C7.length:=h2;have k1:=bb (Nat.lt_of_lt_of_eq h1 rv.length.symm);have k2:=bb (Nat.lt_of_lt_of_eq h2 F_.length.symm);obtain⟨t1,e1,p1⟩:=rr.vU k1;obtain⟨t2,e2,p2⟩:=A9.vU k2;obtain⟨w1,f1,g1⟩:=rv.get k1;obtain⟨w2,f2,g2⟩:=F_.get k2;rw[bb h1]at f1;rw[bb h2]at f2;rw[List.getElem_toArray,List.getElem_toArray,Option.some.inj f1,Option.some.inj f2,Ex e1,Ex e2];have m1:=cV e1;have q2:=nY q2 _ (cV e2);have q1:=nY q1 _ m1;have d:=bJ (zl _ m1) d1;exact Ey I n d q1 q2 p1 p2 g1 g2 (ih d q1 q2 p1 p2 g1 g2 (by show A.units+1+n<cLine;omega)).1
  have S:=zm I p r rx;have S':=zm I p' r' ry;rcases Ez S S' hv with h|⟨ts,yl,⟨rfl,rfl⟩|⟨rfl,rfl⟩⟩
  ·exact h
  all_goals
   rw[dT]at hd;have it:=fun{vs L7 us C7}=>@a8 vs L7 us C7 _ _ (Nat.le_of_add_le_add_right hd) p p';have e:=A8 ts yl;rw[eqT]
  ·cases S with|tup q rr rv=>
   cases S' with|tup q' A9 F_=>
   rw[<-e,<-rr.length,<-A9.length,rv.length,F_.length];exact⟨.tuples q q' hv (it rr A9 rv F_),.tuples q q' hv (it rr A9 rv F_)⟩
  cases S with|lst q rr rv=>
  cases S' with|lst q' A9 F_=>
  have l:=rr.length;have l':=A9.length;rw[rv.length]at l;rw[F_.length]at l';by_cases hz:ts.length=yl.length
  ·rw[hz,Nat.min_self,bA,Bool.and_true,<-hz,<-l]at e;rw[<-e];exact⟨.lists q q' (by simp;omega) hv (it rr A9 rv F_),.lists q q' (by simp;omega) hv (it rr A9 rv F_)⟩
  ·rw[iW hz,vt]at e;rw[<-e];exact⟨.lists_lengths q q' (by simp;omega) hv,.lists_lengths q q' (by simp;omega) hv⟩
end
section
def YR(a b:Tr):Rs Tr:=if qe a=true/\qe b=true/\dT a<=40 then .ok (.bl (eqT a b))else .bad
theorem eD(hu:X.A.units+40<cLine):Ct X (compareOp .Eq) YR:=by
 intro U s Z H x y v u Q I rx ry ⟨B,tx,ty,hb,r1,r2,q⟩;obtain⟨⟨p1,p2,hd⟩,k⟩:=fY q;exact(Qa I 40 hd p1 p2 r1.up r2.up rx ry hu).1 _ _ _ _ ⟨.bl _,H,I,rfl,k _ H (au.refl H) (.bl _)⟩
end
section
variable {pQ:Addr->Option Nat}
theorem IC(I:Inv X U Z H s)(n:Nat){x y:V}{v u:Value}{t t':Tr}(hd:dT t<=n)(p:qe t=true)(p':qe t'=true)(r:Rep X.K (⟨H,pQ⟩:Vw) x t)(r':Rep X.K (⟨H,pQ⟩:Vw) y t')(rx:RelV x v)(ry:RelV y u)(hu:A.units+n<cLine):SeqAt.EqAt A s v u (eqT t t'):=
 Ey I n hd p p' r r' rx ry (Qa I n hd p p' r r' rx ry hu).1
end
section
def Hv(a b:Tr):Rs Tr:=if qe a=true/\qe b=true/\dT a<=40 then .ok (.bl (!eqT a b))else .bad
theorem ID(hu:X.A.units+40<cLine):Ct X (compareOp .NotEq) Hv:=by
 intro U s Z H x y v u Q I rx ry ⟨B,tx,ty,hb,r1,r2,q⟩;obtain⟨⟨p1,p2,hd⟩,k⟩:=fY q;exact(Qa I 40 hd p1 p2 r1.up r2.up rx ry hu).2 _ _ _ _ ⟨.bl _,H,I,rfl,k _ H (au.refl H) (.bl _)⟩
def ltC:Tr->Tr->Rs Tr
 |.int i,.int j=>.ok (.bl (decide (i<j)))
 |.str a,.str b=>.ok (.bl (decide (a.cps.toList<b.cps.toList)))
 |_,_=>.bad
def YS:Tr->Tr->Rs Tr
 |.int i,.int j=>.ok (.bl (decide (j<i)))
 |_,_=>.bad
theorem YT:Ct X (compareOp .Lt) ltC:=by
 intro U s Z H x y v u Q I rx ry ⟨B,tx,ty,hb,r1,r2,q⟩;unfold ltC at q;split at q
 ·exact TF U s Z H _ _ v u Q I rx ry ⟨_,_,r1.int_inv,r2.int_inv,q _ H (au.refl H) (.bl _)⟩
 ·exact FW U s Z H _ _ v u Q I rx ry ⟨_,_,r1.str_inv.1,r2.str_inv.1,q _ H (au.refl H) (.bl _)⟩
 ·exact fe q
theorem UK:Ct X (compareOp .Gt) YS:=by
 intro U s Z H x y v u Q I rx ry ⟨B,tx,ty,hb,r1,r2,q⟩;unfold YS at q;split at q
 ·exact TH U s Z H _ _ v u Q I rx ry ⟨_,_,r1.int_inv,r2.int_inv,q _ H (au.refl H) (.bl _)⟩
 ·exact fe q
def Xr:Tr->Bool
 |.bK=>true
 |_=>false
theorem EA{H:Vw}{x:V}{t:Tr}(r:Rep K H x t):decide (x=.bK)=Xr t:=by
 cases r<;>rfl
def Ga:Tr->Tr->Rs Tr
 |a,.bK=>.ok (.bl (Xr a))
 |.bl a,.bl b=>.ok (.bl (a==b))
 |_,_=>.bad
theorem Ba:Ct X (compareOp .Is) Ga:=by
 intro U s Z H x y v u Q I rx ry ⟨B,tx,ty,hb,r1,r2,q⟩;unfold Ga at q;split at q
 ·exact O7 U s Z H _ _ v u Q I rx ry ⟨r2.LM,by rw[EA r1];exact q _ H (au.refl H) (.bl _)⟩
 ·exact PQ U s Z H _ _ v u Q I rx ry ⟨_,_,r1.vY,r2.vY,q _ H (au.refl H) (.bl _)⟩
 ·exact fe q
def dt(aG:List (Key×Tr))(k:Key):Option Tr:=(aG.find? fun kv=>decide (kv.1=k)).map (·.2)
def i7:Tr->Option Key
 |.int i=>some (.inl i)
 |.str z=>some (.inr z)
 |_=>none
theorem mf{H:Vw}{x:V}{t:Tr}{k:Key}(r:Rep K H x t)(e:i7 t=some k):x=kV k:=by
 cases r with
 |int i=>cases e;rfl
 |str z h=>cases e;rfl
 |_=>cases e
theorem o7{H:Vw}(k:Key):∀{kvs:List (Key×V)} {aG:List (Key×Tr)},kvs.map (·.1)=aG.map (·.1)->aV K H (kvs.map (·.2)) (aG.map (·.2))->(dt aG k=none/\lz kvs k=none)\/∃t v,dt aG k=some t/\lz kvs k=some v/\Rep K H v t
 |[],[],_,_=>.inl ⟨rfl,rfl⟩
 |[],_::_,e,_=>by cases e
 |_::_,[],e,_=>by cases e
 |(k1,v1)::kvs,(k2,t2)::aG,e,r=>by
  rw[aO,aO]at e;injection e with e1 e2
  have L8:k1=k2:=e1;subst L8;cases r with
  |cons h r=>
   by_cases q:k1=k
   ·refine .inr ⟨t2,v1,?_,rS q,h⟩;unfold dt;rw[iV,g_ (show(k1,t2).1=k from q)]
    rfl
   ·rw[rV q];have e3:dt ((k1,t2)::aG) k=dt aG k:=by
     unfold dt;rw[iV,d_ (show¬(k1,t2).1=k from q)]
    rw[e3];exact o7 k e2 r
theorem v8{H:Vw}{kvs:List (Key×V)}{aG:List (Key×Tr)}{y:V}{t:Tr}{k:Key}(h:Rd H.H a (.dK kvs))(e:kvs.map (·.1)=aG.map (·.1))(r:aV K H (kvs.map (·.2)) (aG.map (·.2)))(ry:Rep K H y t)(hk:i7 t=some k):
  ∃o,nV H a y o/\((dt aG k=none/\o=none)\/∃t v,dt aG k=some t/\o=some v/\Rep K H v t):=by
 have e1:=mf ry hk;subst e1;refine⟨_,.inl ⟨kvs,k,h,rfl,rfl⟩,?_⟩;rcases o7 k e r with⟨h1,h2⟩|⟨t,v,h1,h2,h3⟩
 ·exact .inl ⟨h1,h2⟩
 ·exact .inr ⟨t,v,h1,h2,h3⟩
def ym:Tr->Bool
 |.bK=>true
 |.bl _=>true
 |.int _=>true
 |.str _=>true
 |_=>false
def eU(x:Tr)(u:Value):Bool:=match u with
 |.none=>eqT .bK x
 |.bool b=>eqT (.bl b) x
 |.int i _=>eqT (.int i) x
 |.str z _=>eqT (.str z) x
 |_=>false
theorem C8{H:Vw}{y:V}{t x:Tr}{u:Value}(r:Rep K H y t)(f:ym t=true)(ry:RelV y u):eU x u=eqT t x:=by
 cases r with
 |bK=>cases(show u=Value.none from ry);rfl
 |bl b=>cases(show u=Value.bool b from ry);rfl
 |int i=>obtain⟨w,rfl⟩:=(show∃t,u=Value.int i t from ry);rfl
 |str z _=>obtain⟨w,rfl⟩:=(show∃t,u=Value.str z t from ry);rfl
 |_=>cases f
theorem v9{H:Vw}{x:Tr}:∀{vs:List V} {ts:List Tr} {us:List Value},aV K H vs ts->ts.all ym=true->Vals vs us->us.any (eU x)=ts.any fun y=>eqT y x
 |[],_,_,r,_,rv=>by cases r;cases rv;rfl
 |_::_,_,_,r,f,rv=>by
  cases r with
  |cons h r=>
   cases rv with
   |cons h1 rv=>
    rw[gn,bf]at f;rw[hJ,hJ,C8 h f.1 h1,v9 r f.2 rv]
theorem L9{t:Tr}(f:ym t=true):dT t<=0/\qe t=true:=by cases t<;>first|exact⟨aN _,rfl⟩|cases f
theorem n5{pQ:Addr->Option Nat}{A:Around}{x:V}{t:Tr}{v:Value}(I:Inv X U Z H s)(hu:A.units<cLine)(rx:Rep X.K (⟨H,pQ⟩:Vw) x t)(p:qe t=true)(rv:RelV x v):∀{vs:List V} {ts:List Tr} {us:List Value},aV X.K (⟨H,pQ⟩:Vw) vs ts->ts.all ym=true->Vals vs us->∀u∈us,SeqAt.EqAt A s u v (eU t u)
 |[],_,_,r,_,q=>fun u m=>by cases q;cases m
 |_::_,_,_,r,f,q=>fun u m=>by
  cases r with
  |cons h r=>
   cases q with
   |cons h1 q=>
    rw[gn,bf]at f;rcases aE.mp m with rfl|m
    ·rw[C8 h f.1 h1];obtain⟨d0,p0⟩:=L9 f.1;exact IC I 0 d0 p0 p h rx h1 rv hu
    ·exact n5 I hu rx p rv r f.2 q u m
def IE(x:Tr)(ts:List Tr):Rs Bool:=if qe x=true/\ts.all ym=true then .ok (ts.any fun y=>eqT y x)else .bad
def SK:Tr->Tr->Rs Tr
 |x,.tup ts=>PY (IE x ts)
 |x,.lst ts=>PY (IE x ts)
 |x,.bo aG=>match i7 x with
  |some k=>.ok (.bl (dt aG k).isSome)
  |none=>.bad
 |.str i,.str j=>.ok (.bl (!(Builtin.Str.occurrences j i 0 j.length 1).isEmpty))
 |_,_=>.bad
def L_:Tr->Tr->Rs Tr
 |x,.tup ts=>PY (uz (IE x ts))
 |x,.lst ts=>PY (uz (IE x ts))
 |x,.bo aG=>match i7 x with
  |some k=>.ok (.bl (!(dt aG k).isSome))
  |none=>.bad
 |.str i,.str j=>.ok (.bl (!(!(Builtin.Str.occurrences j i 0 j.length 1).isEmpty)))
 |_,_=>.bad
theorem uP{x:Tr}{k:Bool->Prop}(q:Fi X H (IE x ts) k):qe x=true/\ts.all ym=true/\k (ts.any fun y=>eqT y x):=by
 unfold IE at q;split at q
 ·rename_i h;exact⟨h.1,h.2,q⟩
 ·exact q.elim
theorem EB{x y:V}{tx:Tr}{aG:List (Key×Tr)}{k:Key}(r:Rep K (bq B H) y (.bo aG))(r1:Rep K (bq B H) x tx)(ek:i7 tx=some k):∃a,y=.ref a/\∃o,nV H a x o/\o.isSome=(dt aG k).isSome:=by
 cases r with
 |bo h e rr=>
  obtain⟨o,g,ho⟩:=v8 (H:=raw _ _) (h.same aT) e (rr.same dU) r1.up ek;refine⟨_,rfl,o,g,?_⟩;rcases ho with⟨h1,rfl⟩|⟨_,_,h1,rfl,_⟩
  ·rw[h1];rfl
  ·rw[h1];rfl
theorem tq(hu:X.A.units+1<cLine):Ct X (compareOp .In) SK:=by
 intro U s Z H x y v u Q I rx ry ⟨B,tx,ty,hb,r1,r2,q⟩;unfold SK at q;split at q
 ·have f:=uP (Fi.bind q);obtain⟨a,vs,rfl,h,rr⟩:=r2.cY;cases(show u=Value.ref a from ry);obtain⟨bz,rv,pl,_⟩:=I.tuple h.up;refine SeqAt.in_tupleAt (eU tx) pl (fun w hw=>n5 I hu r1.up f.1 rx (rr.same dU) f.2.1 rv w (by simpa using hw)) ⟨.bl _,H,I,rfl,?_⟩;rw[show bz.toArray.any (eU tx)=bz.any (eU tx) by simp,v9 rr f.2.1 rv];exact f.2.2 _ H (au.refl H) (.bl _)
 ·have f:=uP (Fi.bind q);obtain⟨a,vs,rfl,h,rr⟩:=r2.lst_inv;cases(show u=Value.ref a from ry);obtain⟨bz,rv,pl,_⟩:=I.list (.of (cZ h));refine SeqAt.in_listAt (eU tx) pl.isList (fun w hw=>n5 I hu r1.up f.1 rx (rr.same dU) f.2.1 rv w (by simpa using hw)) ⟨.bl _,H,I,rfl,?_⟩;rw[show bz.toArray.any (eU tx)=bz.any (eU tx) by simp,v9 rr f.2.1 rv];exact f.2.2 _ H (au.refl H) (.bl _)
 ·split at q
  ·rename_i ek;obtain⟨a,rfl,g⟩:=EB r2 r1 ek;cases(show u=Value.ref a from ry);obtain⟨o,g,eo⟩:=g;refine Yz hu I g rx fun s' I'=>⟨.bl _,H,I',rfl,?_⟩;rw[eo];exact q _ H (au.refl H) (.bl _)
  ·exact fe q
 ·exact FX U s Z H _ _ v u Q I rx ry ⟨_,_,r1.str_inv.1,r2.str_inv.1,q _ H (au.refl H) (.bl _)⟩
 ·exact fe q
theorem uh(hu:X.A.units+1<cLine):Ct X (compareOp .NotIn) L_:=by
 intro U s Z H x y v u Q I rx ry ⟨B,tx,ty,hb,r1,r2,q⟩;unfold L_ at q;split at q
 ·have f:=uP (Fi.bind (Fi.bind q));obtain⟨a,vs,rfl,h,rr⟩:=r2.cY;cases(show u=Value.ref a from ry);obtain⟨bz,rv,pl,_⟩:=I.tuple h.up;refine SeqAt.notIn_tupleAt (eU tx) pl (fun w hw=>n5 I hu r1.up f.1 rx (rr.same dU) f.2.1 rv w (by simpa using hw)) ⟨.bl _,H,I,rfl,?_⟩;rw[show bz.toArray.any (eU tx)=bz.any (eU tx) by simp,v9 rr f.2.1 rv];exact f.2.2 _ H (au.refl H) (.bl _)
 ·have f:=uP (Fi.bind (Fi.bind q));obtain⟨a,vs,rfl,h,rr⟩:=r2.lst_inv;cases(show u=Value.ref a from ry);obtain⟨bz,rv,pl,_⟩:=I.list (.of (cZ h));refine SeqAt.notIn_listAt (eU tx) pl.isList (fun w hw=>n5 I hu r1.up f.1 rx (rr.same dU) f.2.1 rv w (by simpa using hw)) ⟨.bl _,H,I,rfl,?_⟩;rw[show bz.toArray.any (eU tx)=bz.any (eU tx) by simp,v9 rr f.2.1 rv];exact f.2.2 _ H (au.refl H) (.bl _)
 ·split at q
  ·rename_i ek;obtain⟨a,rfl,g⟩:=EB r2 r1 ek;cases(show u=Value.ref a from ry);obtain⟨o,g,eo⟩:=g;refine LA hu I g rx fun s' I'=>⟨.bl _,H,I',rfl,?_⟩;rw[eo];exact q _ H (au.refl H) (.bl _)
  ·exact fe q
 ·exact y6 U s Z H _ _ v u Q I rx ry ⟨_,_,r1.str_inv.1,r2.str_inv.1,q _ H (au.refl H) (.bl _)⟩
 ·exact fe q
end
def mM{α:Type}:Option α->Rs α
 |some a=>.ok a
 |none=>.bad
def eJ:Tr->Tr->Rs Tr
 |.tup ts,.int i=>mM (uy ts i)
 |.lst ts,.int i=>mM (uy ts i)
 |.str z,.int i=>(mM (uy z.cps.toList i)).bind fun c=>.ok (.str ⟨#[c]⟩)
 |.mY ns,.int i=>(mM (uy ns i)).bind fun n=>.ok (.int n)
 |.bo aG,t=>(mM (i7 t)).bind fun k=>mM (dt aG k)
 |_,_=>.bad
theorem aV.uy {H:Vw}{vs:List V}{i:Int}{t:Tr}(r:aV K H vs ts)(e:L2.uy ts i=some t):∃v,L2.uy vs i=some v/\Rep K H v t:=by
 unfold L2.uy at e⊢;rw[r.length];cases q:K1 ts.length i with
 |none=>rw[q]at e;cases e
 |some j=>
  rw[q]at e;obtain⟨v,e1,r1⟩:=r.get (show ts[j]?=some t from e);exact⟨v,e1,r1⟩
theorem fc{X:Cx}{H:Hp}{α:Type}{o:Option α}{k:α->Prop}(h:Fi X H (mM o) k):∃a,o=some a/\k a:=by
 cases o with
 |none=>exact h.elim
 |some a=>exact⟨a,rfl,h⟩
section
variable {a b:Expr}
theorem L'{α β:Type}(f:α->β)(xs:List α)(i:Int):L2.uy (xs.map f) i=(L2.uy xs i).map f:=by
 unfold L2.uy;rw[aC];cases K1 xs.length i with
 |none=>rfl
 |some j=>show(xs.map f)[j]?=_;rw[bg];rfl
theorem Ma(c:Nat):(⟨#[c]⟩:Str).length<=bV:=by show 1<=bV;decide
theorem Mb{x y:V}{ty t:Tr}{aG:List (Key×Tr)}{k:Key}(r:Rep K (bq B H) x (.bo aG))(r2:Rep K (bq B H) y ty)(ek:i7 ty=some k)(et:dt aG k=some t):∃a w,x=.ref a/\nV H a y (some w)/\Rep K (bq B H) w t:=by
 obtain⟨a,kvs,e0,h,e,rr⟩:=r.md;refine⟨a,?_⟩;rcases o7 k e rr with⟨h1,_⟩|⟨t',w,h1,h2,h3⟩
 ·cases et.symm.trans h1
 ·cases et.symm.trans h1;exact⟨w,e0,.inl ⟨kvs,k,h.same aT,mf r2 ek,h2.symm⟩,h3⟩
theorem UL(hu:X.A.units+1<cLine):TV X (rT X eJ):=by
 intro value slice U s Z H x y v u Q I rx ry ⟨B,tx,ty,hb,r1,r2,q⟩ hs;unfold eJ at q;split at q
 ·obtain⟨a,vs,e,h,rr⟩:=r1.cY;obtain⟨t,et,k⟩:=fc q;obtain⟨w,ew,nQ⟩:=rr.uy et;exact Pg value slice U s Z H _ _ v u Q I rx ry ⟨_,_,_,w,e,r2.int_inv,h.up,ew,k w H (au.refl H) nQ⟩ hs
 ·obtain⟨a,vs,e,h,rr⟩:=r1.lst_inv;obtain⟨t,et,k⟩:=fc q;obtain⟨w,ew,nQ⟩:=rr.uy et;exact Ec value slice U s Z H _ _ v u Q I rx ry ⟨_,_,_,w,e,r2.int_inv,.of (cZ h),ew,k w H (au.refl H) nQ⟩ hs
 ·obtain⟨c,et,k⟩:=fc (Fi.bind q);exact Ph value slice U s Z H _ _ v u Q I rx ry ⟨_,_,c,r1.str_inv.1,r2.int_inv,bJ r1.str_inv.2 j8,et,k _ H (au.refl H) (.str _ (Ma c))⟩ hs
 ·obtain⟨n,et,k⟩:=fc (Fi.bind q);obtain⟨a,e,h⟩:=r1.En;exact Ec value slice U s Z H _ _ v u Q I rx ry ⟨_,_,_,.int n,e,r2.int_inv,au.seq aT h,by rw[L',et];rfl,k _ H (au.refl H) (.int n)⟩ hs
 ·obtain⟨k,ek,qk⟩:=fc (Fi.bind q);obtain⟨t,et,qt⟩:=fc qk;obtain⟨a,w,rfl,g,nQ⟩:=Mb r1 r2 ek et;cases(show v=Value.ref a from rx);exact tail_any (AN I g) PySem.F.slot_dict_getitem.lookup (F3 hu I g ry fun w' s' I' rv=>⟨w,H,I',rv,qt w H (au.refl H) nQ⟩) hs
 ·exact fe q
theorem YU(hu:X.A.units+1<cLine)(ha:PE X a (tP X F))(hb:PE X b (tP X G))(hs:rQ b:=by exact fun _ _=>rfl):PE X (.Subscript a b pos) (tP X fun Y=>j7 eJ (F Y) (G Y)):=
 (NW (UL hu) ha hb hs).weak fun _ _ _ q=>r8 q
inductive tO(X:Cx)(P:aQ->Rs (Option Int))(Z:St)(H:Hp)(Q:Option Int->Hp->Prop):Prop
 |mk (B:dG) (Y:aQ):HB B H->bL X.K B H Z Y->(Fi X H (P Y) fun o=>∀H',au H H'->Q o H')->tO X P Z H Q
def SM(r:Rs Tr):Rs (Option Int):=r.bind fun t=>match t with
 |.int i=>.ok (some i)
 |_=>.bad
theorem Qb:PO X none (tO X fun _=>.ok none):=fun U s Z H Q I ⟨B,Y,hb,r,q⟩=>Lr U s Z H Q I (q H (au.refl H))
theorem Qc(h:PE X e (tP X F)):PO X (some e) (tO X fun Y=>SM (F Y)):=fun U s Z H Q I ⟨B,Y,hb,r,q⟩=>
 Ls h U s Z H Q I ⟨B,Y,hb,r,q.bind.mono fun t qt v H' s' r'=>by
  split at qt
  ·exact⟨_,r'.int_inv,qt H' s'⟩
  ·exact qt.elim⟩
def zo{α:Type}(xs:List α)(lo hi:Option Int):List α:=(xs.drop (HT.fK xs.length 0 lo)).take (HT.fK xs.length xs.length hi - HT.fK xs.length 0 lo)
theorem aV.cut {H:Vw}{vs:List V}(r:aV K H vs ts)(lo hi:Option Int):aV K H (AK vs lo hi) (zo ts lo hi):=by
 unfold AK zo;rw[r.length];exact(r.drop _).take _
def mh(n:Nat)(lo hi:Option Int):Bool:=HT.fK n 0 lo==0&&HT.fK n n hi==n
def YV:Tr->Option Int->Option Int->Rs Tr
 |.tup ts,lo,hi=>if mh ts.length lo hi=true then .bad else .ok (.tup (zo ts lo hi))
 |.lst ts,lo,hi=>.ok (.lst (zo ts lo hi))
 |.str z,lo,hi=>if(Txt.slice z lo hi).length<=bV then .ok (.str (Txt.slice z lo hi))else .bad
 |_,_,_=>.bad
inductive rSl(X:Cx)(x:V)(lo:Option Int)(hi:Option Int)(H:Hp)(Q:VK):Prop
 |mk (B:dG) (t:Tr):HB B H->Rep X.K (bq B H) x t->(Fi X H (YV t lo hi) fun t=>∀v H',au H H'->Rep X.K (bq B H') v t->Q v H')->rSl X x lo hi H Q
theorem YW:SD X (rSl X):=by
 intro U s Z H x v vl vu lo hi sl Q I rx hs pl pu ⟨B,t,hb,r,q⟩;cases r with
 |tup h rr=>
  rename_i a vs ts;have q':Fi X H (if mh ts.length lo hi=true then Rs.bad else .ok (Tr.tup (zo ts lo hi))) _:=q;by_cases hw:mh ts.length lo hi=true
  ·rw[ag hw]at q';exact fe q'
  ·rw[ak hw]at q';refine Pe U s Z H _ v vl vu lo hi sl Q I rx hs pl pu ⟨_,_,rfl,h.up,fun z=>hw ?_,fun p hp=>q' _ _ (au.upd hp) (.P9 hb hp (rr.cut lo hi))⟩;rw[rr.length]at z;unfold mh;rw[z.1,z.2,bA,bA];rfl
 |lst h rr=>exact Lw U s Z H _ v vl vu lo hi sl Q I rx hs pl pu ⟨_,_,rfl,.of (cZ h),fun p hp=>q _ _ (au.upd hp) (.zh hb hp (rr.cut lo hi))⟩
 |str z hz=>
  obtain⟨h1,k⟩:=fY q;exact PU U s Z H _ v vl vu lo hi sl Q I rx hs pl pu ⟨z,rfl,bJ hz j8,k _ H (au.refl H) (.str _ h1)⟩
 |_=>exact fe q
variable {P1 P2:aQ->Rs (Option Int)}{lo hi:Option Expr}{p2:Pos}
def Mc:List Tr->Rs Tr
 |[.str z]=>.ok (.int (z.length:Int))
 |[.tup ts]=>.ok (.int (ts.length:Int))
 |[.lst ts]=>.ok (.int (ts.length:Int))
 |[.mY ns]=>.ok (.int (ns.length:Int))
 |_=>.bad
theorem UM:j9 X (.builtin "len") Mc:=by
 intro U s Z H xs us Q I rv ⟨B,ts,hb,r,q⟩;unfold Mc at q;split at q
 ·obtain⟨x,e,r⟩:=eM r;exact rN U s Z H _ us Q I rv ⟨_,_,e,by rw[r.str_inv.1];exact⟨bJ r.str_inv.2 j8,rfl⟩,q _ H (au.refl H) (.int _)⟩
 ·obtain⟨x,e,r⟩:=eM r;obtain⟨a,vs,rfl,h,rr⟩:=r.cY;exact rN U s Z H _ us Q I rv ⟨_,_,e,.inr ⟨_,h.up,rfl⟩,q _ H (au.refl H) (by rw[rr.length];exact .int _)⟩
 ·obtain⟨x,e,r⟩:=eM r;obtain⟨a,vs,rfl,h,rr⟩:=r.lst_inv;exact rN U s Z H _ us Q I rv ⟨_,_,e,.inl ⟨_,.of (cZ h),rfl⟩,q _ H (au.refl H) (by rw[rr.length];exact .int _)⟩
 ·obtain⟨x,e,r⟩:=eM r;obtain⟨a,rfl,h⟩:=r.En;exact rN U s Z H _ us Q I rv ⟨_,_,e,.inl ⟨_,au.seq aT h,rfl⟩,q _ H (au.refl H) (by rw[aC];exact .int _)⟩
 ·exact fe q
def N5:List Tr->Rs Tr
 |[.tup ts]=>.ok (.lst ts)
 |[.lst ts]=>.ok (.lst ts)
 |_=>.bad
def jB:List Tr->Rs Tr
 |[.tup ts]=>.ok (.tup ts)
 |[.lst ts]=>.ok (.tup ts)
 |_=>.bad
theorem fM:j9 X (.type "tuple") jB:=by
 intro U s Z H xs us Q I rv ⟨B,ts,hb,r,q⟩;unfold jB at q;split at q
 ·obtain⟨x,e,r⟩:=eM r;obtain⟨a,vs,rfl,h,rr⟩:=r.cY;exact pN U s Z H _ us Q I rv ⟨_,_,e,.inr ⟨h.up,q _ H (au.refl H) (.tup h rr)⟩⟩
 ·obtain⟨x,e,r⟩:=eM r;obtain⟨a,vs,rfl,h,rr⟩:=r.lst_inv;exact pN U s Z H _ us Q I rv ⟨_,_,e,.inl ⟨.of (cZ h),fun p hp=>q _ _ (au.upd hp) (.P9 hb hp rr)⟩⟩
 ·exact q.elim
def v_:Tr->String
 |.bK=>"NoneType"
 |.bl _=>"bool"
 |.int _=>"int"
 |.str _=>"str"
 |.ty _=>"type"
 |.tup _=>"tuple"
 |.lst _=>"list"
 |.mY _=>"list"
 |.bo _=>"dict"
 |.at _=>"object"
 |.ue _=>"dict"
 |.ob _ _=>"object"
 |.yf _=>"object"
def Xs(t:Tr)(c:String):Bool:=v_ t==c||(v_ t=="bool"&&c=="int")
def kinds:List String:=["int","str","bool","tuple","list","dict"]
theorem EC(K:Frag):∀a∈["NoneType","bool","int","str","tuple","list","dict"],∀c∈kinds,PySem.W.kitOne K (.type a) (.type c)=some (a==c||(a=="bool"&&c=="int")):=by
 intro a ha c hc;simp only[kinds,aE,a_,ba]at ha hc;rcases ha with rfl|rfl|rfl|rfl|rfl|rfl|rfl<;>rcases hc with rfl|rfl|rfl|rfl|rfl|rfl<;>first|rfl|(unfold PySem.W.kitOne;exact ag (by decide))
def UN:Tr->Bool
 |.ty _|.at _|.ob _ _|.yf _=>true
 |_=>false
def Qd:List Tr->Rs Tr
 |[t,.ty c]=>if UN t=false/\kinds.contains c=true then .ok (.bl (Xs t c))else .bad
 |_=>.bad
theorem Md{pQ:Addr->Option Nat}{x:V}{t:Tr}{u:Value}{c:String}(I:Inv X U Z H s)(r:Rep X.K (⟨H,pQ⟩:Vw) x t)(h0:UN t=false)(rx:RelV x u)(hc:c∈kinds)(h:∀tk,Q (.bool (Xs t c)) {s with toks:=tk}):
  wpAny (model X.prog X.w) A (call (.builtin "isinstance") [u,.type c]) Q E s:=by
 have Me:=fun a ha=>EC X.K a ha c hc;cases r with
 |bK=>exact lx I rx .bK (Me _ (by decide)) h
 |bl b=>exact lx I rx (.bl b) (Me _ (by decide)) h
 |int i=>exact lx I rx (.int i) (Me _ (by decide)) h
 |str z hz=>exact lx I rx (.str z) (Me _ (by decide)) h
 |ty n=>cases h0
 |«at» h=>cases h0
 |ob h e rr=>cases h0
 |yf h c=>cases h0
 |@ue a kvs aG hq e rr=>
  cases(show u=Value.ref a from rx);obtain⟨_,_,xs,_,o,es,ep,h1,h2,_⟩:=(show ck X.prog X.w H s.heap a (.dT kvs)from I.cj a _ hq);exact dD qV I.kn ⟨o,h1,h2.1⟩ (Me "dict" (by decide)) (fun z=>nomatch z) h
 |@tup a vs ts hq rr=>
  cases(show u=Value.ref a from rx);obtain⟨bz,rv,⟨o,h1,h2,_⟩,_⟩:=I.tuple hq;exact dD PySem.W.kitx_tuple I.kn ⟨o,h1,h2⟩ (Me "tuple" (by decide)) (fun z=>nomatch z) h
 |lst hq rr=>exact lx I rx (.lst hq) (Me _ (by decide)) h
 |@mY a ns hq=>
  cases(show u=Value.ref a from rx);obtain⟨bz,rv,⟨o,n,h1,h2,_⟩,_⟩:=I.list hq;exact dD vh I.kn ⟨o,h1,h2⟩ (Me "list" (by decide)) (fun z=>nomatch z) h
 |@bo a kvs aG hq e rr=>
  cases(show u=Value.ref a from rx);obtain⟨_,_,vs,_,p⟩:=(show ck X.prog X.w H s.heap a (.dK kvs)from hq.ok I.cj);obtain⟨o,es,ep,h1,h2,_⟩:=p;exact dD qV I.kn ⟨o,h1,h2.1⟩ (Me "dict" (by decide)) (fun z=>nomatch z) h
theorem yn:j9 X (.builtin "isinstance") Qd:=by
 intro U s Z H xs us Q I rv ⟨B,ts,hb,r,q⟩;unfold Qd at q;split at q
 ·obtain⟨⟨h0,h1⟩,k⟩:=fY q;obtain⟨x,y,rfl,r1,r2⟩:=yh r;obtain⟨v,u,rfl,v1,v2⟩:=vals2 rv;cases r2;cases v2;exact Md I r1.up h0 v1 (by simpa using h1) fun tk=>⟨.bl _,H,I.tok _,rfl,k _ H (au.refl H) (.bl _)⟩
 ·exact q.elim
variable {name:Str}{bh:Pos}{id:String}{h:Str->List Tr->Rs Tr}
end
section
variable {a:Expr}
def Qe:Tr->Rs Tr
 |.int i=>.ok (.int (-i))
 |_=>.bad
theorem UO(ha:PE X a (tP X F)):PE X (.UnaryOp .USub a pos) (tP X fun Y=>(F Y).bind Qe):=
 (TB O6 ha).weak fun Z H Q ⟨B,Y,hb,r,q⟩=>⟨B,Y,hb,r,q.bind.mono fun t qt v H' s' r'=>by
  cases r' with
  |int i=>exact⟨i,rfl,qt _ H' s' (.int _)⟩
  |_=>exact fe qt⟩
end
theorem dH{k:Nat}(hr:cp k A):A.units+40<cLine:=by have:=hr.units;omega
def qG(n m:Nat)(G:aQ->Rs Out)(ts:List Tr):Rs Tr:=if ts.length=n then dn (G (startT m ts))else .bad
theorem Mf{n m:Nat}{G:aQ->Rs Out}{t:Tr}(h:qG n m G ts=.ok t):ts.length=n:=by
 unfold qG at h;split at h
 ·assumption
 ·cases h
theorem Qg{n m:Nat}{G:aQ->Rs Out}{t:Tr}(h:qG n m G ts=.ok t):dn (G (startT m ts))=.ok t:=by
 unfold qG at h;split at h
 ·exact h
 ·cases h
def kz(aG:List (Key×Tr))(k:Key)(t:Tr):List (Key×Tr):=
 if(aG.any fun kv=>decide (kv.1=k))=true then aG.map (fun kv=>if kv.1=k then(kv.1,t)else kv)else aG++[(k,t)]
def kA(aG more:List (Key×Tr)):List (Key×Tr):=more.foldl (fun acc kv=>kz acc kv.1 kv.2) aG
structure cU(K:Frag)(H:Vw)(kvs:List (Key×V))(aG:List (Key×Tr)):Prop where
 keys:kvs.map (·.1)=aG.map (·.1)
 vals:aV K H (kvs.map (·.2)) (aG.map (·.2))
section
variable {H H':Vw}
theorem cU.nil:cU K H [] []:=⟨rfl,.nil⟩
theorem cU.same {kvs:List (Key×V)}{aG:List (Key×Tr)}(s:dv H H')(h:cU K H kvs aG):cU K H' kvs aG:=⟨h.keys,h.vals.same s⟩
theorem cU.cons {k:Key}{v:V}{t:Tr}{kvs:List (Key×V)}{aG:List (Key×Tr)}(r:Rep K H v t)(h:cU K H kvs aG):cU K H ((k,v)::kvs) ((k,t)::aG):=⟨by rw[aO,aO,h.keys],.cons r h.vals⟩
theorem cU.inv {k:Key}{v:V}{kvs:List (Key×V)}{aG:List (Key×Tr)}(h:cU K H ((k,v)::kvs) aG):∃t r,aG=(k,t)::r/\Rep K H v t/\cU K H kvs r:=by
 obtain⟨e,r⟩:=h
 match aG,e,r with
 |(k2,t)::c7,e,r=>
  rw[aO,aO]at e;injection e with e1 e2
  have L8:k=k2:=e1;subst L8;cases r with
  |cons h1 h2=>exact⟨t,c7,rfl,h1,e2,h2⟩
theorem cU.any (k:Key):∀{kvs:List (Key×V)} {aG:List (Key×Tr)},cU K H kvs aG->(kvs.any fun kv=>decide (kv.1=k))=aG.any fun kv=>decide (kv.1=k)
 |[],aG,h=>by
  have e:=h.keys;cases aG with
  |nil=>rfl
  |cons a b=>cases e
 |(j,v)::kvs,aG,h=>by
  obtain⟨t,r,rfl,_,h2⟩:=h.inv;rw[hJ,hJ,cU.any k h2]
theorem cU.map (k:Key){y:V}{u:Tr}(ry:Rep K H y u):∀{kvs:List (Key×V)} {aG:List (Key×Tr)},cU K H kvs aG->cU K H (kvs.map fun kv=>if kv.1=k then(kv.1,y)else kv) (aG.map fun kv=>if kv.1=k then(kv.1,u)else kv)
 |[],aG,h=>by
  have e:=h.keys;cases aG with
  |nil=>exact .nil
  |cons a b=>cases e
 |(j,v)::kvs,aG,h=>by
  obtain⟨t,r,rfl,h1,h2⟩:=h.inv;rw[aO,aO];by_cases e:j=k
  ·rw[ag (show(j,v).1=k from e),ag (show(j,t).1=k from e)];exact .cons ry (cU.map k ry h2)
  ·rw[ak (show¬(j,v).1=k from e),ak (show¬(j,t).1=k from e)];exact .cons h1 (cU.map k ry h2)
theorem cU.snoc (k:Key){y:V}{u:Tr}(ry:Rep K H y u):∀{kvs:List (Key×V)} {aG:List (Key×Tr)},cU K H kvs aG->cU K H (kvs++[(k,y)]) (aG++[(k,u)])
 |[],aG,h=>by
  have e:=h.keys;cases aG with
  |nil=>exact .cons ry .nil
  |cons a b=>cases e
 |(j,v)::kvs,aG,h=>by
  obtain⟨t,r,rfl,h1,h2⟩:=h.inv;exact .cons h1 (cU.snoc k ry h2)
theorem cU.put (k:Key){y:V}{u:Tr}(ry:Rep K H y u){kvs:List (Key×V)}{aG:List (Key×Tr)}(h:cU K H kvs aG):cU K H (putK kvs k y) (kz aG k u):=by
 unfold putK kz;rw[h.any k];by_cases e:(aG.any fun kv=>decide (kv.1=k))=true
 ·rw[ag e,ag e];exact h.map k ry
 ·rw[ak e,ak e];exact h.snoc k ry
theorem cU.merge:∀{more:List (Key×V)} {C9:List (Key×Tr)} {kvs:List (Key×V)} {aG:List (Key×Tr)},cU K H more C9->cU K H kvs aG->cU K H (gS kvs more) (kA aG C9)
 |[],C9,kvs,aG,h,q=>by
  have e:=h.keys;cases C9 with
  |nil=>exact q
  |cons a b=>cases e
 |(k,v)::more,C9,kvs,aG,h,q=>by
  obtain⟨t,r,rfl,h1,h2⟩:=h.inv;exact cU.merge (more:=more) (C9:=r) h2 (q.put k h1)
end
theorem bL.bar {Y:aQ}{p:Addr}{o:HO}(h:bL K B H Z Y)(hp:H p=none):bL K (lE B p) (upd H p o) Z Y:=by
 refine⟨h.len,fun i t e=>?_,fun i ts e=>?_,h.ap⟩
 ·obtain⟨v,e1,r⟩:=h.sh i t e;exact⟨v,e1,r.same (jA hp)⟩
 ·obtain⟨D,ys,e1,e2,e3,r⟩:=h.ow i ts e;exact⟨D,ys,e1,Eu.hd _ e2,by rw[ay (aY e3 hp)];exact e3,r.same (jA hp)⟩
def N6(k v:Rs Tr)(r:Rs (List (Tr×Tr))):Rs (List (Tr×Tr)):=k.bind fun x=>v.bind fun y=>r.bind fun ps=>.ok ((x,y)::ps)
def wa:List (Tr×Tr)->Rs (List (Key×Tr))
 |[]=>.ok []
 |(k,t)::r=>(mM (i7 k)).bind fun k=>(wa r).bind fun l=>.ok ((k,t)::l)
def UP(r:Rs (List (Tr×Tr))):Rs Tr:=r.bind fun ps=>if ps.length<=15 then(wa ps).bind fun aG=>.ok (.bo (kA [] aG))else .bad
inductive wb(K:Frag)(H:Vw):List (V×V)->List (Tr×Tr)->Prop where
 |nil:wb K H [] []
 |cons {x y:V} {t u:Tr} {ps:List (V×V)} {qs:List (Tr×Tr)} (h1:Rep K H x t) (h2:Rep K H y u) (r:wb K H ps qs):wb K H ((x,y)::ps) ((t,u)::qs)
theorem wb.length {H:Vw}{ps:List (V×V)}{qs:List (Tr×Tr)}(h:wb K H ps qs):ps.length=qs.length:=by
 induction h with
 |nil=>rfl
 |cons _ _ _ ih=>rw[cG,cG,ih]
theorem yo{X:Cx}{H:Vw}{H0:Hp}{k:List (Key×Tr)->Prop}{ps:List (V×V)}{qs:List (Tr×Tr)}(h:wb K H ps qs):Fi X H0 (wa qs) k->∃kvs aG,k aG/\ps=kvs.map (fun kv=>(kV kv.1,kv.2))/\cU K H kvs aG:=by
 induction h generalizing k with
 |nil=>exact fun q=>⟨[],[],q,rfl,.nil⟩
 |cons h1 h2 r ih=>
  intro q;obtain⟨key,ek,q1⟩:=fc (Fi.bind q);obtain⟨kvs,aG,k1,e1,rd⟩:=ih (Fi.bind q1);have e:=mf h1 ek;subst e;exact⟨(key,_)::kvs,_,k1,by rw[aO,e1],.cons h2 rd⟩
section
variable {a f:Expr}{bh:Pos}{E:aQ->Rs Tr}{keys:List (Option Expr)}{vals:List Expr}{P:aQ->Rs (List (Tr×Tr))}
structure QP(X:Cx)(pos:Pos)(keys:List (Option Expr))(vals:List Expr)(P:aQ->Rs (List (Tr×Tr))):Prop where
 h:∃za,SE X pos keys vals za/\∀Z H Q,(∃B Y,HB B H/\bL X.K B H Z Y/\Fi X H (P Y) fun Qh=>∀Mg H',au H H'->wb X.K (bq B H') Mg Qh->Q Mg H')->vM za Z H Q
theorem N7:QP X pos [] [] fun _=>.ok []:=⟨[],Eh,fun Z H Q ⟨B,Y,hb,r,q⟩=>q [] H (au.refl H) .nil⟩
theorem wb.same {H H':Vw}(s:dv H H'){ps:List (V×V)}{qs:List (Tr×Tr)}(h:wb K H ps qs):wb K H' ps qs:=by
 induction h with
 |nil=>exact .nil
 |cons h1 h2 r ih=>exact .cons (h1.same s) (h2.same s) ih
theorem Mh{k v:Expr}(hk:PE X k (tP X F))(hv:PE X v (tP X G))(hr:QP X pos keys vals P):QP X pos (some k::keys) (v::vals) fun Y=>N6 (F Y) (G Y) (P Y):=by
 obtain⟨za,h1,h2⟩:=hr.h;refine⟨_,AQ hk hv h1,fun Z H Q ⟨B,Y,hb,r,q⟩=>?_⟩;refine⟨B,Y,hb,r,q.bind.mono fun x qx u H1 s1 r1=>⟨B,Y,hb.same s1,r.same s1,(qx.bind.same s1).mono fun y qy w H2 s2 r2=>h2 _ _ _ ⟨B,Y,hb.same (s1.trans s2),r.same (s1.trans s2),(qy.bind.same (s1.trans s2)).mono fun ps qp Mg H3 s3 r3=>?_⟩⟩⟩;exact qp _ H3 ((s1.trans s2).trans s3) (.cons (r1.same (aR (s2.trans s3))) (r2.same (aR s3)) r3)
theorem Qi(h:QP X pos keys vals P)(sV:keys.all (·.isSome)=true:=by rfl) (hl:keys.length=vals.length:=by rfl) (h0:keys.isEmpty=false:=by rfl) (LF:keys.length<=15:=by decide):PE X (.Dict keys vals pos) (tP X fun Y=>UP (P Y)):=by
 obtain⟨za,h1,h2⟩:=h.h;refine(Ei h1 sV hl (fun z=>by rw[z]at h0;cases h0) LF).weak fun Z H Q ⟨B,Y,hb,r,q⟩ p hp=>?_
 refine h2 Z _ _ ⟨lE B p,Y,Et hb hp,r.bar hp,(q.bind.same (au.upd hp)).mono fun Qh qp Mg H2 s2 r2=>?_⟩;by_cases hz:Qh.length<=15
 ·rw[ag hz]at qp;obtain⟨kvs,aG,k1,e1,rd⟩:=yo r2 (Fi.bind qp);refine⟨s2 _ _ aU,kvs,e1,?_,?_⟩
  ·have e2:=cw List.length e1;rw[aC,r2.length]at e2;rw[<-e2];exact hz
  ·have hBp:=hb.free hp;have rm:=(cU.merge rd cU.nil);refine k1 _ _ (((au.upd hp).trans s2).AS hp) (.bo (.inl (by rw[fm hBp];exact aU)) rm.keys (rm.vals.same ?_));have e3:bq (lE B p) (upd H2 p (.dK (gS [] kvs)))=bq (lE B p) H2:=r_;rw[<-e3];exact AZ
 ·rw[ak hz]at qp;exact fe qp
def IF(a b:Rs Tr):Rs Tr:=a.bind fun x=>match x with
 |.bo aG=>b.bind fun y=>(mM (i7 y)).bind fun k=>.ok ((dt aG k).getD .bK)
 |_=>.bad
def N8(a b c:Rs Tr):Rs Tr:=a.bind fun x=>match x with
 |.bo aG=>b.bind fun y=>c.bind fun z=>(mM (i7 y)).bind fun k=>.ok ((dt aG k).getD z)
 |_=>.bad
theorem N9{m:Str}(hb:isCall o=false)(bH:aH [e]=true)(hl:(b6.endLine==bh.line)=true):M1 X o m b6 e bh:=
 ⟨e_ hb,by rw[ir bH];rfl,hl,by rw[aS _ _ (az bH).1,starEach];rfl⟩
theorem N_{m:Str}(hb:isCall o=false)(bH:aH [e,f]=true)(hl:(b6.endLine==bh.line)=true):M2 X o m b6 e f bh:=
 ⟨e_ hb,by rw[ir bH];rfl,hl,by rw[aS _ _ (az bH).1,aS _ _ (az (az bH).2).1,starEach];rfl⟩
theorem ED{a:Addr}{y:V}{ov:Option V}(g:nV (bq B H) a y ov):nV H a y ov:=by
 rcases g with⟨kvs,k,e1,e2,e3⟩|⟨kvs,k,b,e1,e2,e3,e4⟩
 ·exact .inl ⟨kvs,k,e1.same aT,e2,e3⟩
 ·exact .inr ⟨kvs,k,b,e1.same aT,e2,aT _ _ e3,e4⟩
theorem Qj(hu:X.A.units+1<cLine)(ho:PE X o (tP X F))(he:PE X e (tP X G))(hb:isCall o=false:=by rfl) (bH:aH [e]=true:=by rfl) (hl:(b6.endLine==bh.line)=true:=by rfl):PE X (.Call (.Attribute o "get" b6) [e] [] bh) (tP X fun Y=>IF (F Y) (G Y)):=
 (Ia hu ho he (N9 hb bH hl)).weak fun Z H Q ⟨B,Y,hb,r,q⟩=>⟨B,Y,hb,r,q.bind.mono fun x qx v H1 s1 r1=>by
  split at qx
  ·obtain⟨_,_,rfl,h,e,rr⟩:=r1.md;refine⟨_,rfl,.inl ⟨_,h.same aT⟩,B,Y,hb.same s1,r.same s1,(Fi.bind qx|>.same s1).mono fun y qy w H2 s2 r2=>?_⟩;obtain⟨k,ek,qk⟩:=fc (Fi.bind qy);obtain⟨ov,g,ho⟩:=v8 (Rd.same (aR s2).h h) e (rr.same (aR s2)) r2 ek;refine⟨ov,ED g,qk _ H2 (s1.trans s2) ?_⟩;rcases ho with⟨h1,rfl⟩|⟨t,w',h1,rfl,h3⟩
   ·rw[h1];exact .bK
   ·rw[h1];exact h3
  ·exact qx.elim⟩
theorem Qk(hu:X.A.units+1<cLine)(ho:PE X o (tP X F))(he:PE X e (tP X G))(hf:PE X f (tP X E))(hb:isCall o=false:=by rfl) (bH:aH [e,f]=true:=by rfl) (hl:(b6.endLine==bh.line)=true:=by rfl):PE X (.Call (.Attribute o "get" b6) [e,f] [] bh) (tP X fun Y=>N8 (F Y) (G Y) (E Y)):=
 (Ib hu ho he hf (N_ hb bH hl)).weak fun Z H Q ⟨B,Y,hb,r,q⟩=>⟨B,Y,hb,r,q.bind.mono fun x qx v H1 s1 r1=>by
  split at qx
  ·obtain⟨_,_,rfl,h,e,rr⟩:=r1.md;refine⟨_,rfl,.inl ⟨_,h.same aT⟩,B,Y,hb.same s1,r.same s1,(Fi.bind qx|>.same s1).mono fun y qy w H2 s2 r2=>⟨B,Y,hb.same (s1.trans s2),r.same (s1.trans s2),(Fi.bind qy|>.same (s1.trans s2)).mono fun z qz w3 H3 s3 r3=>?_⟩⟩;obtain⟨k,ek,qk⟩:=fc (Fi.bind qz);obtain⟨ov,g,ho⟩:=v8 (Rd.same (aR (s2.trans s3)).h h) e (rr.same (aR (s2.trans s3))) (r2.same (aR s3)) ek;refine⟨ov,ED g,qk _ H3 ((s1.trans s2).trans s3) ?_⟩;rcases ho with⟨h1,rfl⟩|⟨t,w',h1,rfl,h3⟩
   ·rw[h1];exact r3
   ·rw[h1];exact h3
  ·exact qx.elim⟩
def zp(K:Frag)(w:World)(mg:Str->Option Value)(x:Str)(aG:List (Str×Tr)):Prop:=
 ∃a kvs,mg x=some (.ref a)/\AV K w a kvs/\∀z,(valueAt kvs z=none/\aG.lookup z=none)\/∃u v t,valueAt kvs z=some u/\RelV v u/\aG.lookup z=some t/\∀H,Rep K H v t
def Ql(aG:List (Str×Tr)):Tr->Rs Tr
 |.str z=>mM (aG.lookup z)
 |_=>.bad
variable {aG:List (Str×Tr)}
theorem UQ(g:zp X.K X.w X.mg x aG)(ha:PE X a (tP X F))(hg:Gl X x:=by rfl) (hd:Db x:=by decide) (hs:LB a:=by exact fun _ _=>rfl):PE X (.Subscript (.Name x p) a pos) (tP X fun Y=>(F Y).bind (Ql aG)):=by
 obtain⟨ad,kvs,hm,D,hz⟩:=g;refine(Il (y4 (v:=.ref ad) hg hm rfl hd) ha hs).weak fun Z H Q ⟨B,Y,hb,r,q⟩=>?_
 refine⟨B,Y,hb,r,q.bind.mono fun t qt v H1 s1 r1=>?_⟩;unfold Ql at qt;split at qt
 ·rename_i z;obtain⟨t,et,k⟩:=fc qt;rcases hz z with⟨h1,h2⟩|⟨u,v,t',h1,h3,h2,h4⟩
  ·cases et.symm.trans h2
  ·cases et.symm.trans h2;exact⟨ad,z,kvs,u,v,rfl,r1.str_inv.1,D,h1,h3,k v H1 s1 (h4 _)⟩
 ·exact qt.elim
def Gb:List Tr->Rs (List Bool)
 |[]=>.ok []
 |.bl b::ts=>(Gb ts).bind fun zs=>.ok (b::zs)
 |_=>.bad
theorem EE{H:Vw}{H0:Hp}{k:List Bool->Prop}:∀{ts:List Tr} {vs:List V},aV K H vs ts->Fi X H0 (Gb ts) k->∃bs,k bs/\vs=bs.map V.bl
 |[],_,r,q=>by cases r;exact⟨[],q,rfl⟩
 |t::ts,_,r,q=>by
  cases r with
  |cons h r=>
   cases h with
   |bl b=>
    obtain⟨bs,k1,e⟩:=EE (k:=fun zs=>k (b::zs)) r (Fi.bind q);exact⟨b::bs,k1,by rw[e];rfl⟩
   |_=>exact fe q
def Mi:List Tr->Rs Tr
 |[.lst ts]=>(Gb ts).bind fun bs=>.ok (.bl (bs.all id))
 |_=>.bad
theorem UR(hc:X.calm=true):j9 X (.builtin "all") Mi:=by
 intro U s Z H xs us Q I rv ⟨B,ts,hb,r,q⟩;unfold Mi at q;split at q
 ·obtain⟨x,rfl,h⟩:=eM r;obtain⟨a,vs,rfl,hl,rr⟩:=h.lst_inv;obtain⟨bs,k,rfl⟩:=EE rr (Fi.bind q);exact Ik hc U s Z H _ us Q I rv ⟨_,bs,rfl,.of (cZ hl),k _ H (au.refl H) (.bl _)⟩
 ·exact fe q
end
inductive C_(K:Frag)(w:World):List DictEntry->List (Str×Value)->List (Str×Tr)->Prop
 |nil:C_ K w [] [] []
 |cons {z:Str} {t:Tok} {v:V} {u:Value} {tr:Tr} {es:List DictEntry} {kvs:List (Str×Value)} {aG:List (Str×Tr)}:RelV v u->(∀H,Rep K H v tr)->C_ K w es kvs aG->
   C_ K w (⟨PyData.keyHash w.params z,.str z t,u⟩::es) ((z,u)::kvs) ((z,tr)::aG)
variable {es:List DictEntry}{kvs:List (Str×Value)}{aG:List (Str×Tr)}
theorem C_.keys (prog:Program)(h:C_ K w es kvs aG):∀e∈es,∃k,(PySem.strKind prog w).is k e.key=true/\e.hash=(PySem.strKind prog w).hash k:=by
 induction h with
 |nil=>intro e he;cases he
 |@cons z t v u tr es kvs aG _ _ _ ih=>
  intro e he;rcases aE.mp he with rfl|he
  ·exact⟨z,by simp[PySem.strKind,Value.isStrOf],rfl⟩
  ·exact ih e he
theorem C_.pairs (prog:Program)(h:C_ K w es kvs aG):Pairs (PySem.strKind prog w) es kvs:=by
 induction h with
 |nil=>exact .nil
 |cons _ _ _ ih=>exact .cons (by simp[PySem.strKind,Value.isStrOf]) rfl ih
theorem C_.at (h:C_ K w es kvs aG)(y:Str):(valueAt kvs y=none/\aG.lookup y=none)\/∃u v t,valueAt kvs y=some u/\RelV v u/\aG.lookup y=some t/\∀H,Rep K H v t:=by
 induction h with
 |nil=>exact .inl ⟨rfl,rfl⟩
 |@cons z t v u tr es kvs aG hr hp _ ih=>
  by_cases e:z=y
  ·subst e;exact .inr ⟨u,v,tr,by simp[valueAt],hr,by simp[List.lookup],hp⟩
  ·have e1:valueAt ((z,u)::kvs) y=valueAt kvs y:=by simp[valueAt,e]
   have e2:List.lookup y ((z,tr)::aG)=aG.lookup y:=by
    have:(y==z)=false:=jU.mpr fun k=>e k.symm;simp[List.lookup,this]
   rw[e1,e2];exact ih
theorem C_.gd {ep:Nat}(h:C_ K w es kvs aG)(hm:mg x=some (.ref a))(hl:K.lookup a=some ⟨.type "dict",none,.dict es.toArray ep,#[]⟩) (hs:(a==sysModules)=false) (hn:(kvs.map (·.1)).Nodup):zp K w mg x aG:=
 ⟨a,kvs,hm,⟨hs,_,_,_,hl,⟨rfl,rfl,rfl⟩,rfl,fun prog=>⟨fun e he=>h.keys prog e (by simpa using he),h.pairs prog,hn⟩⟩,h.at⟩
inductive Ao where
 |lst (ts:List Tr)|bo (aG:List (Key×Tr))|ins (x:Str) (fs:List (Str×Tr))|ue (aG:List (List Key×Tr))|Ar (x:Str)
abbrev Ab:=List Ao
def qg(K:Frag)(B:dG)(H:Hp)(a:Addr):Ao->Prop
 |.lst ts=>B.hd a=true/\∃vs,H a=some (.lst vs)/\aV K (bq B H) vs ts
 |.bo aG=>B.hd a=true/\∃kvs,H a=some (.dK kvs)/\cU K (bq B H) kvs aG
 |.ue aG=>B.hd a=true/\∃kvs,H a=some (.dT kvs)/\kvs.map (·.1)=aG.map (·.1)/\aV K (bq B H) (kvs.map (·.2)) (aG.map (·.2))
 |.ins x fs=>B.hd a=true/\∃dx fW,H a=some (.ins (clsAt K x) dx fW)/\H dx=some (.own a)/\B.ix dx=none/\fW.map (·.1)=fs.map (·.1)/\aV K (bq B H) (fW.map (·.2)) (fs.map (·.2))
 |.Ar x=>B.hd a=true/\∃oe:Obj,H a=some (.ext fun h=>h.get? a=some oe)/\oe.cls=.ref (clsAt K x)
structure HA(K:Frag)(B:dG)(A:Ab)(H:Hp):Prop where
 hb:HB B H
 ob:∀i o,A[i]?=some o->∃a,B.ix a=some i/\qg K B H a o
 inj:∀a b i,B.ix a=some i->B.ix b=some i->a=b
 lt:∀a i,B.ix a=some i->i<A.length
structure Grows(B:dG)(H:Hp)(B':dG)(H':Hp):Prop where
 jk:dv (bq B H) (bq B' H')
 kp:∀b o,B.ix b=none->H b=some o->H' b=some o
 hd:∀b,B.ix b=none->B.hd b=true->B'.hd b=true
 nw:∀b i,B'.ix b=some i->B.ix b=none->H b=none
section
variable {B' B1 B2:dG}{H' H1 H2:Hp}{A:Ab}
theorem qg.same {o:Ao}(h:qg K B H a o)(s:au H H'):qg K B H' a o:=by
 cases o with
 |lst ts=>obtain⟨h0,vs,h1,h2⟩:=h;exact⟨h0,vs,s _ _ h1,h2.same (aR s)⟩
 |bo aG=>obtain⟨h0,vs,h1,h2⟩:=h;exact⟨h0,vs,s _ _ h1,h2.same (aR s)⟩
 |ue aG=>obtain⟨h0,vs,h1,h2,h3⟩:=h;exact⟨h0,vs,s _ _ h1,h2,h3.same (aR s)⟩
 |Ar x=>obtain⟨h0,oe,h1,h2⟩:=h;exact⟨h0,oe,s _ _ h1,h2⟩
 |ins c fs=>obtain⟨h0,dx,fW,h1,h2,h3,h4,h5⟩:=h;exact⟨h0,dx,fW,s _ _ h1,s _ _ h2,h3,h4,h5.same (aR s)⟩
theorem qg.hd {o:Ao}(h:qg K B H a o):B.hd a=true:=by cases o<;>exact h.1
theorem qg.mem {o:Ao}(h:qg K B H a o):∃x,H a=some x/\(∀vs,x≠ .tup vs)/\∀ob u,x≠ .jO ob u:=by
 cases o with
 |lst ts=>obtain⟨h0,vs,h1,h2⟩:=h;exact⟨_,h1,(fun _ e=>by cases e),(fun _ _ e=>by cases e)⟩
 |bo aG=>obtain⟨h0,vs,h1,h2⟩:=h;exact⟨_,h1,(fun _ e=>by cases e),(fun _ _ e=>by cases e)⟩
 |ue aG=>obtain⟨h0,vs,h1,h2⟩:=h;exact⟨_,h1,(fun _ e=>by cases e),(fun _ _ e=>by cases e)⟩
 |Ar x=>obtain⟨h0,oe,h1,h2⟩:=h;exact⟨_,h1,(fun _ e=>by cases e),(fun _ _ e=>by cases e)⟩
 |ins c fs=>obtain⟨h0,dx,fW,h1,h2⟩:=h;exact⟨_,h1,(fun _ e=>by cases e),(fun _ _ e=>by cases e)⟩
theorem HA.same (h:HA K B A H)(s:au H H'):HA K B A H':=
 ⟨h.hb.same s,fun i o e=>by obtain⟨a,h1,h2⟩:=h.ob i o e;exact⟨a,h1,h2.same s⟩,h.inj,h.lt⟩
theorem HA.get (h:HA K B A H){i:Nat}{o:Ao}(e:B.ix a=some i)(q:A[i]?=some o):qg K B H a o:=by
 obtain⟨b,h1,h2⟩:=h.ob i o q;rw[h.inj a b i e h1];exact h2
theorem HA.ex (h:HA K B A H){i:Nat}(e:B.ix a=some i):∃o,A[i]?=some o/\qg K B H a o:=by
 have l:=h.lt a i e;exact⟨A[i],bb l,h.get e (bb l)⟩
theorem HA.free (h:HA K B A H){p:Addr}(hp:H p=none):B.ix p=none:=by
 cases e:B.ix p with
 |none=>rfl
 |some i=>
  obtain⟨o,_,q⟩:=h.ex e;obtain⟨x,e2,_⟩:=q.mem;rw[hp]at e2;cases e2
theorem Grows.of (s:au H H'):Grows B H B H':=⟨aR s,fun b o _ e=>s b o e,fun _ _ e=>e,fun b i e n=>by rw[n]at e;cases e⟩
theorem Grows.refl:Grows B H B H:=.of (au.refl H)
theorem Grows.trans (hb:HB B H)(a:Grows B H B1 H1)(b:Grows B1 H1 B2 H2):Grows B H B2 H2:=by
 have key:∀c,B.ix c=none->(∃o,H c=some o)->B1.ix c=none:=fun c n ⟨o,e⟩=>by
  cases q:B1.ix c with
  |none=>rfl
  |some i=>have:=a.nw c i q n;rw[e]at this;cases this
 refine⟨a.jk.trans b.jk,fun c o n e=>b.kp c o (key c n ⟨o,e⟩) (a.kp c o n e),fun c n e=>?_,fun c i e n=>?_⟩
 ·exact b.hd c (key c n (hb c e)) (a.hd c n e)
 ·cases q:B1.ix c with
  |none=>
   have:=b.nw c i e q;cases q2:H c with
   |none=>rfl
   |some o=>rw[a.kp c o n q2]at this;cases this
  |some j=>exact a.nw c j q n
def n6(B:dG)(p:Addr)(i:Nat):dG:=⟨fun b=>B.hd b||b==p,fun b=>if b=p then some i else B.ix b⟩
theorem o8{p:Addr}:(n6 B p i).hd p=true:=by show(B.hd p||p==p)=true;rw[bA,Bool.or_true]
theorem gs{p:Addr}:(n6 B p i).ix p=some i:=ag rfl
theorem gu{p b:Addr}(h:b≠p):(n6 B p i).ix b=B.ix b:=ak h
theorem sf{p b:Addr}(h:b≠p):(n6 B p i).hd b=B.hd b:=by show(B.hd b||b==p)=_;rw[iW h,rj]
theorem IG{p:Addr}(hp:H p=none)(hx:B.ix p=none)(s:au H H'):dv (bq B H) (bq (n6 B p i) H'):=⟨fun b u e=>by
 have e1:=aT b u e;have fT:b≠p:=aY e1 hp;have hB:B.hd b=false:=by
  cases q:B.hd b with
  |false=>rfl
  |true=>
   have e2:(if B.hd b=true then none else H b)=some u:=e;rw[q,ag rfl]at e2;cases e2
 rw[fm (by rw[sf fT];exact hB)];exact s b u e1,fun b j e=>by
 have fT:b≠p:=fun z=>by rw[z]at e;rw[show(bq B H).ix p=B.ix p from rfl,hx]at e;cases e
 show(n6 B p i).ix b=some j;rw[gu fT];exact e⟩
theorem HA.push {p:Addr}{o:Ao}(h:HA K B A H)(hp:H p=none)(s:au H H')(ho:qg K (n6 B p A.length) H' p o):Grows B H (n6 B p A.length) H'/\HA K (n6 B p A.length) (A++[o]) H':=by
 have hx:=h.free hp;have jk:dv (bq B H) (bq (n6 B p A.length) H'):=IG hp hx s;have up:∀{a:Addr} {u:Ao},a≠p->qg K B H a u->qg K (n6 B p A.length) H' a u:=fun{a u} fT q=>by
  have e0:(n6 B p A.length).hd a=true:=by rw[sf fT];exact q.hd
  cases u with
  |lst ts=>obtain⟨h0,vs,h1,h2⟩:=q;exact⟨e0,vs,s _ _ h1,h2.same jk⟩
  |bo aG=>obtain⟨h0,vs,h1,h2⟩:=q;exact⟨e0,vs,s _ _ h1,h2.same jk⟩
  |ue aG=>obtain⟨h0,vs,h1,h2,h3⟩:=q;exact⟨e0,vs,s _ _ h1,h2,h3.same jk⟩
  |Ar x=>obtain⟨h0,oe,h1,h2⟩:=q;exact⟨e0,oe,s _ _ h1,h2⟩
  |ins c fs=>
   obtain⟨h0,dx,fW,h1,h2,h3,h4,h5⟩:=q;exact⟨e0,dx,fW,s _ _ h1,s _ _ h2,by rw[gu (aY h2 hp)];exact h3,h4,h5.same jk⟩
 refine⟨⟨jk,fun b u _ e=>s b u e,fun b _ e=>?_,fun b i e n=>?_⟩,⟨fun b e=>?_,fun i u e=>?_,fun a b i e1 e2=>?_,fun a i e=>?_⟩⟩
 ·show(B.hd b||b==p)=true;rw[e,Bool.true_or]
 ·by_cases q:b=p
  ·rw[q];exact hp
  ·rw[gu q,n]at e;cases e
 ·by_cases q:b=p
  ·rw[q];obtain⟨x,e2,_⟩:=ho.mem;exact⟨x,e2⟩
  ·rw[sf q]at e;obtain⟨x,e2⟩:=h.hb b e;exact⟨x,s _ _ e2⟩
 ·by_cases q:i<A.length
  ·rw[m7 q]at e;obtain⟨a,e1,e2⟩:=h.ob i u e;have fT:a≠p:=fun z=>by rw[z,hx]at e1;cases e1
   exact⟨a,by rw[gu fT];exact e1,up fT e2⟩
  ·rw[u3 (Nat.le_of_not_lt q)]at e;have hi:i - A.length=0:=by
    cases z:i - A.length with
    |zero=>rfl
    |succ k=>rw[z]at e;cases e
   rw[hi]at e;cases e;have:i=A.length:=by omega
   subst this;exact⟨p,gs,ho⟩
 ·by_cases q1:a=p
  ·by_cases q2:b=p
   ·rw[q1,q2]
   ·rw[q1,gs]at e1;cases e1;rw[gu q2]at e2;exact absurd (h.lt b _ e2) (dm _)
  ·by_cases q2:b=p
   ·rw[q2,gs]at e2;cases e2;rw[gu q1]at e1;exact absurd (h.lt a _ e1) (dm _)
   ·rw[gu q1]at e1;rw[gu q2]at e2;exact h.inj a b i e1 e2
 ·rw[cD,List.length_singleton];by_cases q:a=p
  ·rw[q,gs]at e;cases e;exact nq _
  ·rw[gu q]at e;exact jX (h.lt a i e)
theorem hW{u:HO}(h:B.hd a=true):bq B (upd H a u)=bq B H:=by
 unfold bq;congr 1;funext b;by_cases q:b=a
 ·subst q;rw[ag h,ag h]
 ·rw[ay q]
theorem HA.write {o:Ao}{u:HO}(h:HA K B A H)(e:B.ix a=some i)(ho:qg K B (upd H a u) a o):Grows B H B (upd H a u)/\HA K B (A.set i o) (upd H a u):=by
 have hd:B.hd a=true:=ho.hd;have hv:bq B (upd H a u)=bq B H:=hW hd;refine⟨⟨by rw[hv];exact dv.refl _,fun b x n q=>?_,fun _ _ q=>q,fun b j q n=>by rw[n]at q;cases q⟩,⟨fun b q=>?_,fun j x q=>?_,h.inj,fun b j q=>by rw[ju];exact h.lt b j q⟩⟩
 ·have fT:b≠a:=fun z=>by rw[z,e]at n;cases n
  rw[ay fT];exact q
 ·by_cases z:b=a
  ·subst z;exact⟨u,aU⟩
  ·rw[ay z];exact h.hb b q
 ·rcases d6 q with⟨rfl,_,rfl⟩|⟨zd,q⟩
  ·exact⟨a,e,ho⟩
  ·obtain⟨b,e1,e2⟩:=h.ob j x q;have fT:b≠a:=fun z=>by rw[z,e]at e1;cases e1;exact zd rfl
   refine⟨b,e1,?_⟩;cases x with
   |lst ts=>obtain⟨h0,vs,h1,h2⟩:=e2;exact⟨h0,vs,by rw[ay fT];exact h1,by rw[hv];exact h2⟩
   |bo aG=>obtain⟨h0,vs,h1,h2⟩:=e2;exact⟨h0,vs,by rw[ay fT];exact h1,by rw[hv];exact h2⟩
   |ue aG=>obtain⟨h0,vs,h1,h2,h3⟩:=e2;exact⟨h0,vs,by rw[ay fT];exact h1,h2,by rw[hv];exact h3⟩
   |Ar x=>obtain⟨h0,oe,h1,h2⟩:=e2;exact⟨h0,oe,by rw[ay fT];exact h1,h2⟩
   |ins c fs=>
    obtain⟨h0,dx,fW,h1,h2,h3,h4,h5⟩:=e2;have YX:dx≠a:=fun z=>by rw[z,e]at h3;cases h3
    exact⟨h0,dx,fW,by rw[ay fT];exact h1,by rw[ay YX];exact h2,h3,h4,by rw[hv];exact h5⟩
end
mutual
def uA:Tr->Bool
 |.at _=>false
 |.tup ts=>gK ts
 |.lst ts=>gK ts
 |.bo aG=>EF aG
 |.ue aG=>EG aG
 |.ob _ fs=>EH fs
 |_=>true
def gK:List Tr->Bool
 |[]=>true
 |t::ts=>uA t&&gK ts
def EF:List (Key×Tr)->Bool
 |[]=>true
 |p::r=>Oa p&&EF r
def Oa:Key×Tr->Bool
 |(_,t)=>uA t
def EG:List (List Key×Tr)->Bool
 |[]=>true
 |p::r=>Ob p&&EG r
def Ob:List Key×Tr->Bool
 |(_,t)=>uA t
def EH:List (Str×Tr)->Bool
 |[]=>true
 |p::r=>Oc p&&EH r
def Oc:Str×Tr->Bool
 |(_,t)=>uA t
end
theorem yp:∀(aG:List (Key×Tr)),EF aG=gK (aG.map (·.2))
 |[]=>rfl
 |(k,t)::r=>by rw[EF,Oa,aO,gK,yp r]
theorem yq:∀(aG:List (List Key×Tr)),EG aG=gK (aG.map (·.2))
 |[]=>rfl
 |(k,t)::r=>by rw[EG,Ob,aO,gK,yq r]
theorem yr:∀(aG:List (Str×Tr)),EH aG=gK (aG.map (·.2))
 |[]=>rfl
 |(k,t)::r=>by rw[EH,Oc,aO,gK,yr r]
mutual
def Hl:Tr->Bool
 |.bK=>true
 |.bl _=>true
 |.int _=>true
 |.str _=>true
 |.ty _=>true
 |.at _=>true
 |.tup ts=>mi ts
 |_=>false
def mi:List Tr->Bool
 |[]=>true
 |t::ts=>Hl t&&mi ts
end
def aj:Nat->Ab->Tr->Tr
 |0,_,t=>t
 |n+1,A,.at i=>match A[i]? with
  |some (.lst ts)=>.lst (ts.map (aj n A))
  |some (.bo aG)=>.bo (aG.map fun p=>(p.1,aj n A p.2))
  |some (.ue aG)=>.ue (aG.map fun p=>(p.1,aj n A p.2))
  |some (.ins c fs)=>.ob c (fs.map fun p=>(p.1,aj n A p.2))
  |some (.Ar x)=>.yf x
  |none=>.at i
 |_+1,_,t=>t
def dG.un (B:dG):dG:=⟨fun b=>B.hd b&&(B.ix b).isNone,B.ix⟩
section
variable {B':dG}{H':Hp}{A:Ab}
theorem Od:uf B.un B:=⟨fun b e=>by
 have e':(B.hd b&&(B.ix b).isNone)=true:=e;rw[bf]at e';exact e'.1,fun _ _ e=>e⟩
theorem gU:dv (bq B H) (bq B.un H):=vV Od
theorem EI(h:HB B H):HB B.un H:=fun b e=>h b (Od.hd b e)
theorem Bc(e:B.ix a=some i):(bq B.un H).H a=H a:=fm (by show(B.hd a&&(B.ix a).isNone)=false;rw[e];exact vt _)
theorem n8{W W':Vw}{f:Tr->Tr}(h:∀{v t},Rep K W v t->Rep K W' v (f t)):∀{vs:List V} {ts:List Tr},aV K W vs ts->aV K W' vs (ts.map f)
 |[],_,r=>by cases r;exact .nil
 |_::_,_,r=>by cases r with|cons h1 r=>exact .cons (h h1) (n8 h r)
theorem iu(ha:HA K B A H):∀(n:Nat) {v:V} {t:Tr},Rep K (bq B H) v t->Rep K (bq B.un H) v (aj n A t)
 |0,v,t,r=>by rw[aj];exact r.same gU
 |n+1,v,t,r=>by
  cases r with
  |@«at» a i h=>
   have e:B.ix a=some i:=h;obtain⟨o,q,ao⟩:=ha.ex e;rw[aj,q];cases o with
   |lst ts=>
    obtain⟨h0,vs,h1,h2⟩:=ao;exact .lst (by rw[Bc e];exact h1) (n8 (fun r=>iu ha n r) h2)
   |bo aG=>
    obtain⟨h0,kvs,h1,h2⟩:=ao;refine .bo (.inl (by rw[Bc e];exact h1)) (by rw[h2.keys,bT];rfl) ?_
    have:=n8 (fun r=>iu ha n r) h2.vals;rw[bT]at this⊢;exact this
   |Ar x=>obtain⟨h0,oe,h1,h2⟩:=ao;exact .yf (by rw[Bc e];exact h1) h2
   |ue aG=>
    obtain⟨h0,kvs,h1,h2,h3⟩:=ao;refine .ue (by rw[Bc e];exact h1) (by rw[h2,bT];rfl) ?_
    have:=n8 (fun r=>iu ha n r) h3;rw[bT]at this⊢;exact this
   |ins c fs=>
    obtain⟨h0,dx,fW,h1,h2,h3,h4,h5⟩:=ao;refine .ob (by rw[Bc e];exact h1) (by rw[h4,bT];rfl) ?_
    have:=n8 (fun r=>iu ha n r) h5;rw[bT]at this⊢;exact this
  |bK=>exact .bK
  |bl b=>exact .bl b
  |int i=>exact .int i
  |str z h=>exact .str z h
  |ty m=>exact .ty m
  |mY h=>exact .mY (gU.h.seq h)
  |tup h r=>exact .tup (gU.h.tup h) (r.same gU)
  |lst h r=>exact .lst (gU.h _ _ h) (r.same gU)
  |bo h e r=>exact .bo (h.same gU.h) e (r.same gU)
  |ue h e r=>exact .ue (gU.h _ _ h) e (r.same gU)
  |ob h e r=>exact .ob (gU.h _ _ h) e (r.same gU)
  |yf h c=>exact .yf (gU.h _ _ h) c
theorem Qm(ha:HA K B A H){x:HO}(e:(bq B.un H).H a=some x)(hx:(∃vs,x=.tup vs)\/∃o u,x=.jO o u):(bq B H).H a=some x:=by
 have e1:=aT a x e;cases q:B.hd a with
 |false=>rw[fm q];exact e1
 |true=>
  cases z:B.ix a with
  |none=>
   have e2:(if B.un.hd a=true then none else H a)=some x:=e;rw[show B.un.hd a=(B.hd a&&(B.ix a).isNone)from rfl,q,z]at e2;cases e2
  |some i=>
   obtain⟨o,_,ao⟩:=ha.ex z;obtain⟨y,e3,n1,n2⟩:=ao.mem;rw[e1]at e3;cases e3;rcases hx with⟨vs,rfl⟩|⟨o,u,rfl⟩
   ·exact absurd rfl (n1 vs)
   ·exact absurd rfl (n2 o u)
structure lF(W W':Vw):Prop where
 h:∀a x,W.H a=some x->((∃vs,x=.tup vs)\/∃o u,x=.jO o u)->W'.H a=some x
 x:∀a i,W.ix a=some i->W'.ix a=some i
theorem lF.un (ha:HA K B A H):lF (bq B.un H) (bq B H):=⟨fun a x e hx=>Qm ha e hx,fun _ _ e=>e⟩
theorem lF.trans {W W1 W2:Vw}(a:lF W W1)(b:lF W1 W2):lF W W2:=⟨fun c x e hx=>b.h c x (a.h c x e hx) hx,fun c i e=>b.x c i (a.x c i e)⟩
theorem lF.new {p:Addr}{x:HO}(hx:B.ix p=none)(hp:H p=some x)(n1:∀vs,x≠ .tup vs)(n2:∀o u,x≠ .jO o u):lF (bq B H) (bq (n6 B p i) H):=⟨fun a y e hy=>by
 have e1:=aT a y e;have fT:a≠p:=fun z=>by
  rw[z,hp]at e1;cases e1;rcases hy with⟨vs,z⟩|⟨o,u,z⟩
  ·exact n1 vs z
  ·exact n2 o u z
 have hB:B.hd a=false:=by
  cases q:B.hd a with
  |false=>rfl
  |true=>
   have e2:(if B.hd a=true then none else H a)=some y:=e;rw[q,ag rfl]at e2;cases e2
 rw[fm (by rw[sf fT];exact hB)];exact e1,fun a j e=>by
 have fT:a≠p:=fun z=>by rw[z]at e;rw[show(bq B H).ix p=B.ix p from rfl,hx]at e;cases e
 show(n6 B p i).ix a=some j;rw[gu fT];exact e⟩
theorem EJ{W W':Vw}(s:lF W W'){v:V}{t:Tr}(h:Rep K W v t):Hl t=true->Rep K W' v t:=by
 refine Rep.rec (motive_1:=fun v t _=>Hl t=true->Rep K W' v t) (motive_2:=fun vs ts _=>mi ts=true->aV K W' vs ts) ?_ ?_ ?_ ?_ ?_ ?_ ?_ ?_ ?_ ?_ ?_ ?_ ?_ ?_ ?_ h
 ·exact fun _=>.bK
 ·exact fun b _=>.bl b
 ·exact fun i _=>.int i
 ·exact fun z h _=>.str z h
 ·exact fun n _=>.ty n
 ·exact fun h f=>nomatch f
 ·intro a vs ts h _ ih f;refine .tup ?_ (ih f)
  rcases h with(h|⟨o,h⟩)|h
  ·exact .inl (.inl (s.h _ _ h (.inl ⟨_,rfl⟩)))
  ·exact .inl (.inr ⟨o,s.h _ _ h (.inr ⟨_,_,rfl⟩)⟩)
  ·exact .inr h
 ·exact fun h _ _ f=>nomatch f
 ·exact fun h _ _ _ f=>nomatch f
 ·exact fun h _=>.at (s.x _ _ h)
 ·exact fun h _ _ _ f=>nomatch f
 ·exact fun h _ _ _ f=>nomatch f
 ·exact fun h c f=>nomatch f
 ·exact fun _=>.nil
 ·intro v t vs ts _ _ YY YZ f;rw[mi,bf]at f;exact .cons (YY f.1) (YZ f.2)
theorem sg{W W':Vw}(s:lF W W'):∀{vs:List V} {ts:List Tr},aV K W vs ts->mi ts=true->aV K W' vs ts
 |[],_,r,_=>by cases r;exact .nil
 |_::_,_,r,f=>by
  cases r with
  |cons h r=>
   rw[mi,bf]at f;exact .cons (EJ s h f.1) (sg s r f.2)
theorem yt(ha:HA K B A H){v:V}{t:Tr}(h:Rep K (bq B.un H) v t)(f:Hl t=true):Rep K (bq B H) v t:=EJ (.un ha) h f
theorem Rep.IH {W W':Vw}(s:au W.H W'.H){v:V}{t:Tr}(h:Rep K W v t):uA t=true->Rep K W' v t:=by
 refine Rep.rec (motive_1:=fun v t _=>uA t=true->Rep K W' v t) (motive_2:=fun vs ts _=>gK ts=true->aV K W' vs ts) ?_ ?_ ?_ ?_ ?_ ?_ ?_ ?_ ?_ ?_ ?_ ?_ ?_ ?_ ?_ h
 ·exact fun _=>.bK
 ·exact fun b _=>.bl b
 ·exact fun i _=>.int i
 ·exact fun z h _=>.str z h
 ·exact fun n _=>.ty n
 ·exact fun h _=>.mY (s.seq h)
 ·exact fun h _ ih f=>.tup (s.tup h) (ih f)
 ·exact fun h _ ih f=>.lst (s _ _ h) (ih f)
 ·intro a kvs aG h e _ ih f;refine .bo (Rd.same s h) e (ih ?_);rw[uA,yp]at f;exact f
 ·exact fun h f=>nomatch f
 ·intro a kvs aG h e _ ih f;refine .ue (s _ _ h) e (ih ?_);rw[uA,yq]at f;exact f
 ·intro a c dx fW fs h e _ ih f;refine .ob (s _ _ h) e (ih ?_);rw[uA,yr]at f;exact f
 ·exact fun h c _=>.yf (s _ _ h) c
 ·exact fun _=>.nil
 ·intro v t vs ts _ _ YY YZ f;rw[gK,bf]at f;exact .cons (YY f.1) (YZ f.2)
theorem aV.IH {W W':Vw}(s:au W.H W'.H):∀{vs:List V} {ts:List Tr},aV K W vs ts->gK ts=true->aV K W' vs ts
 |[],_,r,_=>by cases r;exact .nil
 |_::_,_,r,f=>by
  cases r with
  |cons h r=>
   rw[gK,bf]at f;exact .cons (h.IH s f.1) (aV.IH s r f.2)
end
def US(A:Ab):Cell->Cell
 |.sh t=>.sh (aj 5 A t)
 |c=>c
def cz(A:Ab)(Y:aQ):aQ:=Y.map (US A)
theorem bL.Qn {A:Ab}{Y:aQ}(ha:HA K B A H)(n:fb Y)(h:bL K B H Z Y):bL K B.un H Z (cz A Y):=by
 have no:∀i ts,(cz A Y)[i]? ≠some (Cell.ow ts):=fun i ts e=>by
  unfold cz at e;rw[bg]at e;cases q:Y[i]? with
  |none=>rw[q]at e;cases e
  |some c=>
   rw[q]at e;cases c with
   |no=>cases e
   |sh t=>cases e
   |ow us=>exact n i us q
 refine⟨by unfold cz;rw[aC];exact h.len,fun i t e=>?_,fun i ts e=>absurd e (no i ts),fun i j ts us D _ e=>absurd e (no i ts)⟩;unfold cz at e;rw[bg]at e;cases q:Y[i]? with
 |none=>rw[q]at e;cases e
 |some c=>
  rw[q]at e;cases c with
  |no=>cases e
  |ow us=>exact absurd q (n i us)
  |sh u=>
   obtain⟨v,e1,r⟩:=h.sh i u q;have e2:aj 5 A u=t:=by
    have e3:=Option.some.inj e;exact(Cell.sh.inj e3)
   rw[<-e2];exact⟨v,e1,iu ha 5 r⟩
theorem bL.grow {B':dG}{H':Hp}{Y:aQ}(h:bL K B H Z Y)(n:fb Y)(g:Grows B H B' H'):bL K B' H' Z Y:=
 ⟨h.len,fun i t e=>by obtain⟨v,e1,r⟩:=h.sh i t e;exact⟨v,e1,r.same g.jk⟩,fun i ts e=>absurd e (n i ts),fun i j ts us D _ e=>absurd e (n i ts)⟩
theorem ck.get {h:Heap}{o:HO}(x:ck P w H h a o):∃u,h.get? a=some u:=by
 cases o with
 |lst xs=>obtain⟨_,_,_,_,e⟩:=x;exact⟨_,e⟩
 |tup xs=>obtain⟨_,_,_,o,e,_⟩:=x;exact⟨o,e⟩
 |dK kvs=>obtain⟨_,_,_,_,o,_,_,e,_⟩:=x;exact⟨o,e⟩
 |dT kvs=>obtain⟨_,_,_,_,o,_,_,e,_⟩:=x;exact⟨o,e⟩
 |set S n=>obtain⟨o,_,_,_,e,_⟩:=x;exact⟨o,e⟩
 |ins C dx fs=>obtain⟨_,_,_,e,_⟩:=x;exact⟨_,e⟩
 |own y=>exact x
 |xd fs=>obtain⟨_,⟨_,_,_,e,_⟩,_⟩:=x;exact⟨_,e⟩
 |Xc lo hi=>obtain⟨_,_,_,e⟩:=x;exact⟨_,e⟩
 |jO ob u=>obtain⟨e,_⟩:=x;exact⟨_,e⟩
 |NK ps=>exact⟨_,(show h.get? a=some _ from x)⟩
 |met f y=>exact⟨_,(show h.get? a=some _ from x)⟩
 |ext φ=>obtain⟨_,e,_⟩:=x;exact e
structure Oe(h0:Heap)(H:Hp)(h:Heap)(a:Addr)(cls:Value):Prop where
 ob:∃oe vs a0,h.get? a=some oe/\oe.cls=cls/\oe.data=.fields vs/\vs[0]?=some a0/\
  (vs[1]?=some .none\/∃T oT ts,vs[1]?=some (.ref T)/\T≠a/\h0.get? T=none/\H T=none/\h.get? T=some oT/\oT.data=.fields ts/\ts[3]?=some .none)
 fr:H a=none
 nw:h0.get? a=none
def XS(X:Cx)(H:Hp)(cls e:Value)(s:Shared):Prop:=∃a U Z h0,e=.ref a/\Inv X U Z H s/\Oe h0 H s.heap a cls/\(∀b,h0.get? b=none->X.eZ.heap.get? b=none)/\(∀p∈X.pn,∃o,h0.get? p.1=some o)/\∀b,s.heap.get? b=none->h0.get? b=none
def EX(X:Cx):XK:=fun cls _ H=>∀e s,XS X H cls e s->X.xe e s
def tw(P:Program)(w:World):AG:=fun outer H s E e s'=>∃a cls H',e=.ref a/\s'.os=s.os/\AllBare s'.gens/\Un (iN outer) [] H H' s.heap s'.heap/\p5 P w H' s'.heap/\Oe s.heap H' s'.heap a cls/\E cls none H'
theorem Oe.UT {h0 h1 h:Heap}{cls:Value}(u:Oe h1 H h a cls)(k:∀b,h1.get? b=none->h0.get? b=none):Oe h0 H h a cls:=by
 obtain⟨⟨oe,vs,a0,e1,e2,e3,e4,e5⟩,f,n⟩:=u;refine⟨⟨oe,vs,a0,e1,e2,e3,e4,?_⟩,f,k a n⟩;rcases e5 with e5|⟨T,oT,ts,q1,q2,q3,q4⟩
 ·exact .inl e5
 ·exact .inr ⟨T,oT,ts,q1,q2,k T q3,q4⟩
theorem Inv.Bd (I:Inv X U Z H s)(hx:X.ex=[]){b:Addr}(n:s.heap.get? b=none):X.eZ.heap.get? b=none:=by
 cases q:X.eZ.heap.get? b with
 |none=>rfl
 |some o=>
  obtain⟨o',e⟩:=I.base.there b o q (by rw[hx];simp);rw[n]at e;cases e
theorem lG(hx:X.ex=[]):Passes (tw X.prog X.w) X (EX X):=by
 intro U Z H s e s' I z;obtain⟨a,cls,H',rfl,os,bare,un,cj,EK,q⟩:=z;have ce:CE X.stack X.prog X.w H s (fun _ H2=>H2=H') .none s':=⟨.bK,H',os,bare,un,cj,rfl,rfl⟩;obtain⟨v,H2,I2,_,rfl⟩:=I.after ce;exact q (.ref a) s' ⟨a,U,Z,s.heap,rfl,I2,EK,fun b n=>I.Bd hx n,fun p hp=>⟨_,(I.pin p (iT _ hp)).1⟩,fun b n=>by
  cases z:s.heap.get? b with
  |none=>rfl
  |some o=>obtain⟨o',e⟩:=un.there b o z (by simp);rw[n]at e;cases e⟩
section
variable {base:Heap}{N:List Str}{qual:Str}{scope:Scope}{f:Addr}{cd:Value}{outer:List Env}{E:XK}
theorem II{H':Hp}{cls e:Value}{s':Shared}(x:XS (mX (tw P w) P w K mg base N qual scope f cd A outer s H E) H' cls e s')(q:E cls none H'):(mX (tw P w) P w K mg base N qual scope f cd A outer s H E).xe e s':=by
 obtain⟨a,U,Z,h00,rfl,I,Y0,old,_,_⟩:=x;have EK:=Y0.UT (h0:=s.heap) old;obtain⟨⟨oe,vs,a0,he,y3,hd,h0,h1⟩,fr,nw⟩:=EK
 let env:=envOfC qual scope s.heap.objs.size f cd
 have SN:(A.deeper env).frames=some (env::outer):=I.ok.frames;have hk:s'.heap.FunFrames base (env::outer):=I.stack;have SO:∀L∈iN (env::outer),H' L=none/\∃o,s'.heap.get? L=some o/\∀ws,o.data≠ .fields ws:=fun L hL=>⟨I.uK L hL,(hk.mem hL).2⟩;have haf:a∉iN (env::outer):=fun m=>by
  obtain⟨_,o,e1,e2⟩:=SO a m;rw[he]at e1;cases e1;exact e2 vs hd
 have fin:∀(hs:List Addr) (h':Heap),(∀b∈hs,H' b=none/\(b∈iN (env::outer)\/s.heap.get? b=none))->(∀b∈iN (env::outer),b∈hs)->a∈hs->(∀b∈hs,b∈iN (env::outer)\/b=a\/H' b=none)->
   Heap.LeftW (PySem.W.hideAll s'.heap hs) (env::outer) a cls a0 s'.heap h'->tw P w outer H s E (.ref a) {s' with heap:=h'}:=by
  intro hs h' hh OL aaF _ ⟨k1,k2,k3,k4⟩;have kp:∀b o,b∉hs->s'.heap.get? b=some o->h'.get? b=some o:=fun b o nb e=>k1 b o (kR _ e nb);have old:∀b o,s.heap.get? b=some o->b∉iN outer->b∉hs:=fun b o e nf m=>by
   rcases(hh b m).2 with z|z
   ·unfold iN at z;rw[nc]at z;have z':b∈s.heap.objs.size::iN outer:=z;rcases aE.mp z' with z'|z'
    ·exact absurd (aF e) (by rw[z'];exact dm _)
    ·exact nf z'
   ·rw[e]at z;cases z
  have sl:∀b o,s'.heap.get? b=some o->b∈iN outer->∃sl,h'.get? b=some {o with slots:=sl}:=fun b o e m=>by
   obtain⟨_,o2,e2,nf⟩:=SO b (by unfold iN at m⊢;rw[nc];exact bI _ m);rw[e]at e2;cases e2;exact k4 b o e nf
  have pins:Un (iN outer) [] H H' s.heap s'.heap:=I.base;refine⟨a,cls,H',rfl,I.os,I.bare,⟨fun b o e n nf nx=>?_,fun b o e n m nx=>?_,pins.free,fun b o e nx=>?_,pins.jy,pins.jP,pins.l9⟩,fun b o e=>?_,⟨?_,fr,nw⟩,q⟩
  ·exact kp b o (old b o e nf) (pins.keep b o e n nf nx)
  ·obtain⟨s1,e1⟩:=pins.slot b o e n m nx;obtain⟨s2,e2⟩:=sl b _ e1 m;exact⟨s2,e2⟩
  ·obtain⟨o1,e1⟩:=pins.there b o e nx;by_cases m:b∈iN outer
   ·obtain⟨s2,e2⟩:=sl b o1 e1 m;exact⟨_,e2⟩
   ·exact⟨o1,kp b o1 (old b o e m) e1⟩
  ·refine(I.cj b o e).nM (fun c u hc z=>kp c u (fun m=>?_) z) (fun _ z=>z) fun _ _ z=>z;have n:=(hh c m).1;rcases hc with rfl|hc
   ·rw[n]at e;cases e
   ·rw[n]at hc;cases hc
  ·obtain⟨oe2,Y1,T,oT,ts,q1,⟨q2,q3⟩,q4,q5,q6,q7,q8,q9,Y2⟩:=k3;refine⟨oe2,Y1,a0,q1,q2,q4,q3,.inr ⟨T,oT,ts,q5,q7,?_,?_,q8,q9,Y2⟩⟩
   ·by_cases m:T∈hs
    ·rcases(hh T m).2 with z|z
     ·obtain⟨o3,e3,n3⟩:=(k2.mem z).2;rw[q8]at e3;cases e3;exact absurd q9 (n3 ts)
     ·exact z
    ·cases z:s.heap.get? T with
     |none=>rfl
     |some o=>
      obtain⟨o1,e1⟩:=pins.there T o z (by simp);rw[kR _ e1 m]at q6;cases q6
   ·by_cases m:T∈hs
    ·exact(hh T m).1
    ·cases z:H' T with
     |none=>rfl
     |some o=>
      obtain⟨u,e1⟩:∃u,s'.heap.get? T=some u:=(I.cj T o z).get;rw[kR _ e1 m]at q6;cases q6
 have kO:∀e∈(env::outer),∀b,e.frame=some b->b∈iN (env::outer):=fun e he b hb=>jW.mpr ⟨e,he,hb⟩;show wpAny (model P w) (A.deeper env) (leaving env (.ref a)) (fun _ Pd=>tw P w outer H s E (.ref a) Pd) _ s';rcases h1 with h1|⟨T,oT,ts,h1,Y3,Y4,K4,hT,Xt,h3⟩
 ·let hs:=a::iN (env::outer)
  refine wpAny_leaving_firstW (base:=PySem.W.hideAll s'.heap hs) SN (m_ hk fun e he b hb=>bI _ (kO e he b hb)) rfl he (fun b o z=>kS _ z) (jT _ (bR ..)) hd h1 h0 fun h' hL=>?_
  rw[y3]at hL;refine fin hs h' (fun b m=>?_) (fun b m=>bI _ m) (bR ..) (fun b m=>?_) hL
  ·rcases aE.mp m with rfl|m
   ·exact⟨fr,.inr nw⟩
   ·exact⟨(SO b m).1,.inl m⟩
  ·rcases aE.mp m with rfl|m
   ·exact .inr (.inl rfl)
   ·exact .inl m
 ·let hs:=a::T::iN (env::outer)
  refine wpAny_leaving_nextW (base:=PySem.W.hideAll s'.heap hs) (cls:=cls) (a0:=a0) SN (m_ hk fun e he b hb=>bI _ (bI _ (kO e he b hb))) rfl
   ⟨oe,vs,T,oT,ts,he,⟨y3,h0⟩,hd,h1,jT _ (bI _ (bR ..)),Y3,hT,Xt,h3⟩ (fun b o z=>kS _ z) (jT _ (bR ..)) fun h' hL=>?_
  refine fin hs h' (fun b m=>?_) (fun b m=>bI _ (bI _ m)) (bR ..) (fun b m=>?_) hL
  ·rcases aE.mp m with rfl|m
   ·exact⟨fr,.inr nw⟩
   ·rcases aE.mp m with rfl|m
    ·exact⟨K4,.inr Y4⟩
    ·exact⟨(SO b m).1,.inl m⟩
  ·rcases aE.mp m with rfl|m
   ·exact .inr (.inl rfl)
   ·rcases aE.mp m with rfl|m
    ·exact .inr (.inr K4)
    ·exact .inl m
end
inductive Rz(α:Type) where
 |bad|ok (a:α) (A:Ab)|exc (c:Tr) (A:Ab)
def Rz.bind {α β:Type}(r:Rz α)(f:α->Ab->Rz β):Rz β:=match r with
 |.ok a A=>f a A
 |.exc c A=>.exc c A
 |.bad=>.bad
def gg(xc:Tr->Ab->Prop){α:Type}(r:Rz α)(k:α->Ab->Prop):Prop:=match r with
 |.ok a A=>k a A
 |.exc c A=>xc c A
 |.bad=>False
section
variable {α β:Type}{r:Rz α}{k k':α->Ab->Prop}{xc SG:Tr->Ab->Prop}
theorem gg.mono (h:gg xc r k)(w:∀a A,k a A->k' a A):gg xc r k':=by
 cases r with
 |ok a A=>exact w a A h
 |_=>exact h
theorem gg.imp (h:gg xc r k)(w:∀c A,xc c A->SG c A):gg SG r k:=by
 cases r with
 |ok a A=>exact h
 |exc c A=>exact w c A h
 |bad=>exact h
theorem gg.bind {f:α->Ab->Rz β}{k:β->Ab->Prop}(h:gg xc (r.bind f) k):gg xc r fun a A=>gg xc (f a A) k:=by
 cases r with
 |_=>exact h
end
def fy{α:Type}(r:Rs α)(A:Ab):Rz α:=match r with
 |.ok a=>.ok a A
 |_=>.bad
theorem n_{X:Cx}{H:Hp}{α:Type}{xc:Tr->Ab->Prop}{r:Rs α}{A:Ab}{k:α->Ab->Prop}(q:gg xc (fy r A) k):Fi X H r fun a=>k a A:=by
 cases r with
 |ok a=>exact q
 |exc c=>exact fe q
 |bad=>exact q
def UU(K:Frag):Tr->Value
 |.str x=>.ref (clsAt K x)
 |_=>.none
def XE(X:Cx)(B:dG)(H:Hp):Tr->Ab->Prop:=fun c A=>∀B' H',Grows B H B' H'->HA X.K B' A H'->EX X (UU X.K c) none H'
theorem XE.grow {B':dG}{H':Hp}{c:Tr}{A:Ab}(hb:HB B H)(h:XE X B H c A)(g:Grows B H B' H'):XE X B' H' c A:=fun B2 H2 g2 ha=>h B2 H2 (g.trans hb g2) ha
inductive tE(X:Cx)(F:aQ->Ab->Rz Tr)(Z:St)(H:Hp)(Q:VK):Prop
 |mk (B:dG) (A:Ab) (Y:aQ):HA X.K B A H->bL X.K B H Z Y->fb Y->(gg (XE X B H) (F Y A) fun t A'=>∀v B' H',Grows B H B' H'->HA X.K B' A' H'->Rep X.K (bq B' H') v t->Q v H')->tE X F Z H Q
inductive Of(X:Cx)(F:aQ->Ab->Rz Bool)(Z:St)(H:Hp)(Q:Bool->Hp->Prop):Prop
 |mk (B:dG) (A:Ab) (Y:aQ):HA X.K B A H->bL X.K B H Z Y->fb Y->(gg (XE X B H) (F Y A) fun b A'=>∀B' H',Grows B H B' H'->HA X.K B' A' H'->Q b H')->Of X F Z H Q
inductive K5(X:Cx)(F:aQ->Ab->Rz (List Tr))(Z:St)(H:Hp)(Q:List V->Hp->Prop):Prop
 |mk (B:dG) (A:Ab) (Y:aQ):HA X.K B A H->bL X.K B H Z Y->fb Y->(gg (XE X B H) (F Y A) fun ts A'=>∀vs B' H',Grows B H B' H'->HA X.K B' A' H'->aV X.K (bq B' H') vs ts->Q vs H')->K5 X F Z H Q
def Qo(H H':Hp)(p:Addr):Prop:=H p=none/\∀o u,H' p≠some (.jO o u)
theorem Qo.lst {H':Hp}{p:Addr}(h:H p=none)(r:Rep K (bq B H') (.ref p) (.lst ts)):Qo H H' p:=by
 cases r with
 |lst e _=>exact⟨h,fun o u z=>by rw[aT _ _ e]at z;cases z⟩
theorem Qo.upd {H1:Hp}{p:Addr}{x:HO}(h:H p=none)(hx:∀o u,x≠ .jO o u):Qo H (L2.upd H1 p x) p:=⟨h,fun o u z=>by rw[aU]at z;cases z;exact hx _ _ rfl⟩
inductive tF(X:Cx)(F:aQ->Rs Tr)(Z:St)(H:Hp)(Q:VK):Prop
 |mk (B:dG) (Y:aQ):HB B H->bL X.K B H Z Y->(Fi X H (F Y) fun t=>∀v H',au H H'->Rep X.K (bq B H') v t->(∀p,v=.ref p->Qo H H' p)->Q v H')->tF X F Z H Q
def pL(r:Rs Tr)(A:Ab):Rz Tr:=match r with
 |.ok t=>if Hl t=true then .ok t A else .bad
 |_=>.bad
def wc(r:Rs Tr)(A:Ab):Rz Tr:=match r with
 |.ok (.lst ts)=>if mi ts=true then .ok (.at A.length) (A++[.lst ts])else .bad
 |.ok (.bo aG)=>if mi (aG.map (·.2))=true then .ok (.at A.length) (A++[.bo aG])else .bad
 |.ok (.ue aG)=>if mi (aG.map (·.2))=true then .ok (.at A.length) (A++[.ue aG])else .bad
 |_=>.bad
section
variable {es:List Expr}{P:aQ->Rs Bool}{FZ GZ:aQ->Ab->Rz Tr}{LZ:aQ->Ab->Rz (List Tr)}
theorem Be{Q:VK}(q:tE X (fun Y A=>fy (F Y) A) Z H Q):tP X F Z H Q:=by
 obtain⟨B,A,Y,ha,r,_,q⟩:=q;exact⟨B,Y,ha.hb,r,(n_ q).mono fun t qt v H' s rv=>qt v B H' (.of s) (ha.same s) rv⟩
theorem Qp(h:PE X e (tP X F)):PE X e (tE X fun Y A=>fy (F Y) A):=h.weak fun Z H Q q=>Be q
theorem Qq(h:PE X e (tP X F)):PE X e (tE X fun Y A=>pL (F (cz A Y)) A):=
 h.weak fun Z H Q ⟨B,A,Y,ha,r,n,q⟩=>⟨B.un,cz A Y,EI ha.hb,r.Qn ha n,by
   have q:gg (XE X B H) (pL (F (cz A Y)) A) _:=q;cases e:F (cz A Y)with
   |bad=>rw[e]at q;exact q
   |exc c=>rw[e]at q;exact fe q
   |ok t=>
    rw[e]at q;intro v H' s rv;by_cases f:Hl t=true
    ·have q':gg _ (if Hl t=true then Rz.ok t A else .bad) _:=q;rw[ag f]at q';exact q' v B H' (.of s) (ha.same s) (yt (ha.same s) rv f)
    ·have q':gg _ (if Hl t=true then Rz.ok t A else .bad) _:=q;rw[ak f]at q';exact fe q'⟩
theorem Mj(h:PT X e (tQ X P)):PT X e (Of X fun Y A=>fy (P (cz A Y)) A):=
 h.weak fun Z H Q ⟨B,A,Y,ha,r,n,q⟩=>⟨B.un,cz A Y,EI ha.hb,r.Qn ha n,(n_ q).mono fun t qt H' s=>qt B H' (.of s) (ha.same s)⟩
theorem fZ{c:Prop}[Decidable c]{α:Type}{xc:Tr->Ab->Prop}{r:Rz α}{k:α->Ab->Prop}(h:gg xc (if c then r else .bad) k):c/\gg xc r k:=by
 by_cases q:c
 ·rw[ag q]at h;exact⟨q,h⟩
 ·rw[ak q]at h;exact fe h
theorem qi{Q:VK}(q:tE X (fun Y A=>wc (F (cz A Y)) A) Z H Q):tF X F Z H Q:=by
  obtain⟨B,A,Y,ha,r,n,q⟩:=q;refine⟨B.un,cz A Y,EI ha.hb,r.Qn ha n,?_⟩;have q:gg (XE X B H) (wc (F (cz A Y)) A) _:=q;cases e:F (cz A Y)with
  |bad=>rw[e]at q;exact q
  |exc c=>rw[e]at q;exact fe q
  |ok t=>
   rw[e]at q;intro v H' s rv fr;have kr:=ha.same s;cases rv with
   |@lst p vs ts h rr=>
    have hp:=(fr p rfl).1;obtain⟨f,q'⟩:=fZ q;have h1:H' p=some (.lst vs):=aT _ _ h;obtain⟨g,h2⟩:=ha.push (o:=.lst ts) hp s ⟨o8,vs,h1,sg ((lF.un kr).trans (.new (ha.free hp) h1 (fun _ z=>by cases z) fun _ _ z=>by cases z)) rr f⟩;exact q' _ _ H' g h2 (.at gs)
   |@bo p kvs aG h ek rr=>
    have hp:=(fr p rfl).1;obtain⟨f,q'⟩:=fZ q;have h1:H' p=some (.dK kvs):=by
     rcases h.same aT with h|⟨o,h⟩
     ·exact h
     ·exact((fr p rfl).2 _ _ h).elim
    obtain⟨g,h2⟩:=ha.push (o:=.bo aG) hp s ⟨o8,kvs,h1,ek,sg ((lF.un kr).trans (.new (ha.free hp) h1 (fun _ z=>by cases z) fun _ _ z=>by cases z)) rr f⟩;exact q' _ _ H' g h2 (.at gs)
   |@ue p kvs aG h ek rr=>
    have hp:=(fr p rfl).1;obtain⟨f,q'⟩:=fZ q;have h1:H' p=some (.dT kvs):=aT _ _ h;obtain⟨g,h2⟩:=ha.push (o:=.ue aG) hp s ⟨o8,kvs,h1,ek,sg ((lF.un kr).trans (.new (ha.free hp) h1 (fun _ z=>by cases z) fun _ _ z=>by cases z)) rr f⟩;exact q' _ _ H' g h2 (.at gs)
   |_=>exact fe q
theorem UW(h:PE X e (tF X F)):PE X e (tE X fun Y A=>wc (F (cz A Y)) A):=h.weak fun Z H Q q=>qi q
end
def yu(X:Cx)(D:Ends)(B0:dG)(H0:Hp):Out->Ab->Prop
 |.nx Y,A=>∀cI B' H',Grows B0 H0 B' H'->HA X.K B' A H'->bL X.K B' H' cI Y->fb Y->D.nx cI H'
 |.ret t,A=>∀v B' H',Grows B0 H0 B' H'->HA X.K B' A H'->Rep X.K (bq B' H') v t->D.rt v H'
 |.bk Y,A=>∀cI B' H',Grows B0 H0 B' H'->HA X.K B' A H'->bL X.K B' H' cI Y->fb Y->D.bk cI H'
 |.ct Y,A=>∀cI B' H',Grows B0 H0 B' H'->HA X.K B' A H'->bL X.K B' H' cI Y->fb Y->D.ct cI H'
inductive tZ(X:Cx)(G:aQ->Ab->Rz Out)(D:Ends)(Z:St)(H:Hp):Prop
 |mk (B0:dG) (H0:Hp) (B:dG) (A:Ab) (Y:aQ):HB B0 H0->Grows B0 H0 B H->HA X.K B A H->bL X.K B H Z Y->fb Y->gg (XE X B0 H0) (G Y A) (yu X D B0 H0)->tZ X G D Z H
section
variable {a b c:Expr}{F:aQ->Ab->Rz Tr}{G G':aQ->Ab->Rz Out}{P:aQ->Ab->Rz Bool}{st:Stmt}{c7 Uw:List Stmt}
def Bf(r:Rz Out)(G:aQ->Ab->Rz Out):Rz Out:=r.bind fun o A=>match o with
 |.nx Y=>G Y A
 |.ret t=>.ok (.ret t) A
 |.bk Y=>.ok (.bk Y) A
 |.ct Y=>.ok (.ct Y) A
theorem UX:m6 X [] (tZ X fun Y A=>.ok (.nx Y) A):=D6.weak fun D Z H ⟨B0,H0,B,A,Y,hb,g,ha,r,n,q⟩=>q Z B H g ha r n
theorem Qr(h1:PS X st (tZ X G))(h2:m6 X c7 (tZ X G')):m6 X (st::c7) (tZ X fun Y A=>Bf (G Y A) G'):=
 (AE h1 h2).weak fun D Z H ⟨B0,H0,B,A,Y,hb,g,ha,r,n,q⟩=>⟨B0,H0,B,A,Y,hb,g,ha,r,n,q.bind.mono fun o A1 qo=>by
  cases o with
  |nx iG=>exact fun cI B' H' g' kr r' n'=>⟨B0,H0,B',A1,iG,hb,g',kr,r',n',qo⟩
  |ret t=>exact qo
  |bk iG=>exact qo
  |ct iG=>exact qo⟩
theorem UY(h1:PS X st (tZ X G)):m6 X [st] (tZ X G):=D7 h1
theorem UZ:PE X e (tE X fun _ _=>.bad):=fun _ _ _ _ _ _ ⟨_,_,_,_,_,_,q⟩=>(show False from q).elim
theorem og{B0:dG}{H0:Hp}{A:Ab}{Y:aQ}{k:Tr->Ab->Prop}(hb:HB B0 H0)(g:Grows B0 H0 B H)(ha:HA X.K B A H)(r:bL X.K B H Z Y)(n:fb Y)(q:gg (XE X B0 H0) (F Y A) k){Q:VK}
  (hq:∀t A' v B' H',k t A'->Grows B0 H0 B' H'->HA X.K B' A' H'->bL X.K B' H' Z Y->Rep X.K (bq B' H') v t->Grows B H B' H'->Q v H'):tE X F Z H Q:=
 ⟨B,A,Y,ha,r,n,(q.imp fun c A' x=>x.grow hb g).mono fun t A' qp v B' H' g' kr rv=>hq t A' v B' H' qp (g.trans hb g') kr (r.grow n g') rv g'⟩
theorem Qs{B0:dG}{H0:Hp}{A:Ab}{Y:aQ}{k:Bool->Ab->Prop}(hb:HB B0 H0)(g:Grows B0 H0 B H)(ha:HA X.K B A H)(r:bL X.K B H Z Y)(n:fb Y)(q:gg (XE X B0 H0) (P Y A) k){Q:Bool->Hp->Prop}
  (hq:∀t A' B' H',k t A'->Grows B0 H0 B' H'->HA X.K B' A' H'->bL X.K B' H' Z Y->Q t H'):Of X P Z H Q:=
 ⟨B,A,Y,ha,r,n,(q.imp fun c A' x=>x.grow hb g).mono fun t A' qp B' H' g' kr=>hq t A' B' H' qp (g.trans hb g') kr (r.grow n g')⟩
def xK(i:Nat)(r:Rz Tr)(Y:aQ):Rz Out:=r.bind fun t A=>.ok (.nx (Y.set i (.sh t))) A
theorem U0{pos':Pos}(he:PE X e (tE X F))(hN:X.N.Nodup:=by assumption) (hi:X.N[i]?=some x:=by rfl) (hx:Loc X.env.scope x:=by first|exact Or.inl rfl|exact Or.inr rfl) (hs:qa e=false:=by rfl) (hf:xu X x:=by first|exact .inl rfl|exact .inr rfl|assumption):
  PS X (.Assign [.Name x pos'] e pos) (tZ X fun Y A=>xK i (F Y A) Y):=
 (HF hN hi hx he (vW hs) hf).weak fun D Z H ⟨B0,H0,B,A,Y,hb,g,ha,r,n,q⟩=>og hb g ha r n q.bind fun t A' v B' H' qt g' kr r' rv _=>qt _ B' H' g' kr (r'.set i rv) (n.set i t)
def Gd(r:Rz Tr):Rz Out:=r.bind fun t A=>.ok (.ret t) A
theorem U1(he:PE X e (tE X F)):PS X (.Return (some e) pos) (tZ X fun Y A=>Gd (F Y A)):=
 (HD he).weak fun D Z H ⟨B0,H0,B,A,Y,hb,g,ha,r,n,q⟩=>og hb g ha r n q.bind fun t A' v B' H' qt g' kr r' rv _=>qt v B' H' g' kr rv
theorem Qt:PS X (.Return none pos) (tZ X fun _ A=>.ok (.ret .bK) A):=
 Lg.weak fun D Z H ⟨B0,H0,B,A,Y,hb,g,ha,r,n,q⟩=>q .bK B H g ha .bK
def yv(r:Rz Tr)(Y:aQ):Rz Out:=r.bind fun _ A=>.ok (.nx Y) A
theorem Qu(he:PE X e (tE X F))(hs:qa e=false:=by rfl):PS X (.Expr e pos) (tZ X fun Y A=>yv (F Y A) Y):=
 (Lf he (vW hs)).weak fun D Z H ⟨B0,H0,B,A,Y,hb,g,ha,r,n,q⟩=>og hb g ha r n q.bind fun t A' v B' H' qt g' kr r' rv _=>qt _ B' H' g' kr r' n
def Xu(c:Rz Bool)(a b:Ab->Rz Out):Rz Out:=c.bind fun k A=>if k then a A else b A
theorem Y5{ys ns:List Stmt}(hc:PT X c (Of X P))(h1:m6 X ys (tZ X G))(h2:m6 X ns (tZ X G')):PS X (.If c ys ns pos) (tZ X fun Y A=>Xu (P Y A) (G Y) (G' Y)):=
 (NP hc h1 h2).weak fun D Z H ⟨B0,H0,B,A,Y,hb,g,ha,r,n,q⟩=>Qs hb g ha r n q.bind fun k A' B' H' qk g' kr r'=>by
  cases k with
  |true=>exact PH ⟨B0,H0,B',A',Y,hb,g',kr,r',n,qk⟩
  |false=>exact PD ⟨B0,H0,B',A',Y,hb,g',kr,r',n,qk⟩
def IJ(T:pP)(r:Rz Tr)(Y:aQ):Rz Out:=r.bind fun t A=>(fy (T t Y) A).bind fun iG A=>.ok (.nx iG) A
theorem Og{T:pP}{B0:dG}{H0:Hp}{A:Ab}{Y:aQ}{v:V}{t:Tr}{k:aQ->Ab->Prop}(hT:iZ T)(hb:HB B0 H0)(g:Grows B0 H0 B H)(ha:HA X.K B A H)(r:bL X.K B H Z Y)(n:fb Y)(rv:Rep X.K (bq B H) v t){xc:Tr->Ab->Prop}(q:gg xc (fy (T t Y) A) k){Q:St->Hp->Prop}
  (hq:∀iG cI H',k iG A->Grows B0 H0 B H'->HA X.K B A H'->bL X.K B H' cI iG->fb iG->au H H'->Q cI H'):tG X T v Z H Q:=by
 refine⟨B,Y,t,ha.hb,r,rv,?_⟩;cases e:T t Y with
 |ok iG=>rw[e]at q;exact fun cI H' s r'=>hq iG cI H' q (g.trans hb (.of s)) (ha.same s) r' (hT t Y iG n e) s
 |exc c=>rw[e]at q;exact fe q
 |bad=>rw[e]at q;exact q
theorem U2{tg:Expr}{T:pP}(hg:PG X tg (tG X T))(hT:iZ T)(he:PE X e (tE X F))(hs:swapsWithSole [tg] e pos.line X.env=pure false:=by rfl) (hw:swappedStores [tg] e X.env=pure none:=by rfl)
  (h1:(assignEach [tg] X.env).map (·.2)=[assign tg X.env]:=by rfl):PS X (.Assign [tg] e pos) (tZ X fun Y A=>IJ T (F Y A) Y):=
 (O0 he hg hs hw h1).weak fun D Z H ⟨B0,H0,B,A,Y,hb,g,ha,r,n,q⟩=>og hb g ha r n q.bind fun t A' v B' H' qt g' kr r' rv _=>
  Og hT hb g' kr r' n rv (gg.bind qt) fun iH xB H2 q2 g2 oh r2 n2 _=>q2 xB B' H2 g2 oh r2 n2
def tB(T:pP)(G:aQ->Ab->Rz Out):List Tr->aQ->Ab->Rz Out
 |[],Y,A=>.ok (.nx Y) A
 |t::ts,Y,A=>(fy (T t Y) A).bind fun qE A=>(G qE A).bind fun o A=>match o with
  |.nx iH=>tB T G ts iH A
  |.ct iH=>tB T G ts iH A
  |.bk iH=>.ok (.nx iH) A
  |.ret t=>.ok (.ret t) A
def IK(T:pP)(G:aQ->Ab->Rz Out)(l:Rz (List Tr))(Y:aQ):Rz Out:=l.bind fun ts A=>tB T G ts Y A
theorem U3{tg b8:Expr}{body:List Stmt}{W:aQ->Rs (List Tr)}{T:pP}(hi:PI X tg b8 (tI X W))(hg:PG X tg (tG X T))(hT:iZ T)(hb:m6 X body (tZ X G))(hp:PassesOwn (model X.prog X.w) X.A X.env X.xe:=by first|exact rn|exact PassesOwn.leaving) (hc:X.calm=true:=by rfl)
  (hs:isSet b8=false:=by rfl):PS X (.For tg b8 body [] pos) (tZ X fun Y A=>IK T G (fy (W Y) A) Y):=
 (HH hp hc hi hg hb (fX hs)).weak fun D Z H ⟨B0,H0,B,A,Y,Hm,g,ha,r,n,q⟩=>⟨B,Y,ha.hb,r,(n_ (gg.bind q)).mono fun ts qt J H1 s1 gt=>by
  have g1:Grows B0 H0 B H1:=g.trans Hm (.of s1);have C':HB B H1:=ha.hb.same s1;refine⟨fun i m cI H'=>m=ts.length - i/\i<=ts.length/\∃B' A' iG,Grows B H1 B' H'/\HA X.K B' A' H'/\bL X.K B' H' cI iG/\fb iG/\gg (XE X B0 H0) (tB T G (ts.drop i) iG A') (yu X D B0 H0),⟨_,rfl,dh _,B,A,Y,.refl,ha.same s1,r.same s1,n,qt⟩,?_⟩
  rintro i m cI H' ⟨rfl,hi,B',A',iG,g',kr,r',n',q'⟩
  by_cases fR:i<ts.length
  ·rw[qH fR]at q';refine .inr ⟨gt.go i B' H' fR g'.jk kr.hb,fun xB H2=>∃B2 A2 iH,Grows B H1 B2 H2/\HA X.K B2 A2 H2/\bL X.K B2 H2 xB iH/\fb iH/\gg (XE X B0 H0) (tB T G (ts.drop (i+1)) iH A2) (yu X D B0 H0),
    fun xB H2 x=>⟨ts.length - (i+1),by omega,rfl,fR,x⟩,fun x H2 hx=>?_⟩
   obtain⟨s2,t,et,rt⟩:=gt.FR i B' H' x H2 fR g'.jk kr.hb hx;have UG:ts[i]=t:=by rw[bb fR]at et;exact Option.some.inj et
   rw[UG]at q';have g2:Grows B H1 B' H2:=g'.trans C' (.of s2);refine Og hT C' g2 (kr.same s2) (r'.same s2) n' rt (gg.bind q') fun qE NR H3 q1 g3 Hn r3 n3 _=>?_
   refine⟨B,H1,B',A',qE,C',g3,Hn,r3,n3,((gg.bind q1).imp fun c A'' x=>x.grow Hm g1).mono fun o A4 qo=>?_⟩;cases o with
   |nx iH=>exact fun Qv B4 H4 g4 Qw r4 n4=>⟨B4,A4,iH,g4,Qw,r4,n4,qo⟩
   |ct iH=>exact fun Qv B4 H4 g4 Qw r4 n4=>⟨B4,A4,iH,g4,Qw,r4,n4,qo⟩
   |bk iH=>exact fun Qv B4 H4 g4 Qw r4 n4=>qo Qv B4 H4 (g1.trans Hm g4) Qw r4 n4
   |ret t=>exact fun v B4 H4 g4 Qw r4=>qo v B4 H4 (g1.trans Hm g4) Qw r4
  ·have e:i=ts.length:=by omega
   subst e;rw[ra]at q';exact .inl ⟨gt.stop B' H' g'.jk,q' cI B' H' (g1.trans Hm g') kr r' n'⟩⟩
end
section
variable {a:Expr}{es:List Expr}{F:aQ->Ab->Rz Tr}{L:aQ->Ab->Rz (List Tr)}{name:Str}{bh:Pos}{id:String}
def EL(r:Rz Tr)(l:Ab->Rz (List Tr)):Rz (List Tr):=r.bind fun x A=>(l A).bind fun xs A=>.ok (x::xs) A
theorem IL:PA X [] (K5 X fun _ A=>.ok [] A):=p8.weak fun Z H Q ⟨B,A,Y,ha,r,n,q⟩=>q [] B H .refl ha .nil
theorem EM(h1:PE X a (tE X F))(hr:PA X es (K5 X L))(hs:isStar a=false:=by rfl):PA X (a::es) (K5 X fun Y A=>EL (F Y A) (L Y)):=
 (j6 h1 hr (aS _ _ hs)).weak fun Z H Q ⟨B,A,Y,ha,r,n,q⟩=>⟨B,A,Y,ha,r,n,q.bind.mono fun x A1 qx v B1 H1 g1 lT r1=>⟨B1,A1,Y,lT,r.grow n g1,n,((gg.bind qx).imp fun c A' x=>x.grow ha.hb g1).mono fun xs A2 qs vs B2 H2 g2 oh r2=>qs _ B2 H2 (g1.trans ha.hb g2) oh (.cons (r1.same g2.jk) r2)⟩⟩
def Y6(X:Cx)(r:V->List V->Hp->VK->Prop)(h:Nat->List Tr->Ab->Rz Tr):Prop:=
 ∀(B:dG) (A:Ab) (H:Hp) (a:Addr) (i:Nat) (xs:List V) (ts:List Tr) (Q:VK),HA X.K B A H->B.ix a=some i->aV X.K (bq B H) xs ts->
  gg (XE X B H) (h i ts A) (fun t A'=>∀v B' H',Grows B H B' H'->HA X.K B' A' H'->Rep X.K (bq B' H') v t->Q v H')->r (.ref a) xs H Q
def U4(A:Ab)(i:Nat):Bool:=match A[i]? with
 |some (.lst _)=>true
 |_=>false
theorem Qx{A:Ab}{a:Addr}(ha:HA K B A H)(e:B.ix a=some i)(h:U4 A i=true):∃xs,H a=some (.lst xs):=by
 obtain⟨o,eo,ao⟩:=ha.ex e;unfold U4 at h;rw[eo]at h;cases o with
 |lst ts=>obtain⟨_,vs,h1,_⟩:=ao;exact⟨vs,h1⟩
 |_=>cases h
def Y7(h:Nat->List Tr->Ab->Rz Tr)(r:Rz Tr)(l:Ab->Rz (List Tr)):Rz Tr:=r.bind fun t A=>match t with
 |.at i=>if U4 A i=true then(l A).bind fun ts A=>h i ts A else .bad
 |_=>.bad
variable {r:V->List V->Hp->VK->Prop}{h:Nat->List Tr->Ab->Rz Tr}
theorem U5(slot:Slot "list" name id)(Lx:typeOf (.builtin id)=pure (.type "method_descriptor"))(hm:Yu X id r)(hz:Y6 X r h)(ho:PE X o (tE X F))(ha:PA X (e::es) (K5 X L))(pa:PlainAttrs "list":=by exact qL)
  (nR:isCall o=false:=by rfl) (bH:aH (e::es)=true:=by rfl) (hn:(e::es).length<30:=by decide) (eL:(b6.endLine==bh.line)=true:=by rfl):
  PE X (.Call (.Attribute o name b6) (e::es) [] bh) (tE X fun Y A=>Y7 h (F Y A) (L Y)):=
 (Ed pa slot Lx hm ho ha (e_ nR) (by rw[ir bH,g_ (show(e::es).length+([]:List Keyword).length+(if([]:List Keyword).isEmpty then 0 else 1)<30 from hn)];rfl) eL (aS _ _ (az bH).1) (bZ (az bH).2)).weak fun Z H Q ⟨B,A,Y,ha,r,n,q⟩=>⟨B,A,Y,ha,r,n,q.bind.mono fun t A1 qt v B1 H1 g1 lT rv=>by
  split at qt
  ·rename_i i;obtain⟨a,rfl,pM⟩:=rv.me;obtain⟨hl,q2⟩:=fZ qt;obtain⟨xs,Y8⟩:=Qx lT pM hl;exact⟨.inl ⟨rfl,xs,jZ.of Y8⟩,B1,A1,Y,lT,r.grow n g1,n,((gg.bind q2).imp fun c A' x=>x.grow ha.hb g1).mono fun ts A2 qs vs B2 H2 g2 oh rs=>hz B2 A2 H2 a i vs ts Q oh (g2.jk.x _ _ pM) rs ((qs.imp fun c A' x=>x.grow ha.hb (g1.trans ha.hb g2)).mono fun t A3 qt v B3 H3 g3 Hn r3=>qt v B3 H3 ((g1.trans ha.hb g2).trans ha.hb g3) Hn r3)⟩
  ·exact qt.elim⟩
def Qy(i:Nat):List Tr->Ab->Rz Tr
 |[t],A=>match A[i]? with
  |some (.lst ts)=>if ts.length<d7 then .ok .bK (A.set i (.lst (ts++[t])))else .bad
  |_=>.bad
 |_,_=>.bad
theorem zq:Y6 X Ee Qy:=by
 intro B A H a i xs ts Q ha pM rs q;unfold Qy at q;split at q
 ·obtain⟨y,rfl,r1⟩:=eM rs;split at q
  ·rename_i eo;obtain⟨hz,q⟩:=fZ q;obtain⟨hd,vs,h1,h2⟩:=ha.get pM eo;obtain⟨g,h3⟩:=ha.write (o:=.lst (_++[_])) (u:=.lst (vs++[y])) pM ⟨hd,_,aU,by rw[hW hd];exact h2.append (.cons r1 .nil)⟩;exact⟨a,vs,y,rfl,rfl,h1,by rw[h2.length,<-iI];exact hz,q .bK B _ g h3 .bK⟩
  ·exact q.elim
 ·exact q.elim
end
def Bg(r:Rz Out):Rs Tr:=match r with
 |.ok (.nx _) _=>.ok .bK
 |.ok (.ret t) A=>if uA (aj 3 A t)=true then .ok (aj 3 A t)else .bad
 |_=>.bad
theorem wd{n:Nat}:fb (startT n ts):=fun i us e=>by
 rcases o6 e with q|⟨u,_,q⟩<;>cases q
theorem xw.okZ {base:Heap}{qual:Str}{st:Stmt}{f:Addr}{fd:FuncData}{N:List Str}{k:Nat}(Fn:xw K x qual st f fd)(S:fL N ps (aP st))(len:∀ts t,h ts=.ok t->ts.length=ps.length)
  (jz:∀(eI:Value) (A:Around) (outer:List Env) (s:Shared) (H:Hp) (E:XK),cp k (A.deeper (envOfC qual (aP st) s.heap.objs.size f eI))->
   ∃G,m6 (mX kN P w K mg base N qual (aP st) f eI A outer s H E).Hj (eB st) (tZ (mX kN P w K mg base N qual (aP st) f eI A outer s H E).Hj G)/\∀ts t,h ts=.ok t->gK ts=true/\Bg (G (startT N.length ts) [])=.ok t):c_ P w K mg base kN (k+1) f fd ps (spT K h):=by
 refine Fn.ok S (fun vs H Q E q=>?_) (fun eI A outer s H vs Q E hr q=>?_)
 ·obtain⟨B,ts,hb,r,t,e,_⟩:=q;rw[r.length];exact len ts t e
 ·obtain⟨B,ts,hb,r,t,e,q⟩:=q;obtain⟨G,hG,hE⟩:=jz eI A outer s H E hr;obtain⟨na,e1⟩:=hE ts t e
  let B0:dG:=⟨B.hd,fun _=>none⟩
  have Hm:HB B0 H:=hb;have ha0:HA K B0 [] H:=⟨Hm,fun i o z=>by simp at z,(fun a b i z=>by cases(show(none:Option Nat)=some i from z)),(fun a i z=>by cases(show(none:Option Nat)=some i from z))⟩;have r0:aV K (bq B0 H) vs ts:=aV.IH (W:=bq B H) (W':=bq B0 H) (fun _ _ e=>e) r na;have sm:∀{B':dG} {H':Hp},Grows B0 H B' H'->au H H':=fun g b o z=>g.kp b o rfl z;refine⟨_,hG,B0,H,B0,[],startT N.length ts,Hm,.refl,ha0,bL.start r0,wd,?_⟩;cases eo:G (startT N.length ts) []with
  |ok o A1=>
   rw[eo]at e1;cases o with
   |nx Y=>cases e1;exact fun cI B' H' g ha r' n'=>q .bK H' (sm g) .bK
   |ret u=>
    have e2:(if uA (aj 3 A1 u)=true then Rs.ok (aj 3 A1 u)else .bad)=.ok t:=e1;by_cases z:uA (aj 3 A1 u)=true
    ·rw[ag z]at e2;cases e2;intro v B' H' g ha r';refine q v H' (sm g) (Rep.IH (fun b o z=>?_) (iu ha 3 r') z);have z1:=aT b o z;cases hB:B.hd b with
     |false=>rw[fm hB];exact z1
     |true=>
      have h2:B'.hd b=true:=g.hd b rfl hB;have h3:B'.ix b=none:=by
       cases h4:B'.ix b with
       |none=>rfl
       |some i=>have h5:=g.nw b i h4 rfl;obtain⟨o2,h6⟩:=hb b hB;rw[h5]at h6;cases h6
      have z2:(if B'.un.hd b=true then none else H' b)=some o:=z;rw[show B'.un.hd b=(B'.hd b&&(B'.ix b).isNone)from rfl,h2,h3]at z2;cases z2
    ·rw[ak z]at e2;cases e2
   |_=>cases e1
  |_=>rw[eo]at e1;cases e1
def Bh(n m:Nat)(G:aQ->Ab->Rz Out)(ts:List Tr):Rs Tr:=if ts.length=n/\gK ts=true then Bg (G (startT m ts) [])else .bad
theorem IM{n m:Nat}{G:aQ->Ab->Rz Out}{t:Tr}(h:Bh n m G ts=.ok t):ts.length=n:=by
 unfold Bh at h;split at h
 ·rename_i z;exact z.1
 ·cases h
theorem Ml{n m:Nat}{G:aQ->Ab->Rz Out}{t:Tr}(h:Bh n m G ts=.ok t):gK ts=true/\Bg (G (startT m ts) [])=.ok t:=by
 unfold Bh at h;split at h
 ·rename_i z;exact⟨z.2,h⟩
 ·cases h
section
variable {a b:Expr}{es:List Expr}{A:aQ->Rs Bool}
theorem U6(h:PA X es (AW X L)):PE X (.List es pos) (tF X fun Y=>Iq (L Y)):=
 (HR h).weak fun Z H Q ⟨B,Y,hb,r,q⟩=>⟨B,Y,hb,r,q.bind.mono fun ts qt vs H1 s1 r1=>by
  by_cases hz:ts.length<=d7
  ·rw[ag hz]at qt;refine⟨by rw[r1.length,<-iI];exact hz,fun p hp=>qt (.ref p) _ (s1.AS (s1.free hp)) (.lst ((hb.same s1).new hp) (r1.same (aR (au.upd hp)))) fun p' e=>by cases e;exact .upd (s1.free hp) (fun _ _ z=>by cases z)⟩
  ·rw[ak hz]at qt;exact qt.elim⟩
theorem Qz:PE X (.Dict [] [] pos) (tF X fun _=>.ok (.bo [])):=
 H_.weak fun Z H Q ⟨B,Y,hb,r,q⟩ p hp=>q (.ref p) _ (au.upd hp) (.bo (.inl (hb.new hp)) rfl .nil) fun p' e=>by cases e;exact .upd hp (fun _ _ z=>by cases z)
variable {scope:Scope}{N':List Str}{ix:List (Option Nat)}{elt b8 tg:Expr}{ifs:List Expr}{T:pP}{W:aQ->Rs (List Tr)}
theorem yw{Q:VK}(hT:iZ T)(q:tF X (fun Y=>qF ix T A F (W Y) Y) Z H Q):SF (tI X W) ix (N4 X.K T) (N3 X.K A) (N2 X.K F) Z H Q:=by
 obtain⟨B,Y,hb,r,q⟩:=q;refine⟨B,Y,hb,r,q.bind.mono fun ts qt J H1 s1 gt D hD=>?_⟩;by_cases hz:ts.length<=d7
 ·rw[ag hz]at qt;exact uO hT (uN ix Y) (hb.same s1) gt hz ((r.same s1).comp ix (jA hD)) hD (Fi.bind qt) fun ys H' k s' rp=>k _ H' (s1.trans s') rp fun p e=>by cases e;exact .lst (s1.free hD) rp
 ·rw[ak hz]at qt;exact qt.elim
theorem Y9(Lk:fS X N' ix scope)(hi:PI X tg b8 (tI X W))(kO:LV X scope N' tg elt ifs T A F)(hT:iZ T)(hc:X.calm=true:=by rfl) (hs:isSet b8=false:=by rfl):
  PE X (.ListComp elt [⟨tg,b8,ifs,0⟩] scope pos) (tF X fun Y=>qF ix T A F (W Y) Y):=
 (Ij Lk hc hi kO.SJ (fX hs)).weak fun Z H Q q=>yw hT q
theorem Mm{px lB:Pos}(Lk:fS X N' ix scope)(hit:PI X tg b8 (tI X W))(kO:LV X scope N' tg elt ifs T A F)(hT:iZ T)(hN:X.N.Nodup:=by assumption) (hc:X.calm=true:=by rfl) (hi:X.N[i]?=some x:=by rfl) (hx:Loc X.env.scope x:=by first|exact Or.inl rfl|exact Or.inr rfl)
  (F5:swapsWith (.ListComp elt [⟨tg,b8,ifs,0⟩] scope pos) (some (.Name x px)) lB.line X.env=pure true:=by rfl) (hs:isSet b8=false:=by rfl) (hf:xu X x:=by first|exact .inl rfl|exact .inr rfl|assumption):
  PS X (.Assign [.Name x px] (.ListComp elt [⟨tg,b8,ifs,0⟩] scope pos) lB) (tZ X fun Y A'=>xK i (wc (qF ix T A F (W (cz A' Y)) (cz A' Y)) A') Y):=
 (vS Lk hc hN hi hx hit kO.SJ F5 (fX hs) hf).weak fun D Z H ⟨B0,H0,B,A',Y,hb,g,ha,r,n,q⟩=>yw hT (qi (F:=fun Y=>qF ix T A F (W Y) Y) (og (F:=fun Y A'=>wc (qF ix T A F (W (cz A' Y)) (cz A' Y)) A') hb g ha r n q.bind fun t A2 v B' H' qt g' kr r' rv _=>qt _ B' H' g' kr (r'.set i rv) (n.set i t)))
inductive rF(X:Cx)(h:List Tr->Rs Tr)(xs:List V)(H:Hp)(Q:VK):Prop
 |mk (B:dG) (ts:List Tr):HB B H->aV X.K (bq B H) xs ts->(Fi X H (h ts) fun t=>∀v H',au H H'->Rep X.K (bq B H') v t->(∀p,v=.ref p->Qo H H' p)->Q v H')->rF X h xs H Q
theorem IP{T:String}(hc:fj X (.type T) (rF X h))(hm:X.mg x=none)(ha:PA X (e::es) (AW X L))(hv:bootBuiltins x=some (.type T):=by rfl) (hg:Gl X x:=by rfl) (hn:x≠"__name__":=by decide) (dZ:Db x:=by decide)
  (bH:aH (e::es)=true:=by rfl):PE X (.Call (.Name x p) (e::es) [] pos) (tF X fun Y=>bP h (L Y)):=
 (sY hc hg hm hv ha hn dZ (aS _ _ (az bH).1) (bZ (az bH).2)).weak fun Z H Q ⟨B,Y,hb,r,q⟩=>⟨B,Y,hb,r,q.bind.mono fun ts qt vs H1 s1 r1=>⟨B,ts,hb.same s1,r1,(qt.same s1).mono fun t qt v H2 s2 r2 fr=>qt v H2 (s1.trans s2) r2 fun p e=>⟨s1.free (fr p e).1,(fr p e).2⟩⟩⟩
theorem Mn:fj X (.type "list") (rF X N5):=by
 intro U s Z H xs us Q I rv ⟨B,ts,hb,r,q⟩;unfold N5 at q;split at q
 ·obtain⟨x,e,r1⟩:=eM r;obtain⟨a,vs,rfl,h,rr⟩:=r1.cY;exact rR U s Z H _ us Q I rv ⟨_,_,e,.inr h.up,fun p hp=>q _ _ (au.upd hp) (.zh hb hp rr) fun p' e=>by cases e;exact .upd hp (fun _ _ z=>by cases z)⟩
 ·obtain⟨x,e,r1⟩:=eM r;obtain⟨a,vs,rfl,h,rr⟩:=r1.lst_inv;exact rR U s Z H _ us Q I rv ⟨_,_,e,.inl (.of (cZ h)),fun p hp=>q _ _ (au.upd hp) (.zh hb hp rr) fun p' e=>by cases e;exact .upd hp (fun _ _ z=>by cases z)⟩
 ·exact q.elim
end
section
variable {H1 H':Hp}{o:Obj}{kvs:List (Key×V)}
theorem Inv.frozen (I:Inv X U Z H s)(ha:H a=some (.dK kvs))(ho:s.heap.get? a=some o):Inv X U Z (upd H a (.jO o (.dK kvs))) s:=by
 have ne:∀{b:Addr} {u:HO},H b=some u->u≠ .dK kvs->b≠a:=fun{b u} e d z=>by subst z;rw[ha]at e;cases e;exact d rfl
 have nn:∀{b:Addr},H b=none->b≠a:=fun{b} e z=>by subst z;rw[ha]at e;cases e
 refine⟨I.ok,I.os,I.bare,⟨I.base.keep,I.base.slot,fun b ob e n hx=>?_,I.base.there,fun b xs e=>?_,fun b ob u e=>?_,fun b ps e=>?_⟩,I.loc,I.cell,?_,fun x c e=>?_,fun p hp=>?_,fun b u e=>?_,I.len⟩
 ·have q:=I.base.free b ob e n hx;rw[ay (nn q)];exact q
 ·have q:=I.base.jy b xs e;rw[ay (ne q (fun z=>by cases z))];exact q
 ·have q:=I.base.jP b ob u e;rw[ay (ne q (fun z=>by cases z))];exact q
 ·obtain⟨m,q⟩:=I.base.l9 b ps e;exact⟨m,by rw[ay (ne q (fun z=>by cases z))];exact q⟩
 ·rw[ay (nn I.free)];exact I.free
 ·rw[ay (nn (I.eK x c e))];exact I.eK x c e
 ·obtain⟨p1,p2,p3⟩:=I.pin p hp;exact⟨p1,by rw[ay (nn p2)];exact p2,p3⟩
 ·have ow:∀c d,H c=some (.own d)->upd H a (.jO o (.dK kvs)) c=some (.own d):=fun c d q=>by rw[ay (ne q (fun z=>by cases z))];exact q
  have tu:∀c xs,H c=some (.tup xs)->upd H a (.jO o (.dK kvs)) c=some (.tup xs):=fun c d q=>by rw[ay (ne q (fun z=>by cases z))];exact q
  by_cases z:b=a
  ·subst z;rw[aU]at e;cases e;exact⟨ho,(I.cj b _ ha).nM (fun _ _ _ q=>q) (fun c q=>ow c b q) tu⟩
  ·rw[ay z]at e;exact(I.cj b u e).nM (fun _ _ _ q=>q) (fun c q=>ow c b q) tu
theorem Inv.QC (I:Inv X U Z H s)(ha:H a=some (.jO o (.dK kvs)))(h0:∀o' u,X.AB a≠some (.jO o' u)):Inv X U Z (upd H a (.dK kvs)) s:=by
 have ne:∀{b:Addr} {u:HO},H b=some u->u≠ .jO o (.dK kvs)->b≠a:=fun{b u} e d z=>by subst z;rw[ha]at e;cases e;exact d rfl
 have nn:∀{b:Addr},H b=none->b≠a:=fun{b} e z=>by subst z;rw[ha]at e;cases e
 refine⟨I.ok,I.os,I.bare,⟨I.base.keep,I.base.slot,fun b ob e n hx=>?_,I.base.there,fun b xs e=>?_,fun b ob u e=>?_,fun b ps e=>?_⟩,I.loc,I.cell,?_,fun x c e=>?_,fun p hp=>?_,fun b u e=>?_,I.len⟩
 ·have q:=I.base.free b ob e n hx;rw[ay (nn q)];exact q
 ·have q:=I.base.jy b xs e;rw[ay (ne q (fun z=>by cases z))];exact q
 ·have q:=I.base.jP b ob u e;rw[ay (fun z=>by subst z;exact h0 _ _ e)];exact q
 ·obtain⟨m,q⟩:=I.base.l9 b ps e;exact⟨m,by rw[ay (ne q (fun z=>by cases z))];exact q⟩
 ·rw[ay (nn I.free)];exact I.free
 ·rw[ay (nn (I.eK x c e))];exact I.eK x c e
 ·obtain⟨p1,p2,p3⟩:=I.pin p hp;exact⟨p1,by rw[ay (nn p2)];exact p2,p3⟩
 ·have ow:∀c d,H c=some (.own d)->upd H a (.dK kvs) c=some (.own d):=fun c d q=>by rw[ay (ne q (fun z=>by cases z))];exact q
  have tu:∀c xs,H c=some (.tup xs)->upd H a (.dK kvs) c=some (.tup xs):=fun c d q=>by rw[ay (ne q (fun z=>by cases z))];exact q
  by_cases z:b=a
  ·subst z;rw[aU]at e;cases e;exact(I.cj b _ ha).2.nM (fun _ _ _ q=>q) (fun c q=>ow c b q) tu
  ·rw[ay z]at e;exact(I.cj b u e).nM (fun _ _ _ q=>q) (fun c q=>ow c b q) tu
structure yx(H H':Hp)(a:Addr)(u u':HO)(kvs:List (Key×V)):Prop where
 fr:H a=some u
 to:H'=upd H a u'
 ok:(u=.dK kvs/\∃o,u'=.jO o (.dK kvs))\/(u'=.dK kvs/\∃o,u=.jO o (.dK kvs))
variable {u u':HO}
theorem yx.sj (w:yx H H' a u u' kvs){b:Addr}{x:HO}(e:H b=some x)(h1:∀k,x≠ .dK k)(h2:∀o k,x≠ .jO o (.dK k)):H' b=some x:=by
 rw[w.to,ay ?_]
 ·exact e
 ·intro z;subst z;rw[w.fr]at e;cases e;rcases w.ok with⟨e1,_⟩|⟨_,o,e1⟩
  ·exact h1 _ e1
  ·exact h2 _ _ e1
theorem kB{b:Addr}{x:HO}(e:(bq B H).H b=some x)(h:H b=some x->H' b=some x):(bq B H').H b=some x:=by
 have e':(if B.hd b=true then none else H b)=some x:=e;show(if B.hd b=true then none else H' b)=some x;split at e'
 ·cases e'
 ·rename_i n;rw[ak n];exact h e'
theorem yx.seq (w:yx H H' a u u' kvs){b:Addr}{xs:List V}(h:jZ K (bq B H).H b xs):jZ K (bq B H').H b xs:=by
 rcases h with(h|⟨o,h⟩)|h
 ·exact .inl (.inl (kB h fun e=>w.sj e (fun _ z=>by cases z) fun _ _ z=>by cases z))
 ·exact .inl (.inr ⟨o,kB h fun e=>w.sj e (fun _ z=>by cases z) fun _ _ z=>by cases z⟩)
 ·exact .inr h
theorem yx.tup (w:yx H H' a u u' kvs){b:Addr}{xs:List V}(h:gR K (bq B H).H b xs):gR K (bq B H').H b xs:=by
 rcases h with(h|⟨o,h⟩)|h
 ·exact .inl (.inl (kB h fun e=>w.sj e (fun _ z=>by cases z) fun _ _ z=>by cases z))
 ·exact .inl (.inr ⟨o,kB h fun e=>w.sj e (fun _ z=>by cases z) fun _ _ z=>by cases z⟩)
 ·exact .inr h
theorem yx.bo (w:yx H H' a u u' kvs){b:Addr}{ks:List (Key×V)}(h:Rd (bq B H).H b (.dK ks)):Rd (bq B H').H b (.dK ks):=by
 by_cases z:b=a
 ·subst z;have hb:B.hd b=false:=by
   cases q:B.hd b with
   |false=>rfl
   |true=>
    have n:(bq B H).H b=none:=by show(if B.hd b=true then none else H b)=none;rw[ag q]
    rcases h with h|⟨o,h⟩<;>(rw[n]at h;cases h)
  have h':Rd H b (.dK ks):=by unfold Rd at h⊢;rw[fm hb]at h;exact h
  have ek:ks=kvs:=by
   rcases h' with h|⟨o,h⟩<;>rw[w.fr]at h<;>rcases w.ok with⟨e1,_⟩|⟨_,o',e1⟩<;>rw[e1]at h<;>cases h<;>rfl
  subst ek;unfold Rd;rw[fm hb,w.to,aU];rcases w.ok with⟨_,o',e1⟩|⟨e1,_⟩
  ·rw[e1];exact .inr ⟨o',rfl⟩
  ·rw[e1];exact .inl rfl
 ·have hn:(bq B H').H b=(bq B H).H b:=by
   show(if B.hd b=true then none else H' b)=(if B.hd b=true then none else H b);rw[w.to,ay z]
  unfold Rd;rw[hn];exact h
theorem yx.rep (w:yx H H' a u u' kvs){v:V}{t:Tr}(h:Rep K (bq B H) v t):Rep K (bq B H') v t:=by
 refine Rep.rec (motive_1:=fun v t _=>Rep K (bq B H') v t) (motive_2:=fun vs ts _=>aV K (bq B H') vs ts) ?_ ?_ ?_ ?_ ?_ ?_ ?_ ?_ ?_ ?_ ?_ ?_ ?_ ?_ ?_ h
 ·exact .bK
 ·exact fun b=>.bl b
 ·exact fun i=>.int i
 ·exact fun z h=>.str z h
 ·exact fun n=>.ty n
 ·exact fun h=>.mY (w.seq h)
 ·exact fun h _ r=>.tup (w.tup h) r
 ·exact fun h _ r=>.lst (kB h fun e=>w.sj e (fun _ z=>by cases z) fun _ _ z=>by cases z) r
 ·exact fun h e _ r=>.bo (w.bo h) e r
 ·exact fun h=>.at h
 ·exact fun h e _ r=>.ue (kB h fun e=>w.sj e (fun _ z=>by cases z) fun _ _ z=>by cases z) e r
 ·exact fun h e _ r=>.ob (kB h fun e=>w.sj e (fun _ z=>by cases z) fun _ _ z=>by cases z) e r
 ·exact fun h c=>.yf (kB h fun e=>w.sj e (fun _ z=>by cases z) fun _ _ z=>by cases z) c
 ·exact .nil
 ·exact fun _ _ h r=>.cons h r
theorem yx.U7 (w:yx H H' a u u' kvs):∀{vs:List V} {ts:List Tr},aV K (bq B H) vs ts->aV K (bq B H') vs ts
 |[],_,h=>by cases h;exact .nil
 |_::_,_,h=>by cases h with|cons h r=>exact .cons (w.rep h) (yx.U7 w r)
theorem yx.Ge {Y:aQ}(w:yx H H' a u u' kvs)(h:bL K B H Z Y):bL K B H' Z Y:=
 ⟨h.len,fun i t e=>by obtain⟨v,e1,r⟩:=h.sh i t e;exact⟨v,e1,w.rep r⟩,
   fun i ts e=>by obtain⟨D,ys,e1,e2,e3,r⟩:=h.ow i ts e;exact⟨D,ys,e1,e2,w.sj e3 (fun _ z=>by cases z) (fun _ _ z=>by cases z),w.U7 r⟩,h.ap⟩
theorem yx.hb (w:yx H H' a u u' kvs)(h:HB B H):HB B H':=fun b e=>by
 obtain⟨o,q⟩:=h b e;by_cases z:b=a
 ·subst z;rw[w.to];exact⟨_,aU⟩
 ·exact⟨o,by rw[w.to,ay z];exact q⟩
def Gf(X:Cx)(B:dG)(H H':Hp):Prop:=au H H'\/∃H1 a o kvs,au H H1/\B.hd a=false/\H1 a=some (.dK kvs)/\H'=upd H1 a (.jO o (.dK kvs))/\∀o u,X.AB a≠some (.jO o u)
def jC(X:Cx)(H:Hp)(k:Hp->Prop):Prop:=k H\/∃a o kvs,H a=some (.jO o (.dK kvs))/\(∀o u,X.AB a≠some (.jO o u))/\k (upd H a (.dK kvs))
theorem jC.inv {k:Hp->Prop}(q:jC X H k)(I:Inv X U Z H s):∃H',Inv X U Z H' s/\k H':=by
 rcases q with q|⟨a,o,kvs,e,h0,q⟩
 ·exact⟨H,I,q⟩
 ·exact⟨_,I.QC e h0,q⟩
theorem PE.SQ {t:TE}(h:PE X e t):PE X e (fun Z H Q=>t Z H fun v H'=>jC X H' (Q v)):=fun U s Z H Q I q=>
 dc (h U s Z H _ I q) fun u s' ⟨v,H',I',r,z⟩=>by
  obtain⟨H2,I2,q2⟩:=z.inv I';exact⟨v,H2,I2,r,q2⟩
def Ends.SQ (X:Cx)(D:Ends):Ends:=⟨fun Z H=>jC X H (D.nx Z),fun v H=>jC X H (D.rt v),fun Z H=>jC X H (D.bk Z),fun Z H=>jC X H (D.ct Z)⟩
theorem PS.SQ {st:Stmt}{t:TS}(h:PS X st t):PS X st (fun D Z H=>t (D.SQ X) Z H):=fun U s Z H D I q=>
 dc (h U s Z H _ I q) fun f s' z=>by
  cases f with
  |next=>obtain⟨cI,H',I',z⟩:=z;obtain⟨H2,I2,q2⟩:=jC.inv z I';exact⟨cI,H2,I2,q2⟩
  |brk=>obtain⟨cI,H',I',z⟩:=z;obtain⟨H2,I2,q2⟩:=jC.inv z I';exact⟨cI,H2,I2,q2⟩
  |cont=>obtain⟨cI,H',I',z⟩:=z;obtain⟨H2,I2,q2⟩:=jC.inv z I';exact⟨cI,H2,I2,q2⟩
  |ret u=>obtain⟨v,cI,H',I',r,z⟩:=z;obtain⟨H2,I2,q2⟩:=jC.inv z I';exact⟨v,cI,H2,I2,r,q2⟩
theorem Gf.Ge {Y:aQ}(h:Gf X B H H')(r:bL K B H Z Y):bL K B H' Z Y:=by
 rcases h with s|⟨H1,a,o,kvs,s,hv,ha,rfl,h0⟩
 ·exact r.same s
 ·exact yx.Ge (u:=.dK kvs) ⟨ha,rfl,.inl ⟨rfl,o,rfl⟩⟩ (r.same s)
theorem Gf.hb (h:Gf X B H H')(r:HB B H):HB B H':=by
 rcases h with s|⟨H1,a,o,kvs,s,hv,ha,rfl,h0⟩
 ·exact r.same s
 ·exact yx.hb (u:=.dK kvs) ⟨ha,rfl,.inl ⟨rfl,o,rfl⟩⟩ (r.same s)
theorem Gf.free {p:Addr}(h:Gf X B H H')(e:H' p=none):H p=none:=by
 rcases h with s|⟨H1,a,o,kvs,s,hv,ha,rfl,h0⟩
 ·exact s.free e
 ·refine s.free ?_
  by_cases z:p=a
  ·subst z;rw[aU]at e;cases e
  ·rw[ay z]at e;exact e
theorem Gf.back {H2:Hp}{B2:dG}{C:dG}(h:Gf X B H H')(si:c9 C B H' B2 H2):∃Hu,c9 C B H B2 Hu/\(∀{K:Frag} {B3:dG} {v:V} {t:Tr},Rep K (bq B3 H2) v t->Rep K (bq B3 Hu) v t)/\(∀{K:Frag} {Z:St} {Y:aQ},bL K B2 H2 Z Y->bL K B2 Hu Z Y)/\∀k:Hp->Prop,k Hu->jC X H2 k:=by
 rcases h with s|⟨H1,a,o,kvs,s,hv,ha,rfl,h0⟩
 ·exact⟨H2,⟨fun b o c e=>si.kp b o c (s _ _ e),(aR s).trans si.jk,si.sub,si.hb⟩,fun r=>r,fun r=>r,fun k q=>.inl q⟩
 ·have e1:(bq B (upd H1 a (.jO o (.dK kvs)))).H a=some (.jO o (.dK kvs)):=by rw[fm hv];exact aU
  have e2:=si.jk.h _ _ e1;have e3:H2 a=some (.jO o (.dK kvs)):=aT _ _ e2;have w:yx H2 (upd H2 a (.dK kvs)) a (.jO o (.dK kvs)) (.dK kvs) kvs:=⟨e3,rfl,.inr ⟨rfl,o,rfl⟩⟩;have hv2:B2.hd a=false:=by
   cases q:B2.hd a with
   |false=>rfl
   |true=>
    have n:(bq B2 H2).H a=none:=by show(if B2.hd a=true then none else H2 a)=none;rw[ag q]
    rw[n]at e2;cases e2
  refine⟨upd H2 a (.dK kvs),⟨fun b ob c e=>?_,⟨fun b ob e=>?_,fun b i e=>?_⟩,si.sub,w.hb si.hb⟩,fun r=>w.rep r,fun r=>w.Ge r,fun k q=>.inr ⟨a,o,kvs,e3,h0,q⟩⟩
  ·have q:=s _ _ e;by_cases z:b=a
   ·subst z;rw[ha]at q;cases q;exact aU
   ·rw[ay z];exact si.kp b ob c (by rw[ay z];exact q)
  ·by_cases z:b=a
   ·subst z;have q:=s _ _ (aT _ _ e);rw[ha]at q;cases q;rw[fm hv2];exact aU
   ·have q:(bq B (upd H1 a (.jO o (.dK kvs)))).H b=some ob:=kB e fun e=>by rw[ay z];exact s _ _ e
    exact kB (si.jk.h _ _ q) fun e=>by rw[ay z];exact e
  ·exact si.jk.x b i e
theorem Gf.Oh {H2:Hp}(h:Gf X B H H')(hb:HB B H)(s2:au H' H2):∃Hu,au H Hu/\(∀{K:Frag} {B3:dG} {v:V} {t:Tr},Rep K (bq B3 H2) v t->Rep K (bq B3 Hu) v t)/\∀k:Hp->Prop,k Hu->jC X H2 k:=by
 obtain⟨Hu,si,r,_,k⟩:=h.back (C:=B) (B2:=B) (H2:=H2) ⟨fun b o _ e=>s2 _ _ e,aR s2,.refl,(h.hb hb).same s2⟩;exact⟨Hu,si.same,r,k⟩
end
def Y_(a:Addr)(o:Obj)(kvs:List (Key×V)):It:=
 ⟨fun i H=>H a=some (.jO o (.dK kvs))/\i<kvs.length,fun i H x H'=>H'=H/\∃k v,kvs[i]?=some (k,v)/\x=kV k,fun i H=>H a=some (.jO o (.dK kvs))/\kvs.length<=i⟩
theorem zr{kvs:List (Key×V)}{vs:List (Key×Value)}(r:KV kvs vs){k:Key}{v:V}(e:kvs[i]?=some (k,v)):∃u,vs[i]?=some (k,u):=by
 have r':Paired _ kvs vs:=r
 clear r
 induction r' generalizing i with
 |nil=>simp at e
 |cons h t ih=>
  cases i with
  |zero=>
   simp at e;subst e;rename_i q _ _;obtain⟨qk,qu⟩:=q;cases h.1;exact⟨qu,rfl⟩
  |succ j=>exact ih (by simpa using e)
theorem qj{κ:Type}{kvs:List (κ×V)}{vs:List (κ×Value)}(r:KV kvs vs):kvs.length=vs.length:=by
 have r':Paired _ kvs vs:=r
 clear r
 induction r' with
 |nil=>rfl
 |cons h t ih=>rw[cG,cG,ih]
theorem Gg{tg:Expr}(a it:Addr)(o:Obj)(kvs:List (Key×V))(es:Array DictEntry)(ep:Nat)(hd:o.data=.dict es ep):Turn P w K tg (Y_ a o kvs) [it] it (fun i h=>h.IsKeyIter it a i kvs.length ep) where
 mem:=by simp
 obj:=fun i h st b hb=>by
  have e:b=it:=by simpa using hb
  subst e;obtain⟨o,e,c,d⟩:=st;exact⟨o,e,fun v z=>by rw[d]at z;cases z⟩
 keep:=fun i h h' st k=>by
  obtain⟨o,e,c⟩:=st;exact⟨o,k it (by simp) o e,c⟩
 item:=by
  intro X hP hw hK hc i U s Z H E I hf st ⟨hg,hi⟩;subst hP hw hK;obtain⟨ho,hz,hs,vs,rv,o',y2,Hx,h1,h2,h3,h4⟩:=(show ck X.prog X.w H s.heap a (.jO o (.dK kvs))from I.cj a _ hg);rw[ho]at h1;cases h1;rw[hd]at h3;cases h3;obtain⟨f0,f1,f2,f3,f4,f5⟩:=hf it (by simp);have hl:=qj rv;have ex:kvs[i]?=some (kvs[i].1,kvs[i].2):=by simp[hi]
  obtain⟨u,hu⟩:=zr rv ex;rw[hl]at st;refine wpAny_pyNext_dict_item (knd:=bx X.prog X.w) st ⟨o,es,ho,h2,hd,h4⟩ hu fun key h' hk vD sb=>?_
  have I1:Inv X U Z H {s with heap:=h'}:=I.turned (t':=s.toks) (fun b o hb e=>(sb.2 b hb).trans e) f0 f1 f3 f4 f5;obtain⟨oi,e,c,d⟩:=id vD;refine⟨key,rfl,x6 (s:={s with heap:=h'}) e c d (by decide) ⟨kV kvs[i].1,H,I1,?_,⟨rfl,_,_,ex,rfl⟩,by rw[hl];exact vD,fun b hb=>(hf b hb).1⟩⟩;rcases cM hk with⟨j,t,e1,e2⟩|⟨y,t,e1,e2⟩
  ·rw[e1,e2];exact⟨t,rfl⟩
  ·rw[e1,e2];exact⟨t,rfl⟩
 done:=by
  intro X hP hw hK hc i U s Z H E I hf st ⟨hg,hi⟩;subst hP hw hK;obtain⟨ho,hz,hs,vs,rv,o',y2,Hx,h1,h2,h3,h4⟩:=(show ck X.prog X.w H s.heap a (.jO o (.dK kvs))from I.cj a _ hg);rw[ho]at h1;cases h1;rw[hd]at h3;cases h3;obtain⟨f0,f1,f2,f3,f4,f5⟩:=hf it (by simp);have hl:=qj rv;rw[hl]at st;exact wpAny_pyNext_dict_end (knd:=bx X.prog X.w) (I.ok.hd hc) st ⟨o,es,ho,h2,hd,h4⟩ (List.getElem?_eq_none (by rw[<-hl];exact hi)) fun h' eb=>⟨rfl,I.turned (t':=s.toks) (fun b o hb e=>eb b o hb e) f0 f1 f3 f4 f5⟩
 self:=fun _ _ _ _ _ st h=>wpAny_pyIter_keyiter st h
def yy:Key->Tr
 |.inl i=>.int i
 |.inr z=>.str z
def keyOk:Key->Bool
 |.inl _=>true
 |.inr z=>decide (z.length<=bV)
theorem yz{W:Vw}{k:Key}(h:keyOk k=true):Rep K W (kV k) (yy k):=by
 cases k with
 |inl i=>exact .int i
 |inr z=>exact .str z (dk h)
def Bi(aG:List (Key×Tr)):Rs (List Tr):=if aG.all (fun p=>keyOk p.1)=true then .ok (aG.map fun p=>yy p.1)else .bad
def IQ(r:Rs Tr):Rs (List Tr):=r.bind fun t=>match t with
 |.bo aG=>Bi aG
 |_=>.bad
inductive tJ(X:Cx)(W:aQ->Rs (List Tr))(Z:St)(H:Hp)(R:It->Hp->Prop):Prop
 |mk (B:dG) (Y:aQ):HB B H->bL X.K B H Z Y->(Fi X H (W Y) fun ts=>∀J H',Gf X B H H'->lD X.K B J H' ts->R J H')->tJ X W Z H R
theorem Dc{o:Obj}{kvs:List (Key×V)}{aG:List (Key×Tr)}(h:(bq B H).H a=some (.jO o (.dK kvs)))(e:kvs.map (·.1)=aG.map (·.1))(hk:aG.all (fun p=>keyOk p.1)=true):lD K B (Y_ a o kvs) H (aG.map fun p=>yy p.1):=by
 have hl:kvs.length=aG.length:=by have q:=cw List.length e;rw[aC,aC]at q;exact q
 refine⟨fun i B' H' hi s hb=>⟨aT _ _ (s.h _ _ h),by rw[aC]at hi;rw[hl];exact hi⟩,fun i B' H' x K3 hi s hb ⟨eh,k,v,ek,ex⟩=>?_,fun B' H' s=>⟨aT _ _ (s.h _ _ h),by rw[aC,hl];exact aN _⟩⟩;subst eh ex;have e1:(kvs.map (·.1))[i]?=some k:=by rw[bg,ek];rfl
 rw[e,bg]at e1;cases e2:aG[i]? with
 |none=>rw[e2]at e1;cases e1
 |some p=>
  rw[e2]at e1;have e3:p.1=k:=Option.some.inj e1;refine⟨au.refl _,yy k,by rw[bg,e2,<-e3];rfl,yz ?_⟩;rw[<-e3];exact cO.mp hk p (cV e2)
section
theorem U8{tg l:Expr}(hl:PE X l (tP X F)):PI X tg l (tJ X fun Y=>IQ (F Y)):=by
 intro U s Z H R I ⟨B,Y,hb,r,q⟩;refine dc (hl U s Z H (fun x H1=>∃(a:Addr) (kvs:List (Key×V)) (aG:List (Key×Tr)),x=.ref a/\au H H1/\Rd (bq B H1).H a (.dK kvs)/\kvs.map (·.1)=aG.map (·.1)/\aG.all (fun p=>keyOk p.1)=true/\∀J H',Gf X B H H'->lD X.K B J H' (aG.map fun p=>yy p.1)->R J H') I ⟨B,Y,hb,r,q.bind.mono fun t qt v H1 s1 r1=>?_⟩) fun v s1 ⟨x,H1,I1,r1,a,kvs,aG,ex,sm,rd,ek,hk,k⟩=>?_
 ·skip
  split at qt
  ·obtain⟨a,kvs,e0,h,e,rr⟩:=r1.md;obtain⟨z,q1⟩:=fY qt;exact⟨a,kvs,_,e0,s1,h,e,z,q1⟩
  ·exact qt.elim
 ·subst ex;cases r1;have rd1:Rd H1 a (.dK kvs):=rd.same aT;have hv:B.hd a=false:=by
   cases z:B.hd a with
   |false=>rfl
   |true=>
    have n:(bq B H1).H a=none:=by show(if B.hd a=true then none else H1 a)=none;rw[ag z]
    rcases rd with h|⟨o,h⟩<;>(rw[n]at h;cases h)
  obtain⟨hz,hs,vs,rv,o,es,ep,h1,h2,h3,h4⟩:=(show ck X.prog X.w H1 s1.heap a (.dK kvs)from rd1.ok I1.cj);refine wpAny_pyIter_dict (knd:=bx X.prog X.w) hs ⟨o,es,h1,h2,h3,h4⟩ ?_
  have fin:∀{H2:Hp},Inv X U Z H2 s1->H2 a=some (.jO o (.dK kvs))->Gf X B H H2->Tv X U Z tg R (.ref s1.heap.objs.size) {s1 with heap:=s1.heap.push {cls:=.type "dict_keyiterator",data:=.fields #[.ref a,.int 0 0,.int vs.length 0,.int ep 0]}}:=fun{H2} I2 e2 tf=>
   ⟨s1.heap.objs.size,[s1.heap.objs.size],_,Y_ a o kvs,H2,rfl,I2.kept (t':=s1.toks) fun b o e=>aX _ e,Gg a _ o kvs es ep h3,⟨_,bE _ rfl,rfl,by rw[qj rv];rfl⟩,fun b hb=>by
    have e:b=s1.heap.objs.size:=by simpa using hb
    subst e;exact I2.vC (aN _) (I2.cj.fresh (aN _)),k _ H2 tf (Dc (by rw[fm hv];exact e2) ek hk)⟩
  rcases rd1 with e1|⟨o',e1⟩
  ·refine fin (I1.frozen e1 h1) aU (.inr ⟨H1,a,o,kvs,sm,hv,e1,rfl,fun o' u e0=>?_⟩);have q:=I1.base.jP a o' u e0;rw[e1]at q;cases q
  ·have eo:o'=o:=by
    have q:=(show ck X.prog X.w H1 s1.heap a (.jO o' (.dK kvs))from I1.cj a _ e1).1;rw[h1]at q;cases q;rfl
   subst eo;exact fin I1 e1 (.inl sm)
variable {a b:Expr}{es:List Expr}{A:aQ->Rs Bool}{scope:Scope}{N':List Str}{ix:List (Option Nat)}{elt b8 tg:Expr}{ifs:List Expr}{T:pP}{W:aQ->Rs (List Tr)}
theorem Gh{Q:VK}(hT:iZ T)(q:tP X (fun Y=>qF ix T A F (W Y) Y) Z H Q):SF (tJ X W) ix (N4 X.K T) (N3 X.K A) (N2 X.K F) Z H (fun v H'=>jC X H' (Q v)):=by
 obtain⟨B,Y,hb,r,q⟩:=q;refine⟨B,Y,hb,r,q.bind.mono fun ts qt J H1 tf gt D hD=>?_⟩;by_cases hz:ts.length<=d7
 ·rw[ag hz]at qt;exact uO hT (uN ix Y) (tf.hb hb) gt hz ((tf.Ge r).comp ix (jA hD)) hD (Fi.bind qt) fun ys H' k s' rp=>by
   obtain⟨Hu,su,ru,ku⟩:=tf.Oh hb s';exact ku _ (k _ Hu su (ru rp))
 ·rw[ak hz]at qt;exact qt.elim
theorem U9(Lk:fS X N' ix scope)(hi:PI X tg b8 (tJ X W))(kO:LV X scope N' tg elt ifs T A F)(hT:iZ T)(hc:X.calm=true:=by rfl) (hs:isSet b8=false:=by rfl):
  PE X (.ListComp elt [⟨tg,b8,ifs,0⟩] scope pos) (tP X fun Y=>qF ix T A F (W Y) Y):=
 (Ij Lk hc hi kO.SJ (fX hs)).SQ.weak fun Z H Q q=>Gh hT q
theorem QH{body:List Stmt}{G:aQ->Rs Out}(hi:PI X tg b8 (tJ X W))(hg:PG X tg (tG X T))(hb:m6 X body (tS X G))(hp:PassesOwn (model X.prog X.w) X.A X.env X.xe:=by exact rn) (hc:X.calm=true:=by rfl)
  (hs:isSet b8=false:=by rfl):PS X (.For tg b8 body [] pos) (tS X fun Y=>Er T G (W Y) Y):=
 (HH hp hc hi hg hb (fX hs)).SQ.weak fun D Z H ⟨C,B0,H0,B,Y,si,r,q⟩=>⟨B,Y,si.hb,r,(q.bind.here si).mono fun ts qt J H1 tf gt=>by
  have si0:c9 B B H1 B H1:=c9.refl (tf.hb si.hb) .refl;have fin:∀{c:Tr},xS X C B0 H0 c->False:=fun{c} xc=>xc B H si;have qt:=o5.imp (SG:=fun _=>False) qt fun c xc=>(fin xc).elim;refine⟨fun i m cI H'=>m=ts.length - i/\i<=ts.length/\∃B' iG,c9 C B H1 B' H'/\bL X.K B' H' cI iG/\o5 (fun _=>False) (xH T G (ts.drop i) iG) (CV X D C B0 H0),⟨_,rfl,dh _,B,Y,c9.refl (tf.hb si.hb) si.sub,tf.Ge r,qt⟩,?_⟩
  rintro i m cI H' ⟨rfl,hi,B',iG,LQ,r',q'⟩
  by_cases fR:i<ts.length
  ·rw[qH fR]at q';refine .inr ⟨gt.go i B' H' fR LQ.jk LQ.hb,fun xB H2=>∃B2 iH,c9 C B H1 B2 H2/\bL X.K B2 H2 xB iH/\o5 (fun _=>False) (xH T G (ts.drop (i+1)) iH) (CV X D C B0 H0),
    fun xB H2 ⟨B2,iH,x1,x2,x3⟩=>⟨ts.length - (i+1),by omega,rfl,fR,B2,iH,x1,x2,x3⟩,fun x H2 hx=>?_⟩
   obtain⟨s2,t,et,rt⟩:=gt.FR i B' H' x H2 fR LQ.jk LQ.hb hx;have UG:ts[i]=t:=by rw[bb fR]at et;exact Option.some.inj et
   rw[UG]at q';have si2:=LQ.go s2;have qq:o5 (fun _=>False) (T t iG) _:=o5.bind q';refine⟨B',iG,t,si2.hb,r'.same s2,rt,(o5.imp qq fun c z=>z.elim).mono fun qE q1 NR H3 s3 r3=>?_⟩;have SR:=si2.go s3;refine⟨C,B',H3,B',qE,c9.refl SR.hb SR.sub,r3,((o5.bind q1).imp fun c z=>z.elim).mono fun o qo=>?_⟩;cases o with
   |nx iH=>exact fun Qv B4 H4 QK r4=>⟨B4,iH,SR.trans QK,r4,qo⟩
   |ct iH=>exact fun Qv B4 H4 QK r4=>⟨B4,iH,SR.trans QK,r4,qo⟩
   |bk iH=>
    intro Qv B4 H4 QK r4;obtain⟨Hu,su,ru,rs,ku⟩:=tf.back (SR.trans QK);exact ku _ (qo Qv B4 Hu (si.trans su) (rs r4))
   |ret t=>
    intro v B4 H4 QK r4;obtain⟨Hu,su,ru,rs,ku⟩:=tf.back (SR.trans QK);exact ku _ (qo v B4 Hu (si.trans su) (ru r4))
  ·have e:i=ts.length:=by omega
   subst e;rw[ra]at q';obtain⟨Hu,su,ru,rs,ku⟩:=tf.back LQ;exact .inl ⟨gt.stop B' H' LQ.jk,ku _ (q' cI B' Hu (si.trans su) (rs r'))⟩⟩
end
theorem qm{α:Type}:∀(l:List α) (i:Nat) (hi:i<l.length),(l[i]::l.eraseIdx i).Perm l
 |x::r,0,_=>List.Perm.refl _
 |x::r,i+1,hi=>by
  have ih:=qm r i (by simpa using hi);have Xv:i<r.length:=by simpa using hi
  show(r[i]::x::r.eraseIdx i).Perm (x::r);exact(List.Perm.swap _ _ _).trans (ih.cons x)
section
variable {prog:Program}
theorem De{M:Model}{src:Source}{n:Nat}{Q:Nat->Shared->Prop}(hn:n≠0)(h:∀i,i<n->∀d,Q i {s with drawn:=d}):wpAny M A (choose src n) Q E s:=fun Γ p _=>by
 unfold choose;rw[Sem.wp];refine⟨hn,?_⟩;rw[Sem.wp];exact h _ (Nat.mod_lt _ (Nat.pos_of_ne_zero hn)) _
theorem pR{M:Model}{α:Type}:∀(n:Nat) (xs:List α) (s:Shared) (Q:List α->Shared->Prop),xs.length=n->(∀ys d,ys.Perm xs->Q ys {s with drawn:=d})->wpAny M A (drawOrder n xs) Q E s
 |0,xs,s,Q,hl,h=>by
  cases xs with
  |nil=>exact ar (h [] s.drawn (List.Perm.refl _))
  |cons _ _=>cases hl
 |n+1,[],s,Q,hl,h=>by cases hl
 |n+1,x::r,s,Q,hl,h=>by
  unfold drawOrder;refine af (De (by simp) fun i hi d=>?_);have hx:(x::r)[i]?=some (x::r)[i]:=bb hi
  rw[hx];dsimp only;refine af (pR n _ _ _ (by rw[Aw hi];simpa using hl) fun ys d' hp=>?_);refine ar (h _ d' ?_);exact(hp.cons _).trans (qm _ i hi)
end
abbrev As(w:World):Bool:=w.params.followText "set-order"
def ent(w:World)(p:Str×Tok):Int×Value:=(hashStr w p.1,.str p.1 p.2)
def jR(w:World)(h:Heap)(a:Addr)(ss:List Str):Prop:=
 ∃(o:Obj) (es:Array (Int×Value)) (ep:Nat) (t:SetTable) (l:List (Str×Tok)),h.get? a=some o/\o.ExactSet/\o.data=.set es ep t/\es.toList=l.map (ent w)/\(l.map (·.1)).Perm ss/\ss.Nodup/\es.size<scanBound/\
  t.fits es.size=true/\(As w=true\/t.led=true)/\(es.size≠0->t.plain=false)
theorem Gi{prog:Program}{l:List (Str×Tok)}:ElemsOf (PySem.strKind prog w) (l.map (ent w)):=fun e he=>by
 obtain⟨p,_,rfl⟩:=cc.mp he;exact⟨⟨p.1,by simp[PySem.strKind,ent,Value.isStrOf],rfl⟩,rfl⟩
theorem jR.typeIs {ss:List Str}(h:jR w s.heap a ss):s.TypeIs (.ref a) "set":=by
 obtain⟨o,_,_,_,_,ho,hx,_⟩:=h;exact⟨o,ho,hx.1⟩
theorem xM(t:SetTable)(n:Nat):(t.orStandIn n).led=t.led:=by
 unfold SetTable.orStandIn;split<;>rfl
theorem Mo(t:SetTable)(j:Nat):(t.put j).1.led=t.led:=by
 unfold SetTable.put
 rfl
theorem Dg(t:SetTable)(es:Array (Int×Value))(h:Int)(x:Value):(layNew t es h x).2.1.led=t.led:=by
 unfold layNew;split
 ·dsimp only;rw[xM,Mo]
 ·rfl
theorem Dh{t t':SetTable}{hs:Array Int}{n:Nat}{o:Array Nat}(h:t.relaid hs n=some (t',o)):t'.led=t.led/\t'.plain=t.plain:=by
 unfold SetTable.relaid SetTable.laid at h;simp only[bind,Option.bind]at h;split at h
 ·cases h
 ·cases h;exact⟨rfl,rfl⟩
theorem zt(t:SetTable)(es:Array (Int×Value))(n:Nat):(relayAll t es n).2.1.led=t.led/\(t.plain=false->(relayAll t es n).2.1.plain=false):=by
 unfold relayAll;split
 ·rename_i t' o e;have q:=Dh e;dsimp only;split
  ·exact⟨q.1,fun z=>q.2.trans z⟩
  ·exact⟨rfl,fun _=>rfl⟩
 ·exact⟨rfl,fun _=>rfl⟩
theorem yA{prog:Program}(x:Str)(p:Str×Tok):(PySem.strKind prog w).is x (ent w p).2=decide (x=p.1):=by
 have h:(PySem.strKind prog w).is p.1 (ent w p).2=true:=by simp[PySem.strKind,ent,Value.isStrOf]
 exact KeyKind.is_eq_decide h x
section
variable {prog:Program}
theorem we{h:Heap}{o:Obj}{es:Array (Int×Value)}{ep:Nat}{t:SetTable}(ho:h.get? a=some o)(hex:o.ExactSet)(hd:o.data=.set es ep t){y2:Array (Int×Value)}{t':SetTable}{l':List (Str×Tok)}{xx:List Str}
  (he:y2.toList=l'.map (ent w)) (hp:(l'.map (·.1)).Perm xx) (hn:xx.Nodup) (hb:y2.size<scanBound) (hf:t'.fits y2.size=true) (hl:As w=true\/t'.led=true) (mL:y2.size≠0->t'.plain=false):
  (h.update a (Obj.putSet y2 t')).get? a=some {o with data:=.set y2 (ep+1) t'}/\jR w (h.update a (Obj.putSet y2 t')) a xx:=by
 have hg:(h.update a (Obj.putSet y2 t')).get? a=some {o with data:=.set y2 (ep+1) t'}:=by
  have q:=qR (Obj.putSet y2 t') ho (by rw[putSet_of y2 t' hd];rfl);rw[putSet_of y2 t' hd]at q;exact q
 exact⟨hg,_,y2,ep+1,t',l',hg,hex,rfl,he,hp,hn,hb,hf,hl,mL⟩
theorem Gj{l:List (Str×Tok)}{u:Tok}{es:List (Int×Value)}(hp:es.Perm (l.map (ent w)++[(hashStr w x,.str x u)])):∃l':List (Str×Tok),es=l'.map (ent w)/\l'.Perm (l++[(x,u)]):=by
 have e:l.map (ent w)++[(hashStr w x,Value.str x u)]=(l++[(x,u)]).map (ent w):=by rw[cP];rfl
 rw[e]at hp;have back:∀(yZ:List (Str×Tok)) (es:List (Int×Value)),es.Perm (yZ.map (ent w))->∃l':List (Str×Tok),es=l'.map (ent w)/\l'.Perm yZ:=by
  intro yZ es hp
  let f:Int×Value->Str×Tok:=fun e=>match e.2 with
   |.str y t=>(y,t)
   |_=>(x,u)
  have fe:∀p,f (ent w p)=p:=fun p=>rfl;have h1:∀e∈es,ent w (f e)=e:=fun e he=>by
   obtain⟨p,_,rfl⟩:=cc.mp (hp.mem_iff.mp he);rw[fe]
  refine⟨es.map f,?_,?_⟩
  ·rw[bT]
   conv=>lhs;rw[<-jw es]
   exact fE fun e he=>(h1 e he).symm
  ·have h2:=hp.map f;rw[bT]at h2;have h3:List.map (f∘ent w) yZ=yZ:=by
    conv=>rhs;rw[<-jw yZ]
    exact fE fun p _=>fe p
   rw[h3]at h2;exact h2
 exact back _ _ hp
theorem wg{l:List (Str×Tok)}{es:List (Int×Value)}(hp:es.Perm (l.map (ent w))):∃l':List (Str×Tok),es=l'.map (ent w)/\l'.Perm l:=by
 let f:Int×Value->Str×Tok:=fun e=>match e.2 with
  |.str y t=>(y,t)
  |_=>(Str.empty,0)
 have fe:∀p,f (ent w p)=p:=fun p=>rfl;have h1:∀e∈es,ent w (f e)=e:=fun e he=>by
  obtain⟨p,_,rfl⟩:=cc.mp (hp.mem_iff.mp he);rw[fe]
 refine⟨es.map f,?_,?_⟩
 ·rw[bT]
  conv=>lhs;rw[<-jw es]
  exact fE fun e he=>(h1 e he).symm
 ·have h2:=hp.map f;rw[bT]at h2;have h3:List.map (f∘ent w) l=l:=by
   conv=>rhs;rw[<-jw l]
   exact fE fun p _=>fe p
  rw[h3]at h2;exact h2
theorem Bj{g:Bool->Sem Unit}(hg:∀(b:Bool) (cy:Shared) (Q':Unit->Shared->Prop),Q' () cy->wpAny (model prog w) A (g b) Q' E cy){o:Obj}{es:Array (Int×Value)}{ep:Nat}{t:SetTable}
  (ho:s.heap.get? a=some o) (hex:o.ExactSet) (hd:o.data=.set es ep t) {uB:Array (Int×Value)} {t2:SetTable} {l1:List (Str×Tok)} {ss:List Str}
  (Y':uB.toList=l1.map (ent w)) (hp1:(l1.map (·.1)).Perm ss) (hn1:ss.Nodup) (C':uB.size<scanBound) (hf2:t2.fits uB.size=true) (K':As w=true\/t2.led=true) (U_:t2.plain=false) {Bk:Bool} {R:Option Bool->Shared->Prop}
  (h:∀h',Heap.SameBut a s.heap h'->jR w h' a ss->R (some true) {s with heap:=h'}):
  wpAny (model prog w) A (do
    storeSet a uB t2
    if(!Bk&&t2.tooFull)=true then do
       g (relayAll t2 uB (SetTable.grown uB.size)).2.2
       storeSet a (relayAll t2 uB (SetTable.grown uB.size)).1 (relayAll t2 uB (SetTable.grown uB.size)).2.1
       pure (some true)
     else pure (some true)) R E s:=by
 refine af (wpAny_storeSet_of ho hd ?_ (vv C'));obtain⟨Oi,U'⟩:=we (w:=w) ho hex hd Y' hp1 hn1 C' hf2 K' fun _=>U_;have sb1:=nj s.heap a (Obj.putSet uB t2);split
 ·have hp:=relayAll_perm t2 uB (SetTable.grown uB.size);have SN:=relayAll_fits t2 uB (SetTable.grown uB.size);have Xw:=zt t2 uB (SetTable.grown uB.size);generalize relayAll t2 uB (SetTable.grown uB.size)=Rl at hp SN Xw⊢;obtain⟨Za,t3,aaA⟩:=Rl;dsimp only at hp SN Xw⊢;rw[Y']at hp;obtain⟨l2,e2,p2⟩:=wg hp;have hsz:Za.size=uB.size:=by
   have q:=hp.length_eq;rw[<-Y',eW,eW]at q;exact q
  have Mp:Za.size<scanBound:=by rw[hsz];exact C'
  refine af (hg _ _ _ ?_);refine af (wpAny_storeSet_of Oi rfl ?_ (vv Mp));obtain⟨_,Zb⟩:=we (w:=w) (h:=s.heap.update a (Obj.putSet uB t2)) Oi hex rfl e2 ((p2.map _).trans hp1) hn1 Mp SN (K'.imp id fun z=>Xw.1.trans z) fun _=>Xw.2 U_;exact ar (h _ (sb1.trans (nj _ a _)) Zb)
 ·exact ar (h _ sb1 U')
def iJ(ss:List Str)(x:Str):List Str:=if x∈ss then ss else ss++[x]
theorem Zc{ss:List Str}{u:Tok}{Q:Bool->Shared->Prop}(hS:jR w s.heap a ss)(wj:ss.length+1<scanBound)
  (h:∀b h',Heap.SameBut a s.heap h'->jR w h' a (iJ ss x)->Q b {s with heap:=h'}):wpAny (model prog w) A (setAddHashed a (.str x u) (hashStr w x)) Q E s:=by
 obtain⟨o,es,ep,t,l,ho,hex,hd,he,hp,hn,hb,hf,hl,mL⟩:=id hS;have hel:ElemsOf (PySem.strKind prog w) es.toList:=by rw[he];exact Gi
 have b7:es.size=ss.length:=by
  have q:=cw List.length he;rw[eW,aC]at q;have q2:=hp.length_eq;rw[aC]at q2;omega
 have HL:(PySem.strKind prog w).is x (.str x u)=true:=by simp[PySem.strKind,Value.isStrOf]
 unfold setAddHashed setAddHashedIn;refine dO (af (js ho hd hf ?_));dsimp only;rw[byScan_of (knd:=PySem.strKind prog w) rfl hb hel];simp only[↓reduceIte];unfold setAddByScan;refine af ?_
 refine af (dY ?_);refine af (wpAny_setScan_of (knd:=PySem.strKind prog w) HL ho hd hf hel ?_);have Gk:x∈ss↔∃e∈es.toList,(PySem.strKind prog w).is x e.2=true:=by
  rw[he,<-hp.mem_iff];constructor
  ·intro m;obtain⟨p,Oj,rfl⟩:=cc.mp m;exact⟨ent w p,fF Oj,by rw[yA];simp⟩
  ·rintro ⟨e,Zd,hx⟩
   obtain⟨p,Oj,rfl⟩:=cc.mp Zd;rw[yA,jq]at hx;rw[hx];exact fF Oj
 cases hr:List.findIdx? (fun e=>(PySem.strKind prog w).is x e.2) es.toList with
 |some j=>
  dsimp only;obtain⟨hj,hpj,_⟩:=Au.mp hr;have hx:x∈ss:=Gk.mpr ⟨es.toList[j],jt hj,hpj⟩;refine ar (ar ?_);have q:=h false s.heap (Heap.SameBut.refl a s.heap) (by unfold iJ;rw[ag hx];exact hS);exact q
 |none=>
  dsimp only;have hx:¬x∈ss:=fun m=>by
   obtain⟨e,Zd,q⟩:=Gk.mp m;have z:=List.findIdx?_eq_none_iff.mp hr e Zd;rw[q]at z;cases z
  have hgw:∀(b:Bool) {cy:Shared} {Q':Unit->Shared->Prop},Q' () cy->wpAny (model prog w) A (match b with|true=>rule "set.scan.the-table-gave-way"|false=>pure ()) Q' E cy:=
   fun b cy Q' hq=>by cases b<;>first|exact ar hq|exact dY hq
  have wk:=layNew_perm t es (hashStr w x) (.str x u);have EN:=layNew_fits t es (hashStr w x) (.str x u);have Gm:=Dg t es (hashStr w x) (.str x u);generalize layNew t es (hashStr w x) (.str x u)=L at wk EN Gm⊢;obtain⟨uB,t1,Bk,aaG⟩:=L;dsimp only at wk EN Gm⊢;rw[Array.toList_push,he]at wk;obtain⟨l1,e1,p1⟩:=Gj wk;have hsz:uB.size=es.size+1:=by
   have q:=wk.length_eq;rw[cD,<-he,eW,eW]at q;simpa using q
  have C':uB.size<scanBound:=by omega
  have Po:(l1.map (·.1)).Perm (ss++[x]):=by
   have q:=p1.map (·.1);rw[cP]at q;exact q.trans (hp.append_right _)
  have O8:(ss++[x]).Nodup:=by
   rw[List.nodup_append];refine⟨hn,by simp,fun y hy z hz e=>?_⟩;rw[cF]at hz;subst hz e;exact hx hy
  have Va:∀h',Heap.SameBut a s.heap h'->jR w h' a (ss++[x])->Q true {s with heap:=h'}:=fun h' sb IS=>h true h' sb (by unfold iJ;rw[ak hx];exact IS);refine af (hgw _ ?_);split
  ·refine af ?_
   rw[hashByValue_scannable 8 (x:=.str x u) rfl];refine ar ?_
   refine Bj ?_ ho hex hd e1 Po O8 C' ?_ ?_ ?_ ?_
   ·intro b cy Q' hq;cases b<;>first|exact ar hq|exact dY hq
   ·exact SetTable.fits_plain_off EN
   ·exact hl.imp id fun z=>Gm.trans z
   ·rfl
   ·intro h' sb IS;exact ar (Va h' sb IS)
  ·rename_i Ze;refine af (ar ?_);simp only[↓reduceIte];refine Bj ?_ ho hex hd e1 Po O8 C' EN ?_ ?_ ?_
   ·intro b cy Q' hq;cases b<;>first|exact ar hq|exact dY hq
   ·exact hl.imp id fun z=>Gm.trans z
   ·simpa using Ze
   ·intro h' sb IS;exact ar (Va h' sb IS)
end
theorem cS:Slot "set_iterator" "__next__" "set_iterator.__next__":=.of (owner:="set_iterator") (n:="__next__")
 (by rw[typeLookup_type,vf];kernel_rfl) (by decide+kernel) (by decide+kernel) (by decide+kernel) (by first|exact .inl (by decide+kernel)|exact .inr (by decide+kernel))
 (by rw[isSubtype_type];kernel_rfl)
theorem lH:entryFor table "set_iterator.__next__"=some Builtin.«set_iterator.__next__»:=entryFor_of_tree (by kernel_rfl)
theorem ui:Manifest.owners.lookup (String.ofList ['r', 'o', 't', 'a', 'r', 'e', 't', 'i', '_', 't', 'e', 's'].reverse)=some Manifest.sig_set_iterator:=by kernel_rfl
theorem mO(a:Value):argsOk "set_iterator.__next__" ⟨[a],[]⟩:=by
 unfold argsOk;rw[signature?_of (id:="set_iterator.__next__") (n:=['_', '_', 't', 'x', 'e', 'n', '_', '_']) (o:=['r', 'o', 't', 'a', 'r', 'e', 't', 'i', '_', 't', 'e', 's']) (by kernel_rfl) ui];kernel_rfl
theorem mP:Slot "set_iterator" "__iter__" "set_iterator.__iter__":=.of (owner:="set_iterator") (n:="__iter__")
 (by rw[typeLookup_type,vf];kernel_rfl) (by decide+kernel) (by decide+kernel) (by decide+kernel) (by first|exact .inl (by decide+kernel)|exact .inr (by decide+kernel))
 (by rw[isSubtype_type];kernel_rfl)
theorem uC:entryFor table "set.__iter__"=some Builtin.«frozenset.__iter__»:=entryFor_alias (id':="frozenset.__iter__") (by kernel_rfl) rfl (by decide+kernel) (by kernel_rfl)
def sk(F:Value)(i:Nat)(a:Addr)(n ep:Nat):Obj:={cls:=.type "set_iterator",dict:=none,data:=.fields #[F,rawInt i,.ref a,rawInt n,rawInt ep],slots:=#[]}
section
variable {prog:Program}{I:Addr}{o:Obj}{es:Array (Int×Value)}{ep:Nat}{t:SetTable}
theorem kC{Q:Array (Int×Value)->Shared->Prop}(ho:s.heap.get? a=some o)(hd:o.data=.set es ep t)(hf:t.fits es.size=true)(h:Q es s):wpAny (model prog w) A (setEntries a) Q E s:=by
 unfold setEntries;exact af (js ho hd hf (ar h))
theorem wm{α:Type}{R:α->Shared->Prop}(hh:A.handled=none)
  (h:∀h' (x:Addr),Shared.TypeIs {s with heap:=h'} (.ref x) "StopIteration"->(∀b o,s.heap.get? b=some o->h'.get? b=some o)->E (.ref x) {s with heap:=h'}):
  wpAny (model prog w) A.in1 (newExc (.type "StopIteration") []) (fun x s'=>wpAny (model prog w) A.in1 (raiseNew x:Sem α) R E s') E s:=by
 simp only[newExc,newTuple];refine af (jr ?_ (by size_fits));refine af (m:=firstArgMember _ _) (wpAny_of_eq (a:=Value.none) (by first|rfl|(simp only[firstArgMember];rfl)) ?_);refine jr ?_ (by size_fits)
 simp only[raiseNew];refine af (wpAny_handled ?_)
 first|rw[show A.in1.handled=none from hh]|rw[hh]
 refine af (ar (wpAny_throw ?_));exact h _ _ ⟨_,bE _ rfl,rfl⟩ fun b o e=>aX _ (aX _ e)
theorem zu{slot:Nat}{r:Option (Value×Nat)}{Q:Option Value->Shared->Prop}(hh:A.handled=none)(hit:s.heap.get? I=some (sk (rawInt slot) i a es.size ep))(ho:s.heap.get? a=some o)(hd:o.data=.set es ep t)(hf:t.fits es.size=true)
  (hn:∀(B:Around) (E':Value->Shared->Prop) (Q':Option (Value×Nat)->Shared->Prop),Q' r s->wpAny (model prog w) B (setNext a slot i ep) Q' E' s)
  (h1:∀x nx,r=some (x,nx)->∀h',h'.get? I=some (sk (rawInt nx) (i+1) a es.size ep)->Heap.SameBut I s.heap h'->Q (some x) {s with heap:=h'})
  (h2:r=none->∀h',Heap.ExtBut I s.heap h'->Q none {s with heap:=h'}):wpAny (model prog w) A (pyNext (.ref I)) Q E s:=by
 have hT:s.TypeIs (.ref I) "set_iterator":=⟨_,hit,rfl⟩;unfold pyNext;refine af (rD (oX (name:=Str.ofString "__next__") hT cS (fG cS hT lH ?_ (mO _))));unfold Builtin.«set_iterator.__next__»;refine af (m:=slotArgs "__next__" 0 _) (ar ?_);refine af (wpAny_fieldsOf hit rfl ?_);dsimp only;refine af (kC ho hd hf ?_);rw[ak (by simp)];show wpAny _ _ (setNext a (slot:Int).toNat (i:Int).toNat (ep:Int).toNat>>=_) _ _ s;rw[jY,jY,jY];refine af (hn _ _ _ ?_);cases r with
 |none=>
  dsimp only;refine af (wpAny_setField hit rfl (by show 2<5;decide) ?_);refine af (wm hh fun h' x hx hk=>?_);refine af (nD (T:="StopIteration") (b:=true) hx isSubtype_stop ?_);exact ar (h2 rfl _ fun b o hb e=>hk b o ((nj s.heap I _).extBut b o hb e))
 |some p=>
  obtain⟨x,nx⟩:=p;dsimp only;refine af (g8 hit (by show 0<5;decide) fun dS IT oj=>?_);refine af (g8 (s:={s with heap:=dS}) IT (by show 1<5;decide) fun nW Vb tD=>?_);exact ar ⟨_,rfl,ar (h1 x nx rfl nW Vb (oj.trans tD))⟩
end
theorem tH:entryFor table "set_iterator.__iter__"=some Builtin.«dict_keyiterator.__iter__»:=entryFor_alias (id':="dict_keyiterator.__iter__") (by kernel_rfl) rfl (by decide+kernel) (by kernel_rfl)
theorem uD(a:Value):argsOk "set_iterator.__iter__" ⟨[a],[]⟩:=by
 unfold argsOk;rw[signature?_of (id:="set_iterator.__iter__") (n:=['_', '_', 'r', 'e', 't', 'i', '_', '_']) (o:=['r', 'o', 't', 'a', 'r', 'e', 't', 'i', '_', 't', 'e', 's']) (by kernel_rfl) ui];kernel_rfl
theorem EO{α:Type}(next:Nat->Nat):∀(fuel k:Nat) (left:List α) (out:Array α),left.length=fuel->(pickOrder.go next fuel k left out).toList.Perm (out.toList++left)
 |0,k,left,out,h=>by
  rw[List.eq_nil_of_length_eq_zero h];simp[pickOrder.go]
 |fuel+1,k,left,out,h=>by
  have hi:next k % left.length<left.length:=Nat.mod_lt _ (by omega)
  unfold pickOrder.go;rw[bb hi];dsimp only;refine(EO next fuel (k+1) _ _ (by rw[Aw hi];omega)).trans ?_
  rw[Array.toList_push,vi];exact(qm left _ hi).append_left _
theorem Gn{α:Type}(next:Nat->Nat)(xs:Array α):(pickOrder next xs).toList.Perm xs.toList:=by
 have h:=EO next xs.size 0 xs.toList #[] (by simp)
 unfold pickOrder;simpa using h
theorem QL:SetTable.below #[] 0=0:=rfl
theorem QM(j:Nat):SetTable.below #[j] 0=0:=by
 unfold SetTable.below;simp[SetTable.below.go]
theorem QN(j:Nat):SetTable.below #[j] (j+1)=1:=by
 unfold SetTable.below;simp[SetTable.below.go]
section
variable {prog:Program}{I:Addr}{o:Obj}{es:Array (Int×Value)}{ep:Nat}{t:SetTable}
theorem zv{F:Value}{n e:Nat}(hit:s.heap.get? I=some (sk F i a n e))(h:Q (.ref I) s):wpAny (model prog w) A (pyIter (.ref I)) Q E s:=by
 have hT:s.TypeIs (.ref I) "set_iterator":=⟨_,hit,rfl⟩;refine wpAny_pyIter_slot hT mP (fG mP hT tH ?_ (uD _));show wpAny _ _ (ret (.ref I)) _ _ s;exact ar ⟨_,rfl,"set_iterator",_,hT,cS.lookup,h⟩
theorem IU{tp:Addr}{m:Nat}{ot:Obj}{pl:Array Value}{Q:Option Value->Shared->Prop}(hh:A.handled=none)(hit:s.heap.get? I=some (sk (.ref tp) i a es.size ep))(ho:s.heap.get? a=some o)(hd:o.data=.set es ep t)(hf:t.fits es.size=true)
  (Zf:s.heap.get? tp=some ot) (Xx:ot.data=.seq pl m)
  (h1:∀(p:Nat) (e:Int×Value),pl[i]?=some (rawInt p)->es[p]?=some e->∀h',h'.get? I=some (sk (.ref tp) (i+1) a es.size ep)->Heap.SameBut I s.heap h'->Q (some e.2) {s with heap:=h'})
  (h2:pl[i]?=none->∀h',Heap.ExtBut I s.heap h'->Q none {s with heap:=h'})
  (mL:∀v,pl[i]?=some v->∃(p:Nat) (e:Int×Value),v=rawInt p/\es[p]?=some e):wpAny (model prog w) A (pyNext (.ref I)) Q E s:=by
 have hT:s.TypeIs (.ref I) "set_iterator":=⟨_,hit,rfl⟩;unfold pyNext;refine af (rD (oX (name:=Str.ofString "__next__") hT cS (fG cS hT lH ?_ (mO _))));unfold Builtin.«set_iterator.__next__»;refine af (m:=slotArgs "__next__" 0 _) (ar ?_);refine af (wpAny_fieldsOf hit rfl ?_);dsimp only;refine af (kC ho hd hf ?_);rw[ak (by simp)];show wpAny _ _ (seqItems? (.ref tp)>>=_) _ _ s;refine af (fI Zf Xx ?_);dsimp only;rw[jY];cases hv:pl[i]? with
 |none=>
  dsimp only;refine af (g8 hit (by show 0<5;decide) fun dS IT oj=>?_);refine af (g8 (s:={s with heap:=dS}) IT (by show 2<5;decide) fun nW Vb tD=>?_);refine af (wm hh fun h' x hx hk=>?_);refine af (nD (T:="StopIteration") (b:=true) hx isSubtype_stop ?_);exact ar (h2 hv _ fun b o hb e=>hk b o (tD.extBut b o hb (oj.extBut b o hb e)))
 |some v=>
  obtain⟨p,e,rfl,he⟩:=mL v hv;show wpAny _ _ (setNextDrawn a (p:Int).toNat (ep:Int).toNat>>=_) _ _ s;rw[jY,jY];refine af ?_
  unfold setNextDrawn;refine af (js ho hd hf ?_);dsimp only;rw[ak (by simp),he];dsimp only;refine ar ?_
  refine af (g8 hit (by show 1<5;decide) fun dS IT oj=>?_);exact ar ⟨_,rfl,ar (h1 p e hv he dS IT oj)⟩
theorem o9{Q:Bool->Shared->Prop}(h:Q (As w) s):wpAny (model prog w) A setsByText Q E s:=by
 unfold setsByText;exact af (wpAny_askSetting (ar h))
theorem yB{slot:Nat}{Q:Option (Value×Nat)->Shared->Prop}(hb:As w=true)(ho:s.heap.get? a=some o)(hd:o.data=.set es ep t)(hf:t.fits es.size=true)
  (h:Q (((pickOrder (w.params.setOrder a ep) es)[i]?).map fun e=>(e.2,slot)) s):wpAny (model prog w) A (setNext a slot i ep) Q E s:=by
 unfold setNext;refine af (js ho hd hf ?_);dsimp only;refine af (o9 ?_);rw[hb,ag rfl];simp only[qW,cu,bw];refine af ?_
 unfold setWalk;refine af (js ho hd hf ?_);dsimp only;refine af (o9 ?_);rw[hb,ag rfl];refine af (wpAny_askSetting ?_);exact ar (ar h)
theorem Bl{slot:Nat}{Q:Option (Value×Nat)->Shared->Prop}(hb:As w=false)(hl:t.led=true)(hz:es.size<=1)(ho:s.heap.get? a=some o)(hd:o.data=.set es ep t)(hf:t.fits es.size=true)
  (h:Q (match es[SetTable.below t.place slot]?,t.place[SetTable.below t.place slot]? with
   |some (_,x),some j=>some (x,j+1)
   |_,_=>none) s):wpAny (model prog w) A (setNext a slot i ep) Q E s:=by
 unfold setNext;refine af (js ho hd hf ?_);dsimp only;refine af (o9 ?_);rw[hb];simp only[cu,bw];refine lh (fun C6=>absurd (show(!t.plain&&decide (es.size>1))=true from C6) ?_) (fun _=>?_)
 ·rw[d_ (p:=es.size>1) (by omega),vt];exact d9
 ·refine af (m:=(if(!t.led&&!es.isEmpty)=true then unsupported "set:maker-not-led"else pure ())) ?_
  rw[hl,ak (by simp)];exact ar (ar h)
end
theorem one_place{xs:Array Nat}(h:xs.size=1):∃j,xs=#[j]:=by
 obtain⟨l⟩:=xs
 match l,h with
 |[j],_=>exact⟨j,rfl⟩
def Di(p:Str×Tok):Value:=.str p.1 p.2
def strAt(l:List (Str×Tok))(i:Nat)(v:Value):Prop:=(l[i]?).map Di=some v
section
variable {prog:Program}{I:Addr}{o:Obj}{es:Array (Int×Value)}{ep:Nat}{t:SetTable}
theorem uQ{l:List (Str×Tok)}(he:es.toList=l.map (ent w))(p:Nat):es[p]?=(l[p]?).map (ent w):=by
 rw[<-lX,he,bg]
theorem Gp(hb:As w=true)(hd:o.data=.set es ep t)(hf:t.fits es.size=true){l:List (Str×Tok)}(he:(pickOrder (w.params.setOrder a ep) es).toList=l.map (ent w))(hl:l.length=es.size)(fT:I≠a)(A':Around)(hh:A'.handled=none):
  Walks prog w A' I [I,a] [I] l.length (strAt l) (fun i h=>h.get? I=some (sk (rawInt 0) i a es.size ep)/\h.get? a=some o) where
 sub:=fun b hb=>by simp at hb;simp[hb]
 frame:=fun i h h' st k=>⟨k I (by simp) _ st.1,k a (by simp) _ st.2⟩
 item:=fun i s Q E hi st hQ=>by
  have e1:(pickOrder (w.params.setOrder a ep) es)[i]?=(l[i]?).map (ent w):=by rw[<-lX,he,bg]
  rw[bb hi]at e1;refine zu (slot:=0) (r:=some ((ent w l[i]).2,0)) hh st.1 st.2 hd hf (fun B E' Q' q=>yB hb st.2 hd hf (by rw[e1];exact q)) (fun x nx e h' g sb=>?_) fun e=>nomatch e;cases e;exact hQ _ h' s.toks (by unfold strAt;rw[bb hi];rfl) ⟨g,(sb.2 a (Ne.symm fT)).trans st.2⟩ fun b o hb e=>sb.extBut b o (fun z=>hb (by simp[z])) e
 done:=fun s Q E st hQ=>by
  have e1:(pickOrder (w.params.setOrder a ep) es)[l.length]?=none:=by
   rw[<-lX,he,bg,g6.mpr (aN _)];rfl
  refine zu (slot:=0) (r:=none) hh st.1 st.2 hd hf (fun B E' Q' q=>yB hb st.2 hd hf (by rw[e1];exact q)) (fun x nx e=>nomatch e) fun _ h' eb=>?_
  exact hQ h' s.toks fun b o hb e=>eb b o (fun z=>hb (by simp[z])) e
 self:=fun i s Q E st hQ=>zv st.1 hQ
theorem IV(hb:As w=false)(hl:t.led=true)(hz:es.size<=1)(hd:o.data=.set es ep t)(hf:t.fits es.size=true){l:List (Str×Tok)}(he:es.toList=l.map (ent w))(fT:I≠a)(A':Around)(hh:A'.handled=none):
  Walks prog w A' I [I,a] [I] l.length (strAt l) (fun i h=>h.get? I=some (sk (rawInt (if i=0 then(0:Nat)else t.place.getD 0 0+1:Nat)) i a es.size ep)/\h.get? a=some o) where
 sub:=fun b hb=>by simp at hb;simp[hb]
 frame:=fun i h h' st k=>⟨k I (by simp) _ st.1,k a (by simp) _ st.2⟩
 item:=fun i s Q E hi st hQ=>by
  have b7:l.length=es.size:=by have q:=cw List.length he;rw[eW,aC]at q;exact q.symm
  have hi0:i=0:=by omega
  subst hi0;have QQ:t.place.size=es.size:=by
   simp only[SetTable.fits,bf,dR]at hf;exact hf.1
  obtain⟨j,hj⟩:∃j,t.place=#[j]:=by
   exact one_place (by omega)
  have e0:es[0]?=some (ent w l[0]):=by rw[uQ he,bb hi];rfl
  refine zu (slot:=0) (r:=some ((ent w l[0]).2,j+1)) hh st.1 st.2 hd hf (fun B E' Q' q=>Bl hb hl hz st.2 hd hf (by rw[hj,QM,e0];exact q)) (fun x nx e h' g sb=>?_) fun e=>nomatch e;cases e;refine hQ _ h' s.toks (by unfold strAt;rw[bb hi];rfl) ⟨?_,(sb.2 a (Ne.symm fT)).trans st.2⟩ fun b o hb e=>sb.extBut b o (fun z=>hb (by simp[z])) e;rw[hj];exact g
 done:=fun s Q E st hQ=>by
  have b7:l.length=es.size:=by have q:=cw List.length he;rw[eW,aC]at q;exact q.symm
  have QQ:t.place.size=es.size:=by
   simp only[SetTable.fits,bf,dR]at hf;exact hf.1
  have fin:∀slot:Nat,s.heap.get? I=some (sk (rawInt slot) l.length a es.size ep)->es[SetTable.below t.place slot]?=none->wpAny (model prog w) A' (pyNext (.ref I)) Q E s:=fun slot hit e1=>by
   refine zu (slot:=slot) (r:=none) hh hit st.2 hd hf (fun B E' Q' q=>Bl hb hl hz st.2 hd hf (by rw[e1];exact q)) (fun x nx e=>nomatch e) fun _ h' eb=>?_
   exact hQ h' s.toks fun b o hb e=>eb b o (fun z=>hb (by simp[z])) e
  by_cases h0:l.length=0
  ·have Zg:t.place=#[]:=Array.eq_empty_of_size_eq_zero (by omega);refine fin 0 ?_ ?_
   ·have q:=st.1;rw[ag h0]at q;exact q
   ·rw[Zg,QL,uQ he,g6.mpr (by omega)];rfl
  ·obtain⟨j,hj⟩:∃j,t.place=#[j]:=by
    exact one_place (by omega)
   refine fin (j+1) ?_ ?_
   ·have q:=st.1;rw[ak h0,hj]at q;exact q
   ·rw[hj,QN,uQ he,g6.mpr (by omega)];rfl
 self:=fun i s Q E st hQ=>zv st.1 hQ
theorem Dj{tp:Addr}{ot:Obj}{ps:List Nat}{m:Nat}(hd:o.data=.set es ep t)(hf:t.fits es.size=true)(Xx:ot.data=.seq (ps.map fun i=>rawInt (i:Nat)).toArray m){l l':List (Str×Tok)}(he:es.toList=l.map (ent w))(hl':∀i:Nat,l'[i]?=(ps[i]?).bind fun p=>l[p]?)(QQ:∀p∈ps,p<l.length)
  (b7:l'.length=ps.length) (fT:I≠a) (hnt:I≠tp) (A':Around) (hh:A'.handled=none):
  Walks prog w A' I [I,a,tp] [I] l'.length (strAt l') (fun i h=>h.get? I=some (sk (.ref tp) i a es.size ep)/\h.get? a=some o/\h.get? tp=some ot) where
 sub:=fun b hb=>by simp at hb;simp[hb]
 frame:=fun i h h' st k=>⟨k I (by simp) _ st.1,k a (by simp) _ st.2.1,k tp (by simp) _ st.2.2⟩
 item:=fun i s Q E hi st hQ=>by
  have Zh:i<ps.length:=by omega
  have mL:(ps.map fun i=>rawInt (i:Nat)).toArray[i]?=some (rawInt (ps[i]:Nat)):=by simp[Zh]
  have hp:ps[i]<l.length:=QQ _ (jt Zh);have e1:es[ps[i]]?=some (ent w l[ps[i]]):=by rw[uQ he,bb hp];rfl
  have e2:l'[i]?=some l[ps[i]]:=by rw[hl',bb Zh];exact bb hp
  refine IU hh st.1 st.2.1 hd hf st.2.2 Xx (fun p e h1 h2 h' g sb=>?_) (fun z=>by rw[mL]at z;cases z) (fun v hv=>?_)
  ·rw[mL]at h1;have Dk:((ps[i]:Nat):Int)=(p:Int):=by
    have q:=Option.some.inj h1;injection q
   have Zi:ps[i]=p:=by omega
   subst Zi;rw[e1]at h2;cases h2;exact hQ _ h' s.toks (by unfold strAt;rw[e2];rfl) ⟨g,(sb.2 a (Ne.symm fT)).trans st.2.1,(sb.2 tp (Ne.symm hnt)).trans st.2.2⟩ fun b o hb e=>sb.extBut b o (fun z=>hb (by simp[z])) e
  ·rw[mL]at hv;cases hv;exact⟨_,_,rfl,e1⟩
 done:=fun s Q E st hQ=>by
  have mL:(ps.map fun i=>rawInt (i:Nat)).toArray[l'.length]?=none:=by simp[b7]
  refine IU hh st.1 st.2.1 hd hf st.2.2 Xx (fun p e h1=>by rw[mL]at h1;cases h1) (fun _ h' eb=>?_) (fun v hv=>by rw[mL]at hv;cases hv);exact hQ h' s.toks fun b o hb e=>eb b o (fun z=>hb (by simp[z])) e
 self:=fun i s Q E st hQ=>zv st.1 hQ
theorem Gq{ss:List Str}(hS:jR w s.heap a ss)
  (hQ:∀(h':Heap) (d:Drawn) (I:Addr) (fp:List Addr) (St:Nat->Heap->Prop) (l:List (Str×Tok)),(l.map (·.1)).Perm ss->(∀b o,s.heap.get? b=some o->h'.get? b=some o)->s.heap.objs.size<=I->(∀b∈fp,b=a\/s.heap.objs.size<=b)->
   (∀A':Around,A'.handled=none->Walks prog w A' I fp [I] l.length (strAt l) St)->St 0 h'->Q (.ref I) {s with heap:=h',drawn:=d}):wpAny (model prog w) A (pyIter (.ref a)) Q E s:=by
 obtain⟨o,es,ep,t,l,ho,hex,hd,he,hp,hn,hb,hf,hl,mL⟩:=id hS;have fR:a<s.heap.objs.size:=aF ho;have b7:l.length=es.size:=by have q:=cw List.length he;rw[eW,aC]at q;exact q.symm
 refine wpAny_pyIter_slot hS.typeIs PySem.F.slot_set_iter (fG PySem.F.slot_set_iter hS.typeIs uC ?_ (PySem.F.args_set_iter_1 _));unfold Builtin.«frozenset.__iter__»;refine af (m:=Builtin.Frozenset.slot0 "__iter__" _) (ar ?_);refine af ?_
 unfold Builtin.Frozenset.sizeOf;refine af (kC ho hd hf (ar ?_));refine af ?_
 unfold setDrawn;refine af (js ho hd hf ?_);dsimp only;refine af (o9 (ar ?_));refine lh (fun hdr=>?_) (fun hdr=>?_)
 ·
  refine af (pR _ _ _ _ (qX ..) fun ps d QQ=>?_);have hz:((ps.map fun(i:Nat)=>rawInt i)).length<=sizeLine:=by
   rw[aC,QQ.length_eq,qX];exact vv hb
  refine af (wpAny_newTuple (hsz:=hz) ?_);have Oi:(s.heap.push {cls:=.type "tuple",data:=.seq (ps.map fun(i:Nat)=>rawInt i).toArray}).get? a=some o:=aX _ ho;have PN:(s.heap.push {cls:=.type "tuple",data:=.seq (ps.map fun(i:Nat)=>rawInt i).toArray}).objs.size=s.heap.objs.size+1:=ik ..;refine af (wpAny_setEpoch_of Oi hd hf ?_);refine af (jr ?_);refine ar ⟨_,rfl,"set_iterator",_,⟨_,bE _ rfl,rfl⟩,cS.lookup,?_⟩;have Vc:∀p∈ps,p<l.length:=fun p hm=>by
   have q:=rh.mp (QQ.mem_iff.mp hm);omega
  have wk:(ps.map fun p=>l.getD p (Str.empty,0)).Perm l:=by
   have q:=QQ.map fun p=>l.getD p (Str.empty,0);have e:(List.range es.size).map (fun p=>l.getD p (Str.empty,0))=l:=by
    rw[<-b7];refine List.ext_getElem (by simp) fun i h1 h2=>?_
    simp[h2]
   rw[e]at q;exact q
  refine hQ _ d _ [_,a,s.heap.objs.size] _ (ps.map fun p=>l.getD p (Str.empty,0)) ((wk.map _).trans hp) (fun b o e=>aX _ (aX _ e)) (by rw[PN];exact nJ _) (fun b hm=>?_)
   (fun A' hA=>Dj (ot:={cls:=.type "tuple",data:=.seq (ps.map fun(i:Nat)=>rawInt i).toArray}) (ps:=ps) hd hf rfl he (fun i=>?_) Vc (aC ..) ?_ ?_ A' hA)
   ⟨bE _ rfl,aX _ Oi,aX _ (bE _ rfl)⟩
  ·simp only[aE,a_,ba]at hm;rcases hm with rfl|rfl|rfl
   ·right;rw[PN];exact nJ _
   ·left;rfl
   ·right;exact aN _
  ·rw[bg];cases e:ps[i]? with
   |none=>rfl
   |some p=>
    have mL:=Vc p (cV e);show some (l.getD p (Str.empty,0))=l[p]?
    rw[dg,bb mL];rfl
  ·rw[PN];exact cJ (jX fR)
  ·rw[PN];exact kZ _
 ·refine af (ar ?_);refine af (wpAny_setEpoch_of ho hd hf ?_);refine af (jr ?_);refine ar ⟨_,rfl,"set_iterator",_,⟨_,bE _ rfl,rfl⟩,cS.lookup,?_⟩;have xN:∀b∈[s.heap.objs.size,a],b=a\/s.heap.objs.size<=b:=fun b hm=>by
   simp only[aE,a_,ba]at hm;rcases hm with rfl|rfl
   ·exact .inr (aN _)
   ·exact .inl rfl
  have fT:s.heap.objs.size≠a:=cJ fR;cases Xy:As w with
  |true=>
   have Dk:=Gn (w.params.setOrder a ep) es;rw[he]at Dk;obtain⟨l2,e2,p2⟩:=wg Dk;exact hQ _ s.drawn _ [_,a] _ l2 ((p2.map _).trans hp) (fun b o e=>aX _ e) (aN _) xN (fun A' hA=>Gp Xy hd hf e2 (p2.length_eq.trans b7) fT A' hA) ⟨bE _ rfl,aX _ ho⟩
  |false=>
   have Xz:es.size<=1:=by
    by_cases hz:es.size<=1
    ·exact hz
    ·exfalso;refine hdr ?_
     show(!As w&&(!t.plain&&decide (es.size>1)))=true;rw[Xy,mL (by omega),g_ (by omega)]
     rfl
   have Gm:t.led=true:=hl.resolve_left (by rw[Xy];exact d9);exact hQ _ s.drawn _ [_,a] _ l hp (fun b o e=>aX _ e) (aN _) xN (fun A' hA=>IV Xy Gm Xz hd hf he fT A' hA) ⟨bE _ rfl,aX _ ho⟩
end
def eN(ss xs:List Str):List Str:=xs.foldl iJ ss
theorem wo(ss:List Str)(x:Str):(iJ ss x).length<=ss.length+1:=by
 unfold iJ;split
 ·omega
 ·simp
section
variable {prog:Program}{R:Result->Shared->Prop}{I S:Addr}{fp:List Addr}{n:Nat}{P:Nat->Value->Prop}{St:Nat->Heap->Prop}
theorem jR.keep {h h':Heap}{ss:List Str}(x:jR w h a ss)(k:∀o,h.get? a=some o->h'.get? a=some o):jR w h' a ss:=by
 obtain⟨o,es,ep,t,l,ho,r⟩:=x;exact⟨o,es,ep,t,l,k o ho,r⟩
theorem IW(W:Walks prog w A.in1 I fp [I] n P St)(XB:S∉fp)(val:Nat->Str)(Mq:∀i v,P i v->∃t,v=Value.str (val i) t)(hb:n+1<scanBound):
  ∀(k i:Nat) (s:Shared) (ss:List Str),n - i=k->i<=n->St i s.heap->jR w s.heap S ss->ss.length<=i->
   (∀h' tk,(∀b o,b≠S->b≠I->s.heap.get? b=some o->h'.get? b=some o)->jR w h' S (eN ss ((List.range' i k).map val))->R (.ok (.ret .none)) {s with heap:=h',toks:=tk})->
   codeAny (model prog w) A (.builtin "set.update.loop" ⟨[.ref S,.ref I],[]⟩) R s:=by
 have hIf:I∈fp:=W.sub I (by simp);have K6:S≠I:=fun e=>XB (e▸hIf);intro k
 induction k with
 |zero=>
  intro i s ss hk hi bH hS _ hR;have kO:i=n:=by omega
  subst kO;refine ee F.entry_set_update_loop ?_
  rw[fD vm _];show wpAny _ A.in1 (pyNext (.ref I)>>=_) _ _ s;refine af (W.done s _ _ bH fun h' tk kk=>?_);show wpAny _ A.in1 (ret Value.none) _ _ _;exact ar (hR h' tk (fun b o _ h2 e=>kk b o (by simpa using h2) e) (hS.keep fun o e=>kk S o (by simpa using K6) e))
 |succ k ih=>
  intro i s ss hk hi bH hS hl hR;have fR:i<n:=by omega
  refine ee F.entry_set_update_loop ?_
  rw[fD vm _];show wpAny _ A.in1 (pyNext (.ref I)>>=_) _ _ s;refine af (W.item i s _ _ fR bH fun v h1 tk1 hP IX kk=>?_);obtain⟨u,rfl⟩:=Mq i v hP;have U':jR w h1 S ss:=hS.keep fun o e=>kk S o (by simpa using K6) e;show wpAny _ A.in1 (holding [Value.str (val i) u] (setAdd S (.str (val i) u))>>=_) _ _ _;refine af (dO ?_);unfold setAdd;refine dO ?_
  refine af ((PySem.strKind prog w).pyHash (k:=val i) (by simp[PySem.strKind,Value.isStrOf]) ?_);refine Zc (s:={s with heap:=h1,toks:=tk1+1}) U' (by omega) fun b h2 sb Zb=>?_
  have hk2:∀b o,b≠S->h1.get? b=some o->h2.get? b=some o:=fun b o hb e=>(sb.2 b hb).trans e;refine ar ⟨fJ vm _,ih (i+1) _ (iJ ss (val i)) (by omega) fR (W.frame _ _ _ IX fun b hb o e=>hk2 b o (fun z=>XB (z▸hb)) e) Zb (by have:=wo ss (val i);omega) fun h' tk kk' IS=>?_⟩;exact hR h' tk (fun b o C' Mp e=>kk' b o C' Mp (hk2 b o C' (kk b o (by simpa using Mp) e))) IS
end
section
section
variable {prog:Program}
theorem _root_.PySem.IY (a:Value){Q₁:Value->Shared->Prop}
  (h:Q₁ (.ref s.heap.objs.size) {s with heap:=s.heap.push {cls:=.type "set",dict:=none,data:=.set #[] 0 (.fresh 0 0 (!L2.As w))}}):
  codeAny (model prog w) A (.call (.builtin "set.__new__") ⟨[.type "set",a],[]⟩) (wants Q₁ E) s:=by
 refine codeAny_of_tree ?_
 show wpAny _ A.in1 (do checkBuiltinCall "set.__new__" ⟨[.type "set",a],[]⟩;again (.builtin "set.__new__" ⟨[.type "set",a],[]⟩)) _ _ s;refine af (wpAny_of_eq (F.newCall_set_1 a) (ar ⟨fJ F.plain_set_new _,ee F.entry_set_new ?_⟩));rw[fD F.plain_set_new _];unfold Builtin.«set.__new__» Builtin.Frozenset.newClass;have OL:=sub_set_self;obtain⟨hp,g,d,tk,os⟩:=s;dsimp only
 wp_walk
 refine wpAny_askSetting (ar ?_);dsimp only;simp only[newObj];refine af (wpAny_alloc (ar ?_));exact ar h
set_option maxHeartbeats 3200000 in
theorem _root_.PySem.IZ {l:Addr}{a8:Array Value}{val:Nat->Str}(hh:A.handled=none)(hl:s.heap.IsList l a8)(hv:∀(i:Nat) (v:Value),a8[i]?=some v->∃t,v=.str (val i) t)(hb:a8.size+1<scanBound)
  (h:∀(h':Heap) (tk:Nat),L2.jR w h' s.heap.objs.size (L2.eN [] ((List.range' 0 a8.size).map val))->(∀b o,b<s.heap.objs.size->s.heap.get? b=some o->h'.get? b=some o)->Q (.ref s.heap.objs.size) {s with heap:=h',toks:=tk}):
  wpAny (model prog w) A (call (.type "set") [.ref l]) Q E s:=by
 obtain⟨c,tl,aaH⟩:=ip.mro;have aaB:=ip.made;have OL:=ip.sub;refine nL (codeAny_of_tree ?_);show wpAny _ _ (callAny (.type "set") _) _ _ _;refine ar ⟨Code.quiet_builtin _ (by decide+kernel),ee F.entry_type_call ?_⟩;rw[Around.under_plain (weight_type_call_type "set" [.ref l] []) rfl];have h1:=ip.notType;have h2:=ip.canCreate;have hct:=F.typeCall_set_1 (.ref l)
 repeat(any_goals (first|assumption|wp_step))
 refine gq (IY (.ref l) (E:=E) (Q₁:=fun obj cy=>obj=.ref s.heap.objs.size/\cy={s with heap:=s.heap.push {cls:=.type "set",dict:=none,data:=.set #[] 0 (.fresh 0 0 (!L2.As w))}}) ⟨rfl,rfl⟩) fun r cy hr=>?_
 cases r with
 |error e=>exact hr
 |ok fl=>
  cases fl with
  |ret obj=>
   obtain⟨rfl,rfl⟩:=hr;generalize Mr:({cls:=.type "set",dict:=none,data:=.set #[] 0 (.fresh 0 0 (!L2.As w))}:Obj)=ob;have hS:(s.heap.push ob).get? s.heap.objs.size=some ob:=bE _ (by rw[<-Mr];rfl);have hT:Shared.TypeIs {s with heap:=s.heap.push ob} (.ref s.heap.objs.size) "set":=⟨_,hS,by rw[<-Mr]⟩;have Zj:=ip.init.lookup;have hbi:=ip.init.bind (.ref s.heap.objs.size)
   repeat(any_goals (first|assumption|wp_step))
   refine gq (vj (R:=wants (fun r rM=>r=.none/\∃h' tk,rM={s with heap:=h',toks:=tk}/\L2.jR w h' s.heap.objs.size (L2.eN [] ((List.range' 0 a8.size).map val))/\
     (∀b o,b<s.heap.objs.size->s.heap.get? b=some o->h'.get? b=some o)) E) ip.init.plain F.entry_set_init (check_set_init_1 hT ?_)) fun Zk rM I0=>?_
   ·obtain⟨ol,Ol,Ek,nl,SS⟩:=hl;obtain⟨aaI,Vd,aaC,QR⟩:=ol;simp only at Ek SS;subst Ek;subst SS;have Zl:(s.heap.push ob).get? l=some {cls:=.type "list",dict:=Vd,data:=.seq a8 nl,slots:=QR}:=aX _ Ol;have aaJ:=F.sub_list_set;have aaK:=F.sub_list_frozenset;have fT:(Value.type "list"==Value.type "dict")=false:=by decide
    have Hi:(s.heap.push ob).IsList l a8:=⟨_,Zl,rfl,nl,rfl⟩;subst Mr;unfold Builtin.«set.__init__» noKeywords Builtin.Frozenset.updateFrom;generalize hPI:pyIter=PI
    wp_walk
    subst hPI;refine k_ Hi ?_
    refine af (wpAny_runValue ?_);have hlS:l<s.heap.objs.size:=aF Ol;have hh3:A.in1.in1.in1.handled=none:=by simp[hh]
    generalize hsz:(s.heap.push {cls:=.type "set",dict:=none,data:=.set #[] 0 (.fresh 0 0 (!L2.As w))}).objs.size=I at*;have QU:I=s.heap.objs.size+1:=by rw[<-hsz,ik]
    have Zm:l≠I:=by rw[QU];exact bc (jX hlS)
    have XB:s.heap.objs.size∉[I,l]:=by
     simp only[aE,a_,ba,iq];exact⟨by rw[QU];exact bc (nq _),cJ hlS⟩
    refine L2.IW (Walks.list hh3 I l Zm a8) XB val hv hb (a8.size - 0) 0 _ [] (by omega) (dh _) ⟨⟨_,by rw[<-hsz];exact bE _ rfl,rfl,rfl⟩,Hi.push _⟩ ?hS0 (dh _) ?hR
    case hS0=>
     refine⟨_,#[],0,.fresh 0 0 (!L2.As w),[],aX _ hS,⟨rfl,rfl,rfl⟩,rfl,rfl,List.Perm.refl _,List.nodup_nil,by show 0<scanBound;decide,rfl,?_,fun z=>absurd rfl z⟩;show L2.As w=true\/(!L2.As w)=true;cases L2.As w<;>simp
    case hR=>
     intro h' tk hk IS;show wpAny _ _ _ _ _ _;refine ar ?_
     show wpAny _ _ (ret Value.none) _ _ _;refine ar ⟨rfl,h',tk,rfl,IS,fun b o hb e=>?_⟩;exact hk b o (bc hb) (by rw[QU];exact bc (jX hb)) (aX _ (aX _ e))
   ·cases Zk with
    |error e=>exact I0
    |ok Ve=>
     cases Ve with
     |ret r=>
      obtain⟨rfl,h',tk,rfl,IS,Ms⟩:=I0
      repeat(any_goals (first|assumption|wp_step))
      exact h _ _ IS Ms
     |_=>exact I0.elim
  |_=>exact hr.elim
end
end
open PySem.Calls
section
variable {prog:Program}{ss:List Str}
theorem I_{Q:Bool->Shared->Prop}(hT:s.TypeIs (.ref a) "set")(h:Q false s):wpAny (model prog w) A (Builtin.List.listLengthHint (.ref a)) Q E s:=by
 unfold Builtin.List.listLengthHint;refine af (wpAny_specialOf hT PySem.F.slot_set_len.lookup ?_);generalize bq:("set.__len__":String)=id0
 wp_delta
 rw[show splitId id0=some ("set","__len__")from by subst bq;decide+kernel];subst bq;refine af (nD (T:="set") (b:=true) hT (by rw[isSubtype_type];kernel_rfl) ?_);refine lh (fun C6=>absurd C6 (by decide)) (fun _=>?_);refine lh (fun _=>?_) (fun C6=>absurd (by decide+kernel) C6);exact af (rE hT (ar h))
theorem Bm{R:Result->Shared->Prop}(hh:A.handled=none)(hS:jR w s.heap a ss)(L:Addr)(hLa:L≠a)(res:Value)(hL:s.heap.get? L=some {cls:=.type "list",data:=.seq #[] 0})
  (hR:∀h' tk d i8 c' l,(l.map (·.1)).Perm ss->(∀b o,b≠L->s.heap.get? b=some o->h'.get? b=some o)->h'.get? L=some {cls:=.type "list",dict:=none,data:=.seq i8 c',slots:=#[]}->ItemsOf (strAt l) i8 l.length->
   R (.ok (.ret res)) {s with heap:=h',toks:=tk,drawn:=d}) (hn:ss.length<=sizeLine):
  wpAny (model prog w) A.in1 (Builtin.List.listExtendWith (.ref L) (.ref a) res) (fun fin s'=>match fin with|.done f=>R (.ok f) s'|.again c'=>c'.quiet=true/\codeAny (model prog w) A c' R s') (fun e s'=>R (.error e) s') s:=by
 have Vf:L<s.heap.objs.size:=aF hL;unfold Builtin.List.listExtendWith;refine af (rE (T:="set") hS.typeIs ?_);have h1:Builtin.List.listSameRef (.ref L) (.ref a)=false:=by simp[Builtin.List.listSameRef,hLa]
 have h2:(Value.type "set"==Value.type "list")=false:=by decide
 have h3:(Value.type "set"==Value.type "tuple")=false:=by decide
 simp only[h1,h2,h3,rj,cu,bw];refine af (Gq hS fun dS d I fp St l hp hk hI xN W st=>?_);have b7:l.length=ss.length:=by have q:=hp.length_eq;rw[aC]at q;exact q
 have U':Shared.TypeIs {s with heap:=dS,drawn:=d} (.ref a) "set":=by
  obtain⟨o,ho,hc⟩:=hS.typeIs;exact⟨o,hk _ _ ho,hc⟩
 have hLf:L∉fp:=fun m=>by
  rcases xN L m with e|e
  ·exact hLa e
  ·exact absurd (cn Vf e) (dm _)
 have hLI:L≠I:=bc (cn Vf hI);have S_:=hk _ _ hL;have key:∀(h:Heap) (c₁ tk:Nat),St 0 h->(∀b o,b≠L->s.heap.get? b=some o->h.get? b=some o)->h.get? L=some {cls:=.type "list",data:=.seq #[] c₁}->
   codeAny (model prog w) A (.builtin "list.extend.loop" ⟨[.ref L,.ref I,res],[]⟩) R {s with heap:=h,toks:=tk,drawn:=d}:=by
  intro h c₁ tk bH hkk Vg;refine codeAny_extend_loopS (W A.in1 hh).toS (by omega) L hLf res l.length 0 _ #[] c₁ rfl (dh _) bH Vg (ItemsOf.nil _) fun s' i8 c' hm Bo qv=>?_
  rw[Moved.eq_with hm];refine hR s'.heap s'.toks d i8 c' l hp (fun b o hb e=>hm.heap b o (fun Gk=>?_) (hkk b o hb e)) Bo qv;rcases aE.mp Gk with e'|Gk
  ·exact hb e'
  ·exact absurd (cn (aF e) hI) (by rw[cF.mp Gk];exact dm _)
 refine af (dO (I_ U' ?_));refine lh (fun _=>?_) (fun _=>ar ⟨fJ PySem.F.plain_extend_loop _,key _ 0 _ st (fun b o _ e=>hk b o e) S_⟩);refine af (dY ?_);refine af ?_
 show wpAny _ _ (updateSeq L (·.push .none)>>=fun _=>updateSeq L (·.pop)) _ _ _;refine af (nF S_ rfl ?_);have Om:=qR (Obj.mapSeq (·.push Value.none)) S_ rfl;refine nF (hz:=by seq_fits) Om rfl ?_
 have Vh:=qR (Obj.mapSeq (·.pop)) Om rfl;refine ar ⟨fJ PySem.F.plain_extend_loop _,key _ _ _ ?_ (fun b o hb e=>?_) Vh⟩
 ·refine(W A.in1 hh).frame 0 _ _ st fun b hb o e=>?_
  have hbL:b≠L:=fun z=>hLf (z▸hb);exact(lW _ _ (Ne.symm hbL)).trans ((lW _ _ (Ne.symm hbL)).trans e)
 ·exact(lW _ _ (Ne.symm hb)).trans ((lW _ _ (Ne.symm hb)).trans (hk b o e))
theorem zw{R:List Value->Shared->Prop}(hh:A.handled=none)(hS:jR w s.heap a ss)(hn:ss.length<=sizeLine)
  (h:∀(h':Heap) (tk:Nat) (d:Drawn) (l:List (Str×Tok)),(l.map (·.1)).Perm ss->(∀b o,s.heap.get? b=some o->h'.get? b=some o)->s.heap.objs.size<=h'.objs.size->R (l.map Di) {s with heap:=h',toks:=tk,drawn:=d}):wpAny (model prog w) A (collect (.ref a)) R E s:=by
 have fR:a<s.heap.objs.size:=by obtain⟨o,ho,_⟩:=hS.typeIs;exact aF ho
 have a8:∀(l:List (Str×Tok)) (acc:Array Value),ItemsOf (strAt l) acc l.length->acc.toList=l.map Di:=fun l acc hi=>by
  refine nk fun i=>?_
  rw[bg,lX];cases e:acc[i]? with
  |none=>
   have h1:acc.size<=i:=Array.getElem?_eq_none_iff.mp e;rw[hi.1]at h1;rw[g6.mpr h1];rfl
  |some v=>exact(hi.2 i v e).symm
 unfold collect;refine af (wpAny_runValue (ee entry_proto_collect' ?_));rw[fD Av _];show wpAny _ A.in1 (newList []>>=fun l=>again (.builtin "list.__iadd__" ⟨[l,.ref a],[]⟩)) _ _ s;refine af (jr ?_);refine ar ⟨fJ qM _,ee entry_list_iadd' ?_⟩;rw[fD qM _];have hL:(s.heap.push {cls:=.type "list",data:=.seq ([]:List Value).toArray}).get? s.heap.objs.size=some {cls:=.type "list",data:=.seq #[]}:=bE _ rfl;show wpAny _ A.in1 (Builtin.List.listExtendWith (.ref s.heap.objs.size) (.ref a) (.ref s.heap.objs.size)) _ _ _;have key:=Bm (prog:=prog) (A:=A) (s:={s with heap:=s.heap.push {cls:=.type "list",data:=.seq ([]:List Value).toArray}}) (ss:=ss)
  (R:=fun(q:Result) (s':Shared)=>∃(h':Heap) (tk:Nat) (d:Drawn) (i8:Array Value) (c':Nat) (l:List (Str×Tok)),q=.ok (.ret (.ref s.heap.objs.size))/\s'={s with heap:=h',toks:=tk,drawn:=d}/\
   (l.map (·.1)).Perm ss/\(∀b o,s.heap.get? b=some o->h'.get? b=some o)/\h'.get? s.heap.objs.size=some {cls:=.type "list",dict:=none,data:=.seq i8 c',slots:=#[]}/\ItemsOf (strAt l) i8 l.length)
  hh (hS.keep fun o e=>aX _ e) s.heap.objs.size (cJ fR) (.ref s.heap.objs.size) hL
  (fun h' tk d i8 c' l hp hk Bo qv=>⟨h',tk,d,i8,c',l,rfl,rfl,hp,fun b o e=>hk b o (bc (aF e)) (aX _ e),Bo,qv⟩) hn
 refine cX key (fun fin s' x=>?_) fun e s' x=>?_
 ·cases fin with
  |done f=>
   obtain⟨h',tk,d,i8,c',l,e,rfl,hp,hk,Bo,qv⟩:=x;cases e;show wpAny _ A (load s.heap.objs.size>>=_) _ _ _;refine af (nK Bo ?_);refine ar ?_
   rw[a8 l i8 qv];exact h h' tk d l hp hk (cQ (aF Bo))
  |again c₁=>
   refine⟨x.1,gq x.2 fun q rM y=>?_⟩;obtain⟨h',tk,d,i8,c',l,rfl,rfl,hp,hk,Bo,qv⟩:=y;show wpAny _ A (load s.heap.objs.size>>=_) _ _ _;refine af (nK Bo ?_);refine ar ?_
   rw[a8 l i8 qv];exact h h' tk d l hp hk (cQ (aF Bo))
 ·obtain⟨_,_,_,_,_,_,e',_⟩:=x;cases e'
theorem wq:∀l:List (Str×Tok),StrsAre (l.map Di) (l.map (·.1))
 |[]=>.nil
 |p::r=>.cons p.1 p.2 (wq r)
theorem Bp(hh:A.handled=none)(hS:jR w s.heap a ss)(Dl:ss.length<64)
  (h:∀h' tk d D out n xx,(∀b o,s.heap.get? b=some o->h'.get? b=some o)->s.heap.objs.size<=D->h'.get? D=some {cls:=.type "list",data:=.seq out n}->StrsAre out.toList xx->xx.Perm ss->sortedS xx=true->
   Q (.ref D) {s with heap:=h',toks:=tk,drawn:=d}):wpAny (model prog w) A (call (.builtin "sorted") [.ref a]) Q E s:=by
 have hz:ss.length<=sizeLine:=by rw[cR];omega
 refine call_function_entry kind_sorted plain_sorted entry_sorted (args_sorted1 _) ?_
 unfold Builtin.«sorted»;refine af (m:=checkCount "sorted" 1 1 _) (ar ?_);refine af (zw (A:=A.in1) hh hS hz fun dS tk d l hp hk hle=>?_);have b7:l.length=ss.length:=by have q:=hp.length_eq;rw[aC]at q;exact q
 refine af (nH ?_ (by show(l.map Di).length<=_;rw[aC];omega));have QV:=wq l;have D4:(dS.push (seqObj "list" (l.map Di).toArray 0)).get? dS.objs.size=some (seqObj "list" (l.map Di).toArray 0):=bE _ rfl;refine af (dO (fG slot_list_sort ⟨_,D4,rfl⟩ entry_list_sort
  (list_sort_treeK strKind_oneLt D4 QV.keysOf (fun Zn Zo c7 e=>keyKind_strs (by rw[<-e];exact QV)) (by rw[aC];omega) fun vD a1 a2=>⟨_,rfl,?_⟩) (args_list_sort _)))
 refine ar ⟨_,rfl,?_⟩;obtain⟨xx,q1,q2,q3⟩:=sorted_out_str QV a1 a2;obtain⟨e,he⟩:=sortedHeap_at (out:=(arrOf vD).map (·.2)) D4;refine h _ tk d dS.objs.size ((arrOf vD).map (·.2)) e xx (fun b o q=>?_) hle he q1 (q2.trans hp) q3;have hb:=hk b o q;have fR:=aF hb;rw[sortedHeap_old (bc fR) (by rw[ik];exact jX fR)];exact aX _ hb
end
def Bq(a b:Str):Bool:=!decide (b.cps.toList<a.cps.toList)
theorem uR{a b:Str}:Bq a b=true↔a.cps.toList<=b.cps.toList:=by
 unfold Bq;rw[Bool.not_eq_true',decide_eq_false_iff_not];exact Iff.rfl
theorem yC{a b c:Str}(h1:Bq a b=true)(h2:Bq b c=true):Bq a c=true:=by
 rw[uR]at*;exact List.le_trans h1 h2
theorem Gr(a b:Str):(Bq a b||Bq b a)=true:=by
 rw[Bool.or_eq_true,uR,uR];exact List.le_total _ _
theorem Ja{a b:Str}(h1:Bq a b=true)(h2:Bq b a=true):a=b:=by
 rw[uR]at*;exact ext_toList (List.le_antisymm h1 h2)
def cB(ss:List Str):List Str:=ss.mergeSort Bq
theorem de(ss:List Str):(cB ss).Perm ss:=List.mergeSort_perm ss _
theorem Dm(ss:List Str):(cB ss).Pairwise (fun a b=>Bq a b=true):=List.pairwise_mergeSort (le:=Bq) (fun a b c h1 h2=>yC h1 h2) Gr ss
theorem uj:∀(p:Str) (l:List Str),risingS p l=true->(p::l).Pairwise (fun a b=>Bq a b=true)
 |p,[],_=>List.pairwise_singleton _ _
 |p,x::r,h=>by
  have h':(!ltCps x.cps.toList p.cps.toList&&risingS x r)=true:=h;rw[bf,ltCps_eq]at h';have ih:=uj x r h'.2;have hp:Bq p x=true:=h'.1;refine List.pairwise_cons.mpr ⟨fun y hy=>?_,ih⟩;rcases aE.mp hy with rfl|hy
  ·exact hp
  ·exact yC hp (List.rel_of_pairwise_cons ih hy)
theorem Br:∀l:List Str,sortedS l=true->l.Pairwise (fun a b=>Bq a b=true)
 |[],_=>List.Pairwise.nil
 |x::r,h=>uj x r h
theorem Bs{a b:List Str}(hp:a.Perm b)(ha:a.Pairwise (fun a b=>Bq a b=true))(hb:b.Pairwise (fun a b=>Bq a b=true)):a=b:=
 hp.eq_of_pairwise (fun x y _ _ h1 h2=>Ja h1 h2) ha hb
theorem sq{ss xx:List Str}(hp:xx.Perm ss)(hs:sortedS xx=true):xx=cB ss:=Bs (hp.trans (de ss).symm) (Br _ hs) (Dm ss)
def Gs(w:World)(a:Addr)(ss:List Str):HO:=.ext fun h=>jR w h a ss
theorem o_:∀{vs:List Value} {ss:List Str},StrsAre vs ss->Vals (ss.map V.str) vs
 |_,_,.nil=>.nil
 |_,_,.cons y t r=>.cons ⟨t,rfl⟩ (o_ r)
theorem tK:∀{ss:List Str} {vs:List Value},Vals (ss.map V.str) vs->StrsAre vs ss
 |[],_,.nil=>.nil
 |y::r,_,.cons r1 r2=>by
  obtain⟨t,rfl⟩:=(show∃t,_=Value.str y t from r1);exact .cons y t (tK r2)
theorem Gu(ts:List Str):(List.range' 0 ts.length).map (fun i=>ts.getD i Str.empty)=ts:=by
 refine List.ext_getElem (by simp) fun i h1 h2=>?_
 simp[h2]
theorem Inv.Mt (I:Inv X U Z H s)(d:Drawn):Inv X U Z H {s with drawn:=d}:=
 I.step (h':=s.heap) (H':=H) (g':=s.gens) (t':=s.toks) (d':=d) (ch:=[]) (fun _ z=>nomatch z) (fun b o _ _ _ e _=>e) (fun b o _ _ _ e _=>⟨o.slots,e⟩) (fun b o _ _ n=>n) (fun b o _ e=>⟨o,e⟩) (fun _ _ e=>e) (fun _ _ _ e=>e)
   (fun b ps e=>⟨#[],by rw[e];simp⟩) (fun m hm=>hm) I.cj I.bare
section
theorem Gv(hc:X.calm=true):fj X (.type "set") (fun xs H Q=>∃(p:Addr) (ts:List Str),xs=[.ref p]/\jZ X.K H p (ts.map V.str)/\ts.length+1<scanBound/\∀a,H a=none->Q (.ref a) (upd H a (Gs X.w a (eN [] ts)))):=by
 intro U s Z H xs us Q I r h;obtain⟨p,ts,rfl,hl,hb,q⟩:=h;obtain⟨u,rfl,ru⟩:=vals1 r;cases(show u=Value.ref p from ru);obtain⟨bz,rv,pl,hz⟩:=I.list hl;have b7:bz.length=ts.length:=by have e:=rv.length;rw[aC]at e;exact e.symm
 refine IZ (val:=fun i=>ts.getD i Str.empty) (I.ok.hd hc) pl.isList (fun i v hv=>?_) (by rw[b_,b7];exact hb) fun h' tk hS hk=>?_
 ·have HM:bz[i]?=some v:=by simpa using hv
  have hi:i<ts.length:=by rw[<-b7];exact(eR.mp HM).1
  obtain⟨u,hu,ru⟩:=rv.get (i:=i) (x:=V.str ts[i]) (by rw[bg,bb hi];rfl);rw[HM]at hu;cases hu;obtain⟨t,rfl⟩:=(show∃t,v=Value.str ts[i] t from ru);exact⟨t,by rw[dg,bb hi];rfl⟩
 ·have e0:bz.toArray.size=ts.length:=by rw[b_];exact b7
  rw[e0,Gu]at hS;have hf:H s.heap.objs.size=none:=I.fresh;refine⟨.ref s.heap.objs.size,_,I.laid (o:=Gs X.w s.heap.objs.size (eN [] ts)) (fun b o e=>hk b o (aF e) e) (aN _) ⟨hS,?_,fun h1 h2 x k=>jR.keep x k⟩,rfl,q _ hf⟩;obtain⟨o,_,_,_,_,ho,_⟩:=hS;exact⟨o,ho⟩
theorem wt(hc:X.calm=true):fj X (.builtin "sorted") (fun xs H Q=>∃(a:Addr) (ss:List Str),xs=[.ref a]/\H a=some (Gs X.w a ss)/\ss.length<64/\∀D,H D=none->Q (.ref D) (upd H D (.lst ((cB ss).map V.str)))):=by
 intro U s Z H xs us Q I r h;obtain⟨a,ss,rfl,ha,Dl,q⟩:=h;obtain⟨u,rfl,ru⟩:=vals1 r;cases(show u=Value.ref a from ru);obtain⟨hS,_,_⟩:=(show ck X.prog X.w H s.heap a (.ext fun h=>jR X.w h a ss)from I.cj a _ ha);refine Bp (I.ok.hd hc) hS Dl fun h' tk d D out n xx hk hD hg bH hp hs=>?_
 have e:=sq hp hs;subst e;have hf:H D=none:=I.cj.fresh hD;have hz:((cB ss).map V.str).length<=sizeLine:=by
  rw[aC,(de ss).length_eq,cR];omega
 have I1:Inv X U Z (upd H D (.lst ((cB ss).map V.str))) {s with heap:=h',toks:=tk}:=I.laid (o:=.lst ((cB ss).map V.str)) hk hD ⟨hz,out.toList,n,o_ bH,by rw[qQ];exact hg⟩;exact⟨.ref D,_,I1.Mt d,rfl,q _ hf⟩
theorem zx:fj X (.builtin "sorted") (fun xs H Q=>∃(a:Addr) (ss:List Str),xs=[.ref a]/\jZ X.K H a (ss.map V.str)/\ss.length<64/\∀D,H D=none->Q (.ref D) (upd H D (.lst ((cB ss).map V.str)))):=by
 intro U s Z H xs us Q I r h;obtain⟨a,ss,rfl,ha,Dl,q⟩:=h;obtain⟨u,rfl,ru⟩:=vals1 r;cases(show u=Value.ref a from ru);obtain⟨bz,rv,pl,_⟩:=I.list ha;have bH:=tK rv;have b7:bz.length=ss.length:=by have e:=rv.length;rw[aC]at e;exact e.symm
 refine sorted_strs pl.isList bH (by omega) fun out xx h1 h2 h3=>?_
 have e:=sq h2 h3;subst e;obtain⟨n,hg⟩:=sortedAll_at s.heap bz out;have hD:s.heap.objs.size<=s.heap.objs.size+1:=nJ _;have hf:H (s.heap.objs.size+1)=none:=I.cj.fresh hD;have hz:((cB ss).map V.str).length<=sizeLine:=by
  rw[aC,(de ss).length_eq,cR];omega
 exact⟨.ref (s.heap.objs.size+1),_,I.laid (t':=s.toks) (o:=.lst ((cB ss).map V.str)) (fun b o e=>sortedAll_old e) hD ⟨hz,out.toList,n,o_ h1,by rw[qQ];exact hg⟩,rfl,q _ hf⟩
end
section
variable {prog:Program}
theorem wu{it t:Addr}{a8:Array Value}{x:Value}(hit:s.heap.IsTupleIter it t i)(ht:s.heap.IsTuple t a8)(hx:a8[i]?=some x)
  (hQ:∀h',h'.IsTupleIter it t (i+1)->Heap.SameBut it s.heap h'->Q x {s with heap:=h'}):wpAny (model prog w) A (Builtin.SmallTypes.nextOf (.ref it)) Q E s:=by
 have key:wpAny (model prog w) A (pyNext (.ref it)) (fun r s'=>∃v,r=some v/\Q v s') (fun _ _=>False) s:=wpAny_pyNext_tuple_item hit ht hx fun h' a b=>⟨x,rfl,hQ h' a b⟩;obtain⟨o,ho,hc,hd⟩:=id hit;obtain⟨ol,Ol,_,nl,SS⟩:=ht;unfold Builtin.SmallTypes.nextOf;refine af (oX (name:=Str.ofString "__next__") hit.typeIs qI (fG qI hit.typeIs F.entry_tuple_iterator_next ?_ (F.args_tuple_iterator_next_1 _)));show wpAny _ _ (field (.ref it) 0>>=_) _ _ s;refine af (eY ho hd (x:=.ref t) rfl ?_);show wpAny _ _ (if(Value.ref t==Value.none)=true then _ else _) _ _ s;rw[ak (show¬((Value.ref t==Value.none)=true)from d9)];show wpAny _ _ (field (.ref it) 1>>=_) _ _ s;refine af (eY ho hd (x:=.int i 0) rfl ?_);show wpAny _ _ (seqItems? (.ref t)>>=_) _ _ s;refine af (fI Ol SS ?_);simp only[jY,hx];refine af (wpAny_setField ho hd (by simp) (ar ⟨x,rfl,ar (hQ _ ?_ (nj ..))⟩));exact⟨_,qR _ ho (Obj.isFreed_of_fields (Obj.data_mapFields hd _)),(Obj.cls_mapFields ..).trans hc,by rw[Obj.data_mapFields hd];simp[rawInt]⟩
theorem Gw{it t:Addr}{a8:Array Value}(hh:A.handled=none)(hit:s.heap.IsTupleIter it t i)(ht:s.heap.IsTuple t a8)(hx:a8[i]?=none)
  (hE:∀h' (e:Addr),Heap.ExtBut it s.heap h'->Shared.TypeIs {s with heap:=h'} (.ref e) "StopIteration"->E (.ref e) {s with heap:=h'}):wpAny (model prog w) A (Builtin.SmallTypes.nextOf (.ref it)) Q E s:=by
 obtain⟨o,ho,hc,hd⟩:=id hit;obtain⟨ol,Ol,_,nl,SS⟩:=ht;unfold Builtin.SmallTypes.nextOf;refine af (oX (name:=Str.ofString "__next__") hit.typeIs qI (fG qI hit.typeIs F.entry_tuple_iterator_next ?_ (F.args_tuple_iterator_next_1 _)));show wpAny _ _ (field (.ref it) 0>>=_) _ _ s;refine af (eY ho hd (x:=.ref t) rfl ?_);show wpAny _ _ (if(Value.ref t==Value.none)=true then _ else _) _ _ s;rw[ak (show¬((Value.ref t==Value.none)=true)from d9)];show wpAny _ _ (field (.ref it) 1>>=_) _ _ s;refine af (eY ho hd (x:=.int i 0) rfl ?_);show wpAny _ _ (seqItems? (.ref t)>>=_) _ _ s;refine af (fI Ol SS ?_);simp only[jY,hx];refine af (dY (af (wpAny_setField ho hd (by simp) ?_)));show wpAny _ _ (newExc (.type "StopIteration") []>>=_) _ _ _;refine af (wm hh fun h' x XC hk=>?_);exact hE h' x (fun b o hb e=>hk b o ((nj ..).extBut b o hb e)) XC
structure ZA(z TI TO i1 i2:Addr):Prop where
 TIz:TI≠z
 TOz:TO≠z
 i1z:i1≠z
 i2z:i2≠z
 TITO:TI≠TO
 TIi1:TI≠i1
 TIi2:TI≠i2
 TOi1:TO≠i1
 TOi2:TO≠i2
 i12:i1≠i2
theorem Gx{z TI TO i1 i2 l1 l2:Addr}{k1 k2:Nat}{xs ys:Array Value}{x y a b:Value}{Q:Option Value->Shared->Prop}(D:ZA z TI TO i1 i2)(hz:IsZip s.heap z TI TO .none)(Dn:IsPair s.heap TI (.ref i1) (.ref i2))(Gy:IsPair s.heap TO a b)
  (h1:s.heap.IsTupleIter i1 l1 k1) (h2:s.heap.IsTupleIter i2 l2 k2) (Hi:s.heap.IsTuple l1 xs) (K':s.heap.IsTuple l2 ys) (d1:l1≠z/\l1≠TO/\l1≠i1/\l1≠i2) (d2:l2≠z/\l2≠TO/\l2≠i1/\l2≠i2) (hx:xs[k1]?=some x) (hy:ys[k2]?=some y)
  (hQ:∀h',IsZip h' z TI TO (rawInt s.heap.objs.size)->IsPair h' TO x y->h'.IsTupleIter i1 l1 (k1+1)->h'.IsTupleIter i2 l2 (k2+1)->IsPair h' s.heap.objs.size x y->
   (∀c o,c≠z->c≠TO->c≠i1->c≠i2->s.heap.get? c=some o->h'.get? c=some o)->Q (some (.ref s.heap.objs.size)) {s with heap:=h'}):wpAny (model prog w) A (pyNext (.ref z)) Q E s:=by
 have hT:s.TypeIs (.ref z) "zip":=⟨_,hz,rfl⟩;unfold pyNext;refine af (rD (oX (name:=Str.ofString "__next__") hT rq (fG rq hT F.entry_zip_next ?_ (F.args_zip_next_1 _))));show wpAny _ _ (field (.ref z) 2>>=_) _ _ _;refine af (eY hz rfl (x:=.bool false) rfl ?_);show wpAny _ _ (field (.ref z) 3>>=_) _ _ _;refine af (eY hz rfl (x:=.ref TI) rfl (af (fI Dn rfl ?_)));show wpAny _ _ (Builtin.SmallTypes.ownedTupleIsFree (.ref z)>>=_) _ _ _;refine af ?_
 unfold Builtin.SmallTypes.ownedTupleIsFree;refine af (eY hz rfl (x:=.none) rfl (ar ?_));simp only[bB];refine af (dY (af (eY hz rfl (x:=.ref TO) rfl ?_)));refine af (g8 hz (by simp) fun dS wx oj=>?_);replace wx:IsZip dS z TI TO .ellipsis:=wx;refine af ?_
 simp only[List.zipIdx_cons,List.zipIdx_nil,nz,vx];refine af (af (wpAny_onRaise ?_));show wpAny _ _ (Builtin.SmallTypes.nextOf (.ref i1)>>=_) _ _ _;refine af (wu (s:={s with heap:=dS}) (h1.extBut oj.extBut D.i1z) (Hi.extBut oj.extBut d1.1) hx fun nW Vi tD=>ar ?_);have Jb:IsPair nW TO a b:=tD.extBut _ _ D.TOi1 (oj.extBut _ _ D.TOz Gy);refine af (fI Jb rfl (af (wpAny_updateSeq_pair Jb fun xF Dp zy=>?_)));replace Dp:IsPair xF TO x b:=Dp;refine af (ll (ar (af (af (wpAny_onRaise ?_)))));show wpAny _ _ (Builtin.SmallTypes.nextOf (.ref i2)>>=_) _ _ _;refine af (wu (s:={s with heap:=xF}) (((h2.extBut oj.extBut D.i2z).extBut tD.extBut D.i12.symm).extBut zy.extBut D.TOi2.symm) (((K'.extBut oj.extBut d2.1).extBut tD.extBut d2.2.2.1).extBut zy.extBut d2.2.1) hy fun PK Vj Jc=>ar ?_);have Jd:IsPair PK TO x b:=Jc.extBut _ _ D.TOi2 Dp;refine af (fI Jd rfl (af (wpAny_updateSeq_pair Jd fun pI zz Je=>?_)));replace zz:IsPair pI TO x y:=zz;refine af (ll (ar (ar ?_)));refine af (fI zz rfl (af (wpAny_newTuple ?_)));have hsz:pI.objs.size=s.heap.objs.size:=by rw[Je.1,Jc.1,zy.1,tD.1,oj.1]
 have Oo:IsZip pI z TI TO .ellipsis:=Je.extBut _ _ D.TOz.symm (Jc.extBut _ _ D.i2z.symm (zy.extBut _ _ D.TOz.symm (tD.extBut _ _ D.i1z.symm wx)));have Vk:∀c o,c≠z->c≠TO->c≠i1->c≠i2->s.heap.get? c=some o->pI.get? c=some o:=fun c o c1 c2 c3 c4 e=>Je.extBut _ _ c2 (Jc.extBut _ _ c4 (zy.extBut _ _ c2 (tD.extBut _ _ c3 (oj.extBut _ _ c1 e))));have Vl:pI.IsTupleIter i1 l1 (k1+1):=((Vi.extBut zy.extBut D.TOi1.symm).extBut Jc.extBut D.i12).extBut Je.extBut D.TOi1.symm;have Vm:pI.IsTupleIter i2 l2 (k2+1):=Vj.extBut Je.extBut D.TOi2.symm;have Vn:z<pI.objs.size:=aF Oo;show wpAny _ _ (Builtin.SmallTypes.ownedTupleHandOut (.ref z) (.ref pI.objs.size)>>=_) _ _ _;refine af ?_
 unfold Builtin.SmallTypes.ownedTupleHandOut;have Vo:IsZip (pI.push {cls:=.type "tuple",data:=.seq #[x,y]}) z TI TO .ellipsis:=aX _ Oo;refine af (g8 Vo (by simp) fun Zp Jf Vp=>?_);replace Jf:IsZip Zp z TI TO (rawInt pI.objs.size):=Jf;refine g8 Jf (by simp) fun Mu ER Vq=>?_
 replace ER:IsZip Mu z TI TO (rawInt pI.objs.size):=ER;have up:∀c o,c≠z->pI.get? c=some o->Mu.get? c=some o:=fun c o c1 e=>Vq.extBut _ _ c1 (Vp.extBut _ _ c1 (aX _ e));have Oq:IsPair Mu pI.objs.size x y:=Vq.extBut _ _ (cJ Vn) (Vp.extBut _ _ (cJ Vn) (bE _ rfl));rw[hsz]at ER Oq;refine ar ⟨_,rfl,ar ?_⟩;show Q (some (.ref pI.objs.size)) _;rw[hsz];exact hQ Mu ER (up _ _ D.TOz zz) (Vl.at fun o e=>up _ o D.i1z e) (Vm.at fun o e=>up _ o D.i2z e) Oq fun c o c1 c2 c3 c4 e=>up c o c1 (Vk c o c1 c2 c3 c4 e)
theorem Jg{z TI TO i1 i2 l1:Addr}{k1:Nat}{xs:Array Value}{a b:Value}{Q:Option Value->Shared->Prop}(hh:A.handled=none)(D:ZA z TI TO i1 i2)(hz:IsZip s.heap z TI TO .none)(Dn:IsPair s.heap TI (.ref i1) (.ref i2))(Gy:IsPair s.heap TO a b)
  (h1:s.heap.IsTupleIter i1 l1 k1) (Hi:s.heap.IsTuple l1 xs) (d1:l1≠z) (hx:xs[k1]?=none)
  (hQ:∀h',(∀c o,c≠z->c≠i1->s.heap.get? c=some o->h'.get? c=some o)->Q none {s with heap:=h'}):wpAny (model prog w) A (pyNext (.ref z)) Q E s:=by
 have hT:s.TypeIs (.ref z) "zip":=⟨_,hz,rfl⟩;unfold pyNext;refine af (rD (oX (name:=Str.ofString "__next__") hT rq (fG rq hT F.entry_zip_next ?_ (F.args_zip_next_1 _))));show wpAny _ _ (field (.ref z) 2>>=_) _ _ _;refine af (eY hz rfl (x:=.bool false) rfl ?_);show wpAny _ _ (field (.ref z) 3>>=_) _ _ _;refine af (eY hz rfl (x:=.ref TI) rfl (af (fI Dn rfl ?_)));show wpAny _ _ (Builtin.SmallTypes.ownedTupleIsFree (.ref z)>>=_) _ _ _;refine af ?_
 unfold Builtin.SmallTypes.ownedTupleIsFree;refine af (eY hz rfl (x:=.none) rfl (ar ?_));simp only[bB];refine af (dY (af (eY hz rfl (x:=.ref TO) rfl ?_)));refine af (g8 hz (by simp) fun dS wx oj=>?_);replace wx:IsZip dS z TI TO .ellipsis:=wx;refine af ?_
 simp only[List.zipIdx_cons,List.zipIdx_nil,nz,vx];refine af (af (wpAny_onRaise ?_));show wpAny _ _ (Builtin.SmallTypes.nextOf (.ref i1)>>=_) _ _ _;refine af (Gw (s:={s with heap:=dS}) hh (h1.extBut oj.extBut D.i1z) (Hi.extBut oj.extBut d1) hx fun nW e tD he=>?_);have Ot:IsZip nW z TI TO .ellipsis:=tD _ _ D.i1z.symm wx;obtain⟨oe,hoe,hce⟩:=he;have hez:e≠z:=fun q=>by
  have Vr:nW.get? e=some oe:=hoe;rw[q,Ot]at Vr;cases Vr;simp at hce
 refine g8 (s:={s with heap:=nW}) Ot (by simp) fun xF _ zy=>?_
 refine af (nD (s:={s with heap:=xF}) (T:="StopIteration") (b:=true) ⟨oe,zy.extBut _ _ hez hoe,hce⟩ isSubtype_stop ?_);exact ar (hQ xF fun c o c1 c2 q=>zy.extBut _ _ c1 (tD _ _ c2 (oj.extBut _ _ c1 q)))
end
section
variable {h':Heap}
theorem gR.apart {b:Addr}{xs:List V}(I:Inv X U Z H s)(h:gR X.K H a xs)(f:jQ X U H b):a≠b:=by
 rcases h with(h|⟨o,h⟩)|⟨o,bz,n,hk,_⟩
 ·exact aY h f.1
 ·exact aY h f.1
 ·intro e;subst e;have hb:=I.ok.mod.NL a o hk;rcases f.2.2.2.1 with q|q
  ·exact I.ok.y1 a o hb q
  ·exact absurd (cn (aF (I.ok.bs a o hb).1) q) (dm _)
theorem Inv.Gz {ch:List Addr}{T:Addr}{o:HO}{t':Nat}(I:Inv X U Z H s)(xY:∀b∈ch,jQ X U H b)(k:∀b o,b∉ch->s.heap.get? b=some o->h'.get? b=some o)(hT:s.heap.objs.size<=T)
  (new:ck X.prog X.w (upd H T o) h' T o):Inv X U Z (upd H T o) {s with heap:=h',toks:=t'}:=by
 have K4:H T=none:=I.cj.fresh hT;have Hw:∀b u,H b=some u->b∉ch:=fun b u e m=>by rw[(xY b m).1]at e;cases e
 refine I.step (g':=s.gens) (d':=s.drawn) (ch:=ch) (fun b hb=>?_) (fun b o _ _ hc e _=>k b o hc e) (fun b o _ _ hc e _=>⟨o.slots,k b o hc e⟩) (fun b o _ e n=>?_) (fun b o hc e=>⟨o,k b o hc e⟩) (fun b xs e=>?_) (fun b o u e=>?_) (fun b ps e=>⟨#[],?_⟩) (fun m hm=>?_) (fun b u e=>?_) I.bare
 ·obtain⟨_,x1,_,x3,x4,x5⟩:=xY b hb;exact⟨x3,x1,x4,x5⟩
 ·rw[ay (bc (cn (aF e) hT))];exact n
 ·rw[ay (aY e K4)];exact e
 ·rw[ay (aY e K4)];exact e
 ·rw[ay (aY e K4),e];simp
 ·exact hm.at' fun o e=>k _ o (fun z=>(xY _ z).2.1 rfl) e
 ·by_cases hb:b=T
  ·subst hb;rw[aU]at e;cases e;exact new
  ·rw[ay hb]at e;refine(I.cj b u e).nM (fun c v hc q=>k c v ?_ q) (fun c q=>by rw[ay (aY q K4)];exact q) fun c xs q=>by rw[ay (aY q K4)];exact q
   rcases hc with rfl|hc
   ·exact Hw c u e
   ·exact Hw c _ hc
theorem Inv.pb {ch:List Addr}{t':Nat}(I:Inv X U Z H s)(xY:∀b∈ch,jQ X U H b)(k:∀b o,b∉ch->s.heap.get? b=some o->h'.get? b=some o):Inv X U Z H {s with heap:=h',toks:=t'}:=by
 have Hw:∀b u,H b=some u->b∉ch:=fun b u e m=>by rw[(xY b m).1]at e;cases e
 refine I.step (g':=s.gens) (d':=s.drawn) (ch:=ch) (fun b hb=>?_) (fun b o _ _ hc e _=>k b o hc e) (fun b o _ _ hc e _=>⟨o.slots,k b o hc e⟩) (fun b o _ e n=>n) (fun b o hc e=>⟨o,k b o hc e⟩) (fun b xs e=>e) (fun b o u e=>e) (fun b ps e=>⟨#[],by rw[e];simp⟩) (fun m hm=>?_) (fun b u e=>?_) I.bare
 ·obtain⟨_,x1,_,x3,x4,x5⟩:=xY b hb;exact⟨x3,x1,x4,x5⟩
 ·exact hm.at' fun o e=>k _ o (fun z=>(xY _ z).2.1 rfl) e
 ·refine(I.cj b u e).nM (fun c v hc q=>k c v ?_ q) (fun c q=>q) fun c xs q=>q;rcases hc with rfl|hc
  ·exact Hw c u e
  ·exact Hw c _ hc
end
def Zq(K:Frag)(a b:Addr):It:=
 ⟨fun i H=>∃xs ys x y,gR K H a xs/\gR K H b ys/\xs[i]?=some x/\ys[i]?=some y,
  fun i H v H'=>∃T x y,v=.ref T/\H T=none/\H'=upd H T (.tup [x,y])/\(∀xs,gR K H a xs->xs[i]?=some x)/\(∀ys,gR K H b ys->ys[i]?=some y),
  fun i H=>∃xs,gR K H a xs/\xs.length<=i⟩
theorem Jh{es:List Expr}{x1:Nat}{z TI TO i1 i2 b:Addr}(D:ZA z TI TO i1 i2):
  Turn P w K (.Tuple es x1 pos) (Zq K a b) [z,TI,TO,i1,i2] z (fun i h=>IsZip h z TI TO .none/\IsPair h TI (.ref i1) (.ref i2)/\(∃p q,IsPair h TO p q)/\h.IsTupleIter i1 a i/\h.IsTupleIter i2 b i) where
 mem:=by simp
 obj:=fun i h st c hc=>by
  obtain⟨hz,Dn,⟨p,q,Gy⟩,⟨o1,e1,c1,d1⟩,⟨o2,e2,c2,d2⟩⟩:=st;simp only[aE,a_,ba]at hc;rcases hc with rfl|rfl|rfl|rfl|rfl
  ·exact⟨_,hz,fun v e=>by cases(show Data.fields _=Data.cell v from e)⟩
  ·exact⟨_,Dn,fun v e=>by cases(show Data.seq _ _=Data.cell v from e)⟩
  ·exact⟨_,Gy,fun v e=>by cases(show Data.seq _ _=Data.cell v from e)⟩
  ·exact⟨o1,e1,fun v e=>by rw[d1]at e;cases e⟩
  ·exact⟨o2,e2,fun v e=>by rw[d2]at e;cases e⟩
 keep:=fun i h h' st k=>by
  obtain⟨hz,Dn,⟨p,q,Gy⟩,h1,h2⟩:=st;exact⟨k z (by simp) _ hz,k TI (by simp) _ Dn,⟨p,q,k TO (by simp) _ Gy⟩,h1.at fun o e=>k i1 (by simp) o e,h2.at fun o e=>k i2 (by simp) o e⟩
 item:=by
  intro X hP hw hK hc i U s Z H E I hf st hg;subst hP hw hK;obtain⟨xs,ys,x,y,SU,Zr,hx,hy⟩:=hg;obtain⟨hz,Dn,⟨p,q,Gy⟩,h1,h2⟩:=st;obtain⟨Ji,XD,p1,_⟩:=I.tuple SU;obtain⟨vK,K7,p2,_⟩:=I.tuple Zr;obtain⟨u1,hu1,ru1⟩:=XD.get hx;obtain⟨u2,hu2,Vs⟩:=K7.get hy;have XF:∀c∈[z,TI,TO,i1,i2],a≠c:=fun c m=>SU.apart I (hf c m);have XG:∀c∈[z,TI,TO,i1,i2],b≠c:=fun c m=>Zr.apart I (hf c m);refine Gx D hz Dn Gy h1 h2 (show s.heap.IsTuple a Ji.toArray from p1) (show s.heap.IsTuple b vK.toArray from p2) ⟨XF _ (by simp),XF _ (by simp),XF _ (by simp),XF _ (by simp)⟩ ⟨XG _ (by simp),XG _ (by simp),XG _ (by simp),XG _ (by simp)⟩
   (x:=u1) (y:=u2) (by simpa using hu1) (by simpa using hu2) fun dS g1 g2 g3 g4 g5 kk=>?_
  refine⟨_,rfl,wpAny_letOwnedTupleGo_zip g1 fun nW k1 sb=>?_⟩;have lt:∀{c:Addr} {o:Obj},s.heap.get? c=some o->s.heap.objs.size≠c:=fun e=>cJ (aF e);have hTz:s.heap.objs.size≠z:=lt hz;have up:∀c o,c∉[z,TO,i1,i2]->s.heap.get? c=some o->nW.get? c=some o:=fun c o m e=>by
   simp only[aE,a_,ba,iq]at m;exact sb.extBut _ _ m.1 (kk c o m.1 m.2.1 m.2.2.1 m.2.2.2 e)
  have Po:IsPair nW s.heap.objs.size u1 u2:=sb.extBut _ _ hTz g5;refine⟨.ref s.heap.objs.size,_,I.Gz (t':=s.toks) (ch:=[z,TO,i1,i2]) (T:=s.heap.objs.size) (o:=.tup [x,y]) (fun c m=>hf c ?_) up (aN _) ⟨by show 2<=sizeLine;decide,[u1,u2],.cons ru1 (.cons Vs .nil),⟨_,Po,rfl,_,rfl⟩⟩,rfl,
   ⟨s.heap.objs.size,x,y,rfl,I.fresh,rfl,fun xs' h=>by rw[I.oZ h SU];exact hx,fun ys' h=>by rw[I.oZ h Zr];exact hy⟩,
   ⟨k1,sb.extBut _ _ D.TIz (kk _ _ D.TIz D.TITO D.TIi1 D.TIi2 Dn),⟨u1,u2,sb.extBut _ _ D.TOz g2⟩,g3.extBut sb.extBut D.i1z,g4.extBut sb.extBut D.i2z⟩,fun c m=>?_⟩
  ·simp only[aE,a_,ba]at m⊢;rcases m with h|h|h|h<;>simp[h]
  ·rw[ay ?_]
   ·exact(hf c m).1
   ·simp only[aE,a_,ba]at m;obtain⟨o1,e1,_⟩:=h1;obtain⟨o2,e2,_⟩:=h2;rcases m with rfl|rfl|rfl|rfl|rfl
    ·exact(lt hz).symm
    ·exact(lt Dn).symm
    ·exact(lt Gy).symm
    ·exact(lt e1).symm
    ·exact(lt e2).symm
 done:=by
  intro X hP hw hK hc i U s Z H E I hf st hg;subst hP hw hK;obtain⟨xs,SU,hx⟩:=hg;obtain⟨hz,Dn,⟨p,q,Gy⟩,h1,h2⟩:=st;obtain⟨Ji,XD,p1,_⟩:=I.tuple SU;have hl:=XD.length;refine Jg (I.ok.hd hc) D hz Dn Gy h1 (show s.heap.IsTuple a Ji.toArray from p1) (SU.apart I (hf z (by simp))) (by simp;omega) fun h' kk=>⟨rfl,?_⟩;refine I.pb (t':=s.toks) (ch:=[z,i1]) (fun c m=>hf c ?_) fun c o m e=>?_
  ·simp only[aE,a_,ba]at m⊢;rcases m with h|h<;>simp[h]
  ·simp only[aE,a_,ba,iq]at m;exact kk c o m.1 m.2 e
 self:=fun _ _ _ _ _ st h=>wpAny_pyIter_zip st.1 h
theorem QX(n:Nat):ZA (n+4) (n+2) (n+3) n (n+1):=⟨bc (by omega),bc (by omega),bc (by omega),bc (by omega),bc (by omega),cJ (by omega),cJ (by omega),cJ (by omega),cJ (by omega),bc (by omega)⟩
def Zs(K:Frag)(ta:TA):TI:=fun Z H R=>ta Z H fun vs H1=>∃a b xs ys,vs=[.ref a,.ref b]/\gR K H1 a xs/\gR K H1 b ys/\R (Zq K a b) H1
theorem GA:bootBuiltins "zip"=some (.type "zip"):=by decide+kernel
theorem QY{es:List Expr}{x1:Nat}{nO:Pos}{a b:Expr}{ta:TA}(hg:Gl X "zip")(hm:X.mg "zip"=none)(ha:PA X [a,b] ta)(hs:starEach [a,b] X.env=[(false,eval a X.env),(false,eval b X.env)]:=by rfl) (TK:starEach [b] X.env=[(false,eval b X.env)]:=by rfl):
  PI X (.Tuple es x1 nO) (.Call (.Name "zip" p) [a,b] [] pos) (Zs X.K ta):=by
 intro U s Z H R I h;refine Call_ (sW I hg hm GA (u0 (dc (ha pos U s Z H _ I h) fun us s1 ⟨vs,H1,I1,r1,q1⟩=>?_) (by rw[hs,TK]) (by rw[TK];rfl)));obtain⟨c,d,xs,ys,e,hc,hd,q⟩:=q1;subst e;obtain⟨u,v,rfl,ru,rv⟩:=vals2 r1;cases(show u=Value.ref c from ru);cases(show v=Value.ref d from rv);obtain⟨Ji,XD,p1,_⟩:=I1.tuple hc;obtain⟨vK,K7,p2,_⟩:=I1.tuple hd;refine FJ (show s1.heap.IsTuple c Ji.toArray from p1) (show s1.heap.IsTuple d vK.toArray from p2) fun h' hz Dn Gy g1 g2 kk=>?_
 have I2:Inv X U Z H1 {s1 with heap:=h'}:=I1.kept (t':=s1.toks) kk;refine wpAny_pyIter_zip hz ⟨s1.heap.objs.size+4,[s1.heap.objs.size+4,s1.heap.objs.size+2,s1.heap.objs.size+3,s1.heap.objs.size,s1.heap.objs.size+1],_,_,H1,rfl,I2,Jh (QX _),⟨hz,Dn,⟨_,_,Gy⟩,g1,g2⟩,fun b m=>?_,q⟩;have hb:s1.heap.objs.size<=b:=by
  simp only[aE,a_,ba]at m;rcases m with rfl|rfl|rfl|rfl|rfl
  ·exact nu _ 4
  ·exact nu _ 2
  ·exact nu _ 3
  ·exact aN _
  ·exact nu _ 1
 exact I1.vC hb (I1.cj.fresh hb)
def Ou(us ws:List Tr):List Tr:=List.zipWith (fun a b=>.tup [a,b]) us ws
section
variable {a b:Expr}{nO:Pos}{es:List Expr}{x1:Nat}
theorem GB{a b:Addr}{vs ws:List V}{us:List Tr}(h:gR K (bq B H) a vs)(r:aV K (bq B H) vs ts)(h2:gR K (bq B H) b ws)(r2:aV K (bq B H) ws us)(hl:ts.length<=us.length):lD K B (Zq K a b) H (Ou ts us) where
 go:=fun i B' H' hi s hb=>by
  have Xv:i<ts.length:=by unfold Ou at hi;rw[List.length_zipWith]at hi;omega
  have hv:i<vs.length:=by rw[r.length];exact Xv
  have hw:i<ws.length:=by rw[r2.length];omega
  exact⟨vs,ws,vs[i],ws[i],au.tup aT (s.h.tup h),au.tup aT (s.h.tup h2),by simp[hv],by simp[hw]⟩
 FR:=fun i B' H' x K3 hi s hb ⟨T,y,z,e1,e2,e3,q,q2⟩=>by
  subst e1 e3;obtain⟨t,et,rt⟩:=r.vU (q vs (au.tup aT (s.h.tup h)));obtain⟨u,eu,ru⟩:=r2.vU (q2 ws (au.tup aT (s.h.tup h2)));refine⟨au.upd e2,.tup [t,u],by unfold Ou;rw[List.getElem?_zipWith,et,eu],.tup (.of (hb.new e2)) (.cons ((rt.same s).same (aR (au.upd e2))) (.cons ((ru.same s).same (aR (au.upd e2))) .nil))⟩
 stop:=fun B' H' s=>⟨vs,au.tup aT (s.h.tup h),by unfold Ou;rw[List.length_zipWith,r.length];omega⟩
def Zt(l:Rs (List Tr)):Rs (List Tr):=l.bind fun ts=>match ts with
 |[.tup us,.tup ws]=>if us.length<=ws.length then .ok (Ou us ws)else .bad
 |_=>.bad
theorem Vt(hm:X.mg "zip"=none)(ha:PA X [a,b] (AW X L))(hg:Gl X "zip":=by rfl) (hs:aH [a,b]=true:=by rfl):PI X (.Tuple es x1 nO) (.Call (.Name "zip" p) [a,b] [] pos) (tI X fun Y=>Zt (L Y)):=
 (QY hg hm ha (by rw[aS _ _ (az hs).1,aS _ _ (az (az hs).2).1];rfl) (by rw[aS _ _ (az (az hs).2).1];rfl)).weak fun Z H R ⟨B,Y,hb,r,q⟩=>⟨B,Y,hb,r,q.bind.mono fun ts qt vs H1 s1 r1=>by
  split at qt
  ·obtain⟨x,y,e,h1,h2⟩:=yh r1;obtain⟨_,_,rfl,h,rr⟩:=h1.cY;obtain⟨_,_,rfl,h',A9⟩:=h2.cY;split at qt
   ·rename_i hl;exact⟨_,_,_,_,e,au.tup aT h,au.tup aT h',qt _ H1 s1 (GB h rr h' A9 hl)⟩
   ·exact qt.elim
  ·exact qt.elim⟩
def Mv:Tr->Rs Tr
 |.str z=>.ok (.str z)
 |.int i=>if i.natAbs.log2<1920/\(Str.ofString (toString i)).length<=bV then .ok (.str (Str.ofString (toString i)))else .bad
 |_=>.bad
theorem QZ{v:Expr}(h:PE X v (tP X F)):PE X (.FormattedValue v (-1) none pos) (tP X fun Y=>(F Y).bind Mv):=by
 intro U s Z H Q I ⟨B,Y,hb,r,q⟩;refine FormattedValue_plain (dc (h U s Z H (fun x H1=>∃t,Rep X.K (bq B H1) x t/\au H H1/\Fi X H (Mv t) fun t=>∀v H',au H H'->Rep X.K (bq B H') v t->Q v H') I ⟨B,Y,hb,r,q.bind.mono fun t qt v H1 s1 r1=>⟨t,r1,s1,qt⟩⟩) fun u s1 ⟨x,H1,I1,rx,t,rt,sm,k⟩=>?_);cases rt with
 |str z hz=>
  obtain⟨tk,rfl⟩:=(show∃t,u=Value.str z t from rx);exact formatField_str (fun t' uE=>⟨.str z,H1,I1.tok _,⟨_,rfl⟩,k _ H1 sm (.str z hz)⟩) (bJ hz j8)
 |int i=>
  obtain⟨tk,rfl⟩:=(show∃t,u=Value.int i t from rx);obtain⟨⟨k1,k2⟩,k⟩:=fY k;exact formatField_int_small k1 ⟨.str _,H1,(I1.tok _).tok _,⟨_,rfl⟩,k _ H1 sm (.str _ k2)⟩
 |_=>exact fe k
def PJ(X:Cx)(es:List Expr)(J:aQ->Str->Rs Tr):Prop:=∀(U:List (Addr×Obj)) (s:Shared) (Z:St) (H:Hp) (acc:Str) (Q:VK),Inv X U Z H s->tP X (fun Y=>J Y acc) Z H Q->wpAny (model X.prog X.w) X.A (joinParts acc (evalEach es X.env)) (EP X U Z Q) X.xe s
def zA(acc:Str):Rs Tr:=if acc.length<=bV then .ok (.str acc)else .bad
theorem Vu:PJ X [] fun _ acc=>zA acc:=by
 intro U s Z H acc Q I ⟨B,Y,hb,r,q⟩;obtain⟨h1,k⟩:=fY q;exact joinParts_nil ⟨.str acc,H,I.tok _,⟨_,rfl⟩,k _ H (au.refl H) (.str acc h1)⟩ (bJ h1 j8)
def om(r:Rs Tr)(J:Str->Rs Tr)(acc:Str):Rs Tr:=r.bind fun t=>match t with
 |.str y=>if(acc++y).length<=bV then J (acc++y)else .bad
 |_=>.bad
theorem Q0{J:aQ->Str->Rs Tr}(h:PE X e (tP X F))(hr:PJ X es J):PJ X (e::es) fun Y acc=>om (F Y) (J Y) acc:=by
 intro U s Z H acc Q I ⟨B,Y,hb,r,q⟩;refine joinParts_cons (dc (h U s Z H (fun x H1=>∃y,x=.str y/\(acc++y).length<=bV/\au H H1/\Fi X H (J Y (acc++y)) fun t=>∀v H',au H H'->Rep X.K (bq B H') v t->Q v H') I ⟨B,Y,hb,r,q.bind.mono fun t qt v H1 s1 r1=>?_⟩) fun u s1 ⟨x,H1,I1,rx,y,ex,hl,sm,k⟩=>?_)
 ·cases r1 with
  |str y hy=>
   by_cases hl:(acc++y).length<=bV
   ·exact⟨y,rfl,hl,s1,by have k:Fi X H (if(acc++y).length<=bV then J Y (acc++y)else .bad) _:=qt;rw[ag hl]at k;exact k⟩
   ·have k:Fi X H (if(acc++y).length<=bV then J Y (acc++y)else .bad) _:=qt;rw[ak hl]at k;exact fe k
  |_=>exact fe qt
 ·subst ex;obtain⟨tk,rfl⟩:=(show∃t,u=Value.str y t from rx);exact⟨bJ hl j8,hr U s1 Z H1 _ Q I1 ⟨B,Y,hb.same sm,r.same sm,(k.same sm).mono fun t qt v H2 s2 r2=>qt v H2 (sm.trans s2) r2⟩⟩
theorem Mw{v1 v2:Expr}{c7:List Expr}{J:aQ->Str->Rs Tr}(h:PJ X (v1::v2::c7) J):PE X (.JoinedStr (v1::v2::c7) pos) (tP X fun Y=>J Y Str.empty):=fun U s Z H Q I q=>JoinedStr_many (h U s Z H Str.empty Q I q)
def wy:List Tr->Rs (List String)
 |[]=>.ok []
 |.ty n::ts=>(wy ts).bind fun ns=>.ok (n::ns)
 |_::_=>.bad
theorem ES:∀{ts:List Tr} {ns:List String},wy ts=.ok ns->ts=ns.map Tr.ty
 |[],ns,h=>by cases h;rfl
 |t::ts,ns,h=>by
  cases t with
  |ty n=>
   cases e:wy ts with
   |ok ms=>
    rw[wy,e]at h;cases h;rw[ES e];rfl
   |_=>rw[wy,e]at h;cases h
  |_=>cases h
theorem Bt:∀{ts:List Tr} {c:Tr},wy ts≠ .exc c
 |[],c,h=>by cases h
 |t::ts,c,h=>by
  cases t with
  |ty n=>
   cases e:wy ts with
   |ok ms=>rw[wy,e]at h;cases h
   |exc c'=>exact Bt e
   |bad=>rw[wy,e]at h;cases h
  |_=>cases h
theorem Bu{H:Vw}:∀{ns:List String} {vs:List V},aV K H vs (ns.map Tr.ty)->vs=ns.map V.ty
 |[],_,r=>by cases r;rfl
 |n::ns,_,r=>by
  cases r with
  |cons h r=>cases h;rw[Bu r];rfl
theorem ET(K:Frag)(a:String)(ha:a∈["NoneType","bool","int","str","tuple","list","dict"]):∀(cs:List String),(∀c∈cs,c∈kinds)->PySem.W.kitAny K (.type a) (cs.map Value.type)=some (cs.any fun c=>a==c||(a=="bool"&&c=="int"))
 |[],_=>rfl
 |c::cs,h=>by
  have ih:=ET K a ha cs fun d m=>h d (bI _ m);have k1:=EC K a ha c (h c (bR ..));rw[aO,PySem.W.kitAny,k1,ih,hJ];cases(a==c||(a=="bool"&&c=="int"))<;>rfl
def Ov:List Tr->Rs Tr
 |[t,.tup cs]=>(wy cs).bind fun ns=>if ym t=true/\ns.all (fun c=>kinds.contains c)=true then .ok (.bl (ns.any (Xs t)))else .bad
 |_=>.bad
theorem Vv{W:Vw}{H:Hp}{x:V}{t:Tr}(r:Rep K W x t)(f:ym t=true):v_ t∈["NoneType","bool","int","str","tuple","list","dict"]/\NX x=true/\rP K H x (.type (v_ t)):=by
 cases r with
 |bK=>exact⟨.head _,rfl,.bK⟩
 |bl b=>exact⟨.tail _ (.head _),rfl,.bl b⟩
 |int i=>exact⟨.tail _ (.tail _ (.head _)),rfl,.int i⟩
 |str z _=>exact⟨.tail _ (.tail _ (.tail _ (.head _))),rfl,.str z⟩
 |_=>cases f
theorem Q1:j9 X (.builtin "isinstance") Ov:=by
 intro U s Z H xs us Q I rv ⟨B,ts,hb,r,q⟩;unfold Ov at q;split at q
 ·rename_i t cs;obtain⟨x1,x2,rfl,h1,h2⟩:=yh r;obtain⟨a,vs,rfl,h,rr⟩:=h2.cY;cases e:wy cs with
  |exc c=>exact(Bt e).elim
  |bad=>rw[e]at q;exact fe q
  |ok ns=>
   rw[e]at q;have f:=fY q;have ec:=ES e;subst ec;have ev:=Bu rr;subst ev;have mem:∀c∈ns,c∈kinds:=fun c m=>by
    have:=cO.mp f.1.2 c m;simpa using this
   obtain⟨ha,fx,tx⟩:=Vv (H:=H) h1 f.1.1;refine F6 U s Z H _ us Q I rv ⟨_,_,ns,.type (v_ t),_,rfl,fx,h.up,tx,ET X.K _ ha ns mem,?_⟩;have e2:(ns.any fun c=>v_ t==c||(v_ t=="bool"&&c=="int"))=ns.any (Xs t):=rfl;rw[e2];exact f.2 _ H (au.refl H) (.bl _)
 ·exact fe q
end
theorem wz:∀{xs:List V} {bz:List Value},xs.length=bz.length->(∀(i:Nat) (x:V) (u:Value),xs[i]?=some x->bz[i]?=some u->RelV x u)->Vals xs bz
 |[],[],_,_=>.nil
 |[],_::_,h,_=>by cases h
 |_::_,[],h,_=>by cases h
 |x::xs,u::us,h,k=>.cons (k 0 x u rfl rfl) (wz (by simpa using h) fun i y w e1 e2=>k (i+1) y w (by simpa using e1) (by simpa using e2))
theorem tL{k:Key}{v:Value}(h:lr k v=true):RelV (kV k) v:=by
 rcases cM h with⟨j,t,e1,e2⟩|⟨y,t,e1,e2⟩
 ·rw[e1,e2];exact⟨t,rfl⟩
 ·rw[e1,e2];exact⟨t,rfl⟩
theorem GC{kvs:List (Key×V)}{vs:List (Key×Value)}(rv:KV kvs vs){acc:Array Value}(hi:ItemsOf (fun i v=>∃k x,vs[i]?=some (k,x)/\lr k v=true) acc vs.length):Vals (kvs.map fun p=>kV p.1) acc.toList:=by
 refine wz (by have e:=hi.1;rw[aC,qj rv,<-e,eW]) fun i x u e1 e2=>?_
 rw[lX]at e2;obtain⟨k,y,e3,e4⟩:=hi.2 i u e2;rw[bg]at e1;cases e5:kvs[i]? with
 |none=>rw[e5]at e1;cases e1
 |some p=>
  rw[e5]at e1;cases e1;obtain⟨z,e6⟩:=zr rv (k:=p.1) (v:=p.2) e5;rw[e6]at e3;cases e3;exact tL e4
section
variable {prog:Program}{vs:List (Key×Value)}{ep:Nat}
theorem zB{R:List Value->Shared->Prop}(hh:A.handled=none)(hd:(a==sysModules)=false)(hm:s.heap.DictAt (bx prog w) a vs ep)(hn:vs.length<=sizeLine)
  (h:∀(h':Heap) (tk:Nat) (acc:Array Value),ItemsOf (fun i v=>∃k x,vs[i]?=some (k,x)/\lr k v=true) acc vs.length->(∀b o,s.heap.get? b=some o->h'.get? b=some o)->s.heap.objs.size<=h'.objs.size->R acc.toList {s with heap:=h',toks:=tk}):wpAny (model prog w) A (collect (.ref a)) R E s:=by
 have fR:a<s.heap.objs.size:=hm.lt_size;unfold collect;refine af (wpAny_runValue (ee entry_proto_collect' ?_));rw[fD Av _];show wpAny _ A.in1 (newList []>>=fun l=>again (.builtin "list.__iadd__" ⟨[l,.ref a],[]⟩)) _ _ s;refine af (jr ?_);refine ar ⟨fJ qM _,ee entry_list_iadd' ?_⟩;rw[fD qM _];have hL:(s.heap.push {cls:=.type "list",data:=.seq ([]:List Value).toArray}).get? s.heap.objs.size=some {cls:=.type "list",data:=.seq #[]}:=bE _ rfl;show wpAny _ A.in1 (Builtin.List.listExtendWith (.ref s.heap.objs.size) (.ref a) (.ref s.heap.objs.size)) _ _ _;have key:=PySem.W.kdl_extend (prog:=prog) (A:=A) (s:={s with heap:=s.heap.push {cls:=.type "list",data:=.seq ([]:List Value).toArray}})
  (R:=fun(q:Result) (s':Shared)=>∃(h':Heap) (tk:Nat) (i8:Array Value) (c':Nat),q=.ok (.ret (.ref s.heap.objs.size))/\s'={s with heap:=h',toks:=tk}/\
   (∀b o,s.heap.get? b=some o->h'.get? b=some o)/\h'.get? s.heap.objs.size=some {cls:=.type "list",dict:=none,data:=.seq i8 c',slots:=#[]}/\ItemsOf (fun i v=>∃k x,vs[i]?=some (k,x)/\lr k v=true) i8 vs.length)
  (PySem.W.kdl_dict (knd:=bx prog w) (kvs:=vs) (ep:=ep) hd) hh (hm.push _) s.heap.objs.size (cJ fR) (cJ fR) (.ref s.heap.objs.size) 0 hL
  (fun h' tk i8 c' hk Bo qv=>⟨h',tk,i8,c',rfl,rfl,fun b o e=>hk b o (bc (aF e)) (aX _ e),Bo,qv⟩) hn
 refine cX key (fun fin s' x=>?_) fun e s' x=>?_
 ·cases fin with
  |done f=>
   obtain⟨h',tk,i8,c',e,rfl,hk,Bo,qv⟩:=x;cases e;show wpAny _ A (load s.heap.objs.size>>=_) _ _ _;refine af (nK Bo ?_);exact ar (h h' tk i8 qv hk (cQ (aF Bo)))
  |again c₁=>
   refine⟨x.1,gq x.2 fun q rM y=>?_⟩;obtain⟨h',tk,i8,c',rfl,rfl,hk,Bo,qv⟩:=y;show wpAny _ A (load s.heap.objs.size>>=_) _ _ _;refine af (nK Bo ?_);exact ar (h h' tk i8 qv hk (cQ (aF Bo)))
 ·obtain⟨_,_,_,_,e',_⟩:=x;cases e'
theorem Bv{ss:List Str}(hh:A.handled=none)(hd:(a==sysModules)=false)(hm:s.heap.DictAt (bx prog w) a vs ep)(hv:vs.map (·.1)=ss.map Sum.inr)(Dl:ss.length<64)
  (h:∀h' tk D out n xx,(∀b o,s.heap.get? b=some o->h'.get? b=some o)->s.heap.objs.size<=D->h'.get? D=some {cls:=.type "list",data:=.seq out n}->StrsAre out.toList xx->xx.Perm ss->sortedS xx=true->
   Q (.ref D) {s with heap:=h',toks:=tk}):wpAny (model prog w) A (call (.builtin "sorted") [.ref a]) Q E s:=by
 have hl:vs.length=ss.length:=by have q:=cw List.length hv;rw[aC,aC]at q;exact q
 have hz:vs.length<=sizeLine:=by rw[cR];omega
 refine call_function_entry kind_sorted plain_sorted entry_sorted (args_sorted1 _) ?_
 unfold Builtin.«sorted»;refine af (m:=checkCount "sorted" 1 1 _) (ar ?_);refine af (zB (A:=A.in1) hh hd hm hz fun dS tk acc hi hk hle=>?_);have QV:StrsAre acc.toList ss:=by
  refine tK (wz (by have e:=hi.1;rw[aC,<-hl,<-e,eW]) fun i x u e1 e2=>?_);rw[lX]at e2;obtain⟨k,y,e3,e4⟩:=hi.2 i u e2;have e5:(vs.map (·.1))[i]?=some k:=by rw[bg,e3];rfl
  rw[hv,bg]at e5;rw[bg]at e1;cases e6:ss[i]? with
  |none=>rw[e6]at e1;cases e1
  |some z=>rw[e6]at e1 e5;cases e1;cases e5;exact tL e4
 have b7:acc.toList.length=ss.length:=by rw[eW,hi.1,hl]
 refine af (nH ?_ (by rw[b7,cR];omega));have D4:(dS.push (seqObj "list" acc.toList.toArray 0)).get? dS.objs.size=some (seqObj "list" acc.toList.toArray 0):=bE _ rfl;refine af (dO (fG slot_list_sort ⟨_,D4,rfl⟩ entry_list_sort
  (list_sort_treeK strKind_oneLt D4 QV.keysOf (fun Zn Zo c7 e=>keyKind_strs (by rw[<-e];exact QV)) (by rw[b7];omega) fun vD a1 a2=>⟨_,rfl,?_⟩) (args_list_sort _)))
 refine ar ⟨_,rfl,?_⟩;obtain⟨xx,q1,q2,q3⟩:=sorted_out_str QV a1 a2;obtain⟨e,he⟩:=sortedHeap_at (out:=(arrOf vD).map (·.2)) D4;refine h _ tk dS.objs.size ((arrOf vD).map (·.2)) e xx (fun b o q=>?_) hle he q1 q2 q3;have hb:=hk b o q;have fR:=aF hb;rw[sortedHeap_old (bc fR) (by rw[ik];exact jX fR)];exact aX _ hb
end
section
theorem Dq(hc:X.calm=true):fj X (.type "list") (fun xs H Q=>∃(a:Addr) (kvs:List (Key×V)),xs=[.ref a]/\Rd H a (.dK kvs)/\∀D,H D=none->Q (.ref D) (upd H D (.lst (kvs.map fun p=>kV p.1)))):=by
 intro U s Z H xs us Q I r h;obtain⟨a,kvs,rfl,ha,q⟩:=h;obtain⟨u,rfl,ru⟩:=vals1 r;cases(show u=Value.ref a from ru);obtain⟨hz,hs,vs,rv,hm⟩:=(show ck X.prog X.w H s.heap a (.dK kvs)from ha.ok I.cj);obtain⟨ep,hm⟩:=hm.dictAt;have hl:=qj rv;refine PySem.W.kdl_call (PySem.W.kdl_dict (knd:=bx X.prog X.w) (kvs:=vs) (ep:=ep) hs) (I.ok.hd hc) hm (by rw[<-hl];exact hz) fun h' tk i8 c' hk hD qv=>?_
 have hf:H s.heap.objs.size=none:=I.fresh;exact⟨.ref s.heap.objs.size,_,I.laid (t':=tk) (o:=.lst (kvs.map fun p=>kV p.1)) hk (aN _) ⟨by rw[aC];exact hz,i8.toList,c',GC rv qv,by rw[qQ];exact hD⟩,rfl,q _ hf⟩
theorem zC(hc:X.calm=true):fj X (.builtin "sorted") (fun xs H Q=>∃(a:Addr) (kvs:List (Key×V)) (ss:List Str),xs=[.ref a]/\Rd H a (.dK kvs)/\kvs.map (·.1)=ss.map Sum.inr/\ss.length<64/\∀D,H D=none->Q (.ref D) (upd H D (.lst ((cB ss).map V.str)))):=by
 intro U s Z H xs us Q I r h;obtain⟨a,kvs,ss,rfl,ha,hk,Dl,q⟩:=h;obtain⟨u,rfl,ru⟩:=vals1 r;cases(show u=Value.ref a from ru);obtain⟨hz,hs,vs,rv,hm⟩:=(show ck X.prog X.w H s.heap a (.dK kvs)from ha.ok I.cj);obtain⟨ep,hm⟩:=hm.dictAt;have hv:vs.map (·.1)=ss.map Sum.inr:=by
  rw[<-hk];refine nk fun i=>?_
  rw[bg,bg];cases e:kvs[i]? with
  |none=>
   have h1:vs[i]?=none:=g6.mpr (by rw[<-qj rv];exact g6.mp e)
   rw[h1];rfl
  |some p=>
   obtain⟨z,e6⟩:=zr rv (k:=p.1) (v:=p.2) e;rw[e6];rfl
 refine Bv (I.ok.hd hc) hs hm hv Dl fun h' tk D out n xx hk hD hg bH hp hs=>?_
 have e:=sq hp hs;subst e;have hf:H D=none:=I.cj.fresh hD;have hz:((cB ss).map V.str).length<=sizeLine:=by
  rw[aC,(de ss).length_eq,cR];omega
 exact⟨.ref D,_,I.laid (t':=tk) (o:=.lst ((cB ss).map V.str)) hk hD ⟨hz,out.toList,n,o_ bH,by rw[qQ];exact hg⟩,rfl,q _ hf⟩
def oo:List Tr->Option (List Str)
 |[]=>some []
 |.str z::ts=>(oo ts).map fun r=>z::r
 |_=>none
theorem tM{W:Vw}:∀{vs:List V} {ts:List Tr} {ss:List Str},aV K W vs ts->oo ts=some ss->vs=ss.map V.str/\∀z∈ss,z.length<=bV
 |[],[],ss,_,e=>by cases e;exact⟨rfl,fun z h=>by cases h⟩
 |[],_::_,_,h,_=>by cases h
 |v::vs,ts,ss,h,e=>by
  cases h with
  |cons h r=>
   cases h with
   |str z hz=>
    rename_i ts;have e':(oo ts).map (fun r=>z::r)=some ss:=e;cases q:oo ts with
    |none=>rw[q]at e';cases e'
    |some rs=>
     rw[q]at e';cases e';obtain⟨h1,h2⟩:=tM r q;exact⟨by rw[h1];rfl,fun y hy=>by
      rcases aE.mp hy with rfl|hy
      ·exact hz
      ·exact h2 y hy⟩
   |_=>cases e
def uk:List (Key×Tr)->Option (List Str)
 |[]=>some []
 |(.inr z,_)::ts=>if z.length<=bV then(uk ts).map fun r=>z::r else none
 |_=>none
theorem Bw:∀{aG:List (Key×Tr)} {ss:List Str},uk aG=some ss->aG.map (·.1)=ss.map Sum.inr/\∀z∈ss,z.length<=bV
 |[],ss,e=>by cases e;exact⟨rfl,fun z h=>by cases h⟩
 |(.inl _,_)::_,_,e=>by cases e
 |(.inr z,t)::ts,ss,e=>by
  have e':(if z.length<=bV then(uk ts).map fun r=>z::r else none)=some ss:=e;by_cases hz:z.length<=bV
  ·rw[ag hz]at e';cases q:uk ts with
   |none=>rw[q]at e';cases e'
   |some rs=>
    rw[q]at e';cases e';obtain⟨h1,h2⟩:=Bw q;exact⟨by rw[aO,aO,h1],fun y hy=>by
     rcases aE.mp hy with rfl|hy
     ·exact hz
     ·exact h2 y hy⟩
  ·rw[ak hz]at e';cases e'
def yD(o:Option (List Str)):Rs Tr:=match o with
 |some ss=>if ss.length<64 then .ok (.lst ((cB ss).map .str))else .bad
 |none=>.bad
def fN:List Tr->Rs Tr
 |[.lst ts]=>yD (oo ts)
 |[.bo aG]=>yD (uk aG)
 |_=>.bad
theorem wA{W:Vw}{ss:List Str}(h:∀z∈ss,z.length<=bV):aV K W ((cB ss).map V.str) ((cB ss).map Tr.str):=yg fun z hz=>h z ((de ss).mem_iff.mp hz)
theorem yE{o:Option (List Str)}{k:Tr->Prop}(q:Fi X H (yD o) k):∃ss,o=some ss/\ss.length<64/\k (.lst ((cB ss).map .str)):=by
 unfold yD at q;split at q
 ·have f:=fY q;exact⟨_,rfl,f.1,f.2⟩
 ·exact q.elim
theorem iw(hc:X.calm=true):j9 X (.builtin "sorted") fN:=by
 intro U s Z H xs us Q I rv ⟨B,ts,hb,r,q⟩;unfold fN at q;split at q
 ·obtain⟨x,rfl,r0⟩:=eM r;obtain⟨a,vs,rfl,h,rr⟩:=r0.lst_inv;obtain⟨ss,e1,Dl,k⟩:=yE q;obtain⟨rfl,hs⟩:=tM rr e1;exact zx U s Z H _ us Q I rv ⟨_,ss,rfl,.of (cZ h),Dl,fun p hp=>k _ _ (au.upd hp) (.zh hb hp (wA hs))⟩
 ·obtain⟨x,rfl,r0⟩:=eM r;obtain⟨a,kvs,rfl,h,ek,rr⟩:=r0.md;obtain⟨ss,e1,Dl,k⟩:=yE q;obtain⟨e2,hs⟩:=Bw e1;exact zC hc U s Z H _ us Q I rv ⟨_,_,ss,rfl,h.same aT,ek.trans e2,Dl,fun p hp=>k _ _ (au.upd hp) (.zh hb hp (wA hs))⟩
 ·exact q.elim
def Dr:List Tr->Rs Tr
 |[.bo aG]=>(Bi aG).bind fun ts=>.ok (.lst ts)
 |_=>.bad
theorem Bx{W:Vw}:∀{kvs:List (Key×V)} {aG:List (Key×Tr)},kvs.map (·.1)=aG.map (·.1)->aG.all (fun p=>keyOk p.1)=true->aV K W (kvs.map fun p=>kV p.1) (aG.map fun p=>yy p.1)
 |[],[],_,_=>.nil
 |[],_::_,e,_=>by cases e
 |_::_,[],e,_=>by cases e
 |(k1,v)::kvs,(k2,t)::aG,e,h=>by
  rw[aO,aO]at e;injection e with e1 e2
  have L8:k1=k2:=e1;subst L8;rw[gn,bf]at h;exact .cons (yz h.1) (Bx e2 h.2)
theorem Mx(hc:X.calm=true):j9 X (.type "list") Dr:=by
 intro U s Z H xs us Q I rv ⟨B,ts,hb,r,q⟩;unfold Dr at q;split at q
 ·obtain⟨x,rfl,r0⟩:=eM r;obtain⟨a,kvs,rfl,h,ek,rr⟩:=r0.md;have f:=fY (Fi.bind q);exact Dq hc U s Z H _ us Q I rv ⟨_,_,rfl,h.same aT,fun p hp=>f.2 _ _ (au.upd hp) (.zh hb hp (Bx ek f.1))⟩
 ·exact q.elim
def jD:Tr->Rs Tr
 |.lst ts=>match oo ts with
  |some ss=>if ss.length<64 then .ok (.lst ((cB (eN [] ss)).map .str))else .bad
  |none=>.bad
 |_=>.bad
variable {l:Expr}{p1 p2 My Mz:Pos}
end
def uF(ts:List Tr)(x:Tr):Rs Tr:=if qe x=true/\ts.all ym=true then(match ts.findIdx? (fun y=>eqT y x)with|some j=>.ok (.int j)|none=>.bad)else .bad
def MA(ts:List Tr)(x:Tr):Rs Tr:=if qe x=true/\ts.all ym=true then .ok (.int (ts.countP fun y=>eqT y x:Nat))else .bad
theorem EU{W:Vw}{x:Tr}:∀{vs:List V} {ts:List Tr} {us:List Value},aV K W vs ts->ts.all ym=true->Vals vs us->us.map (eU x)=ts.map fun y=>eqT y x
 |[],_,_,r,_,rv=>by cases r;cases rv;rfl
 |_::_,_,_,r,f,rv=>by
  cases r with
  |cons h r=>
   cases rv with
   |cons h1 rv=>
    rw[gn,bf]at f;rw[aO,aO,C8 h f.1 h1,EU r f.2 rv]
theorem EV{us:List Value}{x:Tr}{j:Nat}(e:us.map (eU x)=ts.map fun y=>eqT y x)(h:ts.findIdx? (fun y=>eqT y x)=some j):∃hj:j<us.length,eU x us[j]=true/\∀m (hm:m<us.length),m<j->eU x us[m]=false:=by
 obtain⟨hj,h1,h2⟩:=Au.mp h;have hl:us.length=ts.length:=by have q:=cw List.length e;rw[aC,aC]at q;exact q
 have at_:∀(i:Nat) (h1:i<us.length) (h2:i<ts.length),eU x us[i]=eqT ts[i] x:=fun i h1 h2=>by
  have q:=cw (fun l:List Bool=>l[i]?) e;simp only[bg,bb h1,bb h2]at q;exact Option.some.inj q
 refine⟨by rw[hl];exact hj,by rw[at_ j _ hj];exact h1,fun m hm Vx=>?_⟩;rw[at_ m hm (by rw[<-hl];exact hm)];have q:=h2 m Vx;cases z:eqT ts[m] x with
 |false=>rfl
 |true=>exact absurd z q
theorem By{x:Tr}{k:Tr->Prop}(q:Fi X H (uF ts x) k):qe x=true/\ts.all ym=true/\∃j:Nat,ts.findIdx? (fun y=>eqT y x)=some j/\k (.int j):=by
 unfold uF at q;by_cases z:qe x=true/\ts.all ym=true
 ·rw[ag z]at q;cases e:ts.findIdx? (fun y=>eqT y x)with
  |none=>rw[e]at q;exact fe q
  |some j=>rw[e]at q;exact⟨z.1,z.2,j,rfl,q⟩
 ·rw[ak z]at q;exact fe q
theorem Jj{x:Tr}{k:Tr->Prop}(q:Fi X H (MA ts x) k):qe x=true/\ts.all ym=true/\k (.int (ts.countP fun y=>eqT y x:Nat)):=by
 unfold MA at q;by_cases z:qe x=true/\ts.all ym=true
 ·rw[ag z]at q;exact⟨z.1,z.2,q⟩
 ·rw[ak z]at q;exact fe q
theorem count_at{us:List Value}{x:Tr}(e:us.map (eU x)=ts.map fun y=>eqT y x):us.countP (eU x)=ts.countP fun y=>eqT y x:=by
 have a:us.countP (eU x)=(us.map (eU x)).countP id:=by rw[List.countP_map];rfl
 have b:(ts.countP fun y=>eqT y x)=(ts.map fun y=>eqT y x).countP id:=by rw[List.countP_map];rfl
 rw[a,b,e]
section
theorem Q2{W:Vw}{vs:List V}{v:V}{tx:Tr}{u:Value}{pQ:Addr->Option Nat}{Q:VK}(hu:X.A.units+1<cLine)(I:Inv X U Z H s)(h:gR X.K H a vs)(r:aV X.K (⟨H,pQ⟩:Vw) vs ts)(rx:Rep X.K (⟨H,pQ⟩:Vw) v tx)(ru:RelV v u){k:Tr->Prop}(q:Fi X H (uF ts tx) k)(hk:∀j:Nat,k (.int j)->Q (.int j) H):
  wpAny (model X.prog X.w) X.A (call (.builtin "tuple.index") [.ref a,u]) (EP X U Z Q) X.xe s:=by
 obtain⟨p1,p2,j,e,q⟩:=By q;obtain⟨bz,rv,pl,hz⟩:=I.tuple h
 ·obtain⟨hj,h1,h2⟩:=EV (EU r p2 rv) e;obtain⟨⟨cls,dd,data,sl⟩,ho,hc,n,hd⟩:=(show s.heap.IsTuple a bz.toArray from pl);simp only at hc hd;subst hc hd;refine jx u6 ⟨_,ho,rfl⟩ PySem.F.entry_tuple_index (PySem.F.args_tuple_index_2 _ _) (SeqAt.xy a bz.toArray n dd sl u (eU tx) j (by simpa using hj) (by simpa using h1) fun m hm Vx=>by simpa using h2 m (by simpa using hm) Vx) ⟨ho,fun y hy=>n5 I (A:=X.A.in1) hu rx p1 ru r p2 rv y (by simpa using hy),?_⟩;exact⟨.int j,H,I.tok _,⟨_,rfl⟩,hk j q⟩
theorem Q3{vs:List V}{v:V}{tx:Tr}{u:Value}{pQ:Addr->Option Nat}{Q:VK}(hu:X.A.units+1<cLine)(I:Inv X U Z H s)(h:jZ X.K H a vs)(r:aV X.K (⟨H,pQ⟩:Vw) vs ts)(rx:Rep X.K (⟨H,pQ⟩:Vw) v tx)(ru:RelV v u){k:Tr->Prop}(q:Fi X H (uF ts tx) k)(hk:∀j:Nat,k (.int j)->Q (.int j) H):
  wpAny (model X.prog X.w) X.A (call (.builtin "list.index") [.ref a,u]) (EP X U Z Q) X.xe s:=by
 obtain⟨p1,p2,j,e,q⟩:=By q;obtain⟨bz,rv,pl,hz⟩:=I.list h
 ·obtain⟨hj,h1,h2⟩:=EV (EU r p2 rv) e;have hs:(j:Int)<2 ^63 - 1:=by
   have:=rv.length;rw[cR]at hz;omega
  obtain⟨⟨cls,dd,data,sl⟩,n,ho,hc,Vy,hd⟩:=id pl;simp only at hc hd Vy;have Vz:=hd;subst hc;subst Vz;refine jx PySem.F.slot_list_index ⟨_,ho,rfl⟩ PySem.F.entry_list_index (PySem.F.args_list_index_2 _ _) (SeqAt.list_indexAt a bz.toArray n dd sl u (eU tx) j (by simpa using hj) hs (by simpa using h1) fun m hm Vx=>by simpa using h2 m (by simpa using hm) Vx) ⟨ho,fun y hy=>n5 I (A:=X.A.in1) hu rx p1 ru r p2 rv y (by simpa using hy),?_⟩;exact⟨.int j,H,I.tok _,⟨_,rfl⟩,hk j q⟩
theorem Q4{vs:List V}{v:V}{tx:Tr}{u:Value}{pQ:Addr->Option Nat}{Q:VK}(hu:X.A.units+1<cLine)(I:Inv X U Z H s)(h:jZ X.K H a vs)(r:aV X.K (⟨H,pQ⟩:Vw) vs ts)(rx:Rep X.K (⟨H,pQ⟩:Vw) v tx)(ru:RelV v u){k:Tr->Prop}(q:Fi X H (MA ts tx) k)(hk:∀j:Nat,k (.int j)->Q (.int j) H):
  wpAny (model X.prog X.w) X.A (call (.builtin "list.count") [.ref a,u]) (EP X U Z Q) X.xe s:=by
 obtain⟨p1,p2,q⟩:=Jj q;obtain⟨bz,rv,pl,hz⟩:=I.list h;rw[<-count_at (EU r p2 rv)]at q;obtain⟨⟨cls,dd,data,sl⟩,n,ho,hc,Vy,hd⟩:=id pl;simp only at hc hd Vy;have Vz:=hd;subst hc;subst Vz;refine jx PySem.F.slot_list_count ⟨_,ho,rfl⟩ PySem.F.entry_list_count (PySem.F.args_list_count_2 _ _) (SeqAt.list_countAt a bz.toArray n dd sl u (eU tx)) ⟨ho,fun y hy=>n5 I (A:=X.A.in1) hu rx p1 ru r p2 rv y (by simpa using hy),?_⟩;exact⟨.int (bz.countP (eU tx):Nat),H,I.tok _,⟨_,rfl⟩,hk _ q⟩
variable {es:List Expr}{nO bh:Pos}
def lmR(h:List Tr->Tr->Rs Tr)(r:Rs Tr)(a:Rs Tr):Rs Tr:=r.bind fun t=>match t with
 |.lst ts=>a.bind fun x=>h ts x
 |_=>.bad
inductive VA(X:Cx)(h:List Tr->Tr->Rs Tr)(x:V)(xs:List V)(H:Hp)(Q:VK):Prop
 |mk (B:dG) (ts:List Tr) (y:V) (ty:Tr):HB B H->Rep X.K (bq B H) x (.lst ts)->xs=[y]->Rep X.K (bq B H) y ty->(Fi X H (h ts ty) fun t=>∀v H',au H H'->Rep X.K (bq B H') v t->Q v H')->VA X h x xs H Q
theorem Q5(hu:X.A.units+1<cLine):Pf X "list.index" (VA X uF):=by
 intro U s Z H x xs v us Q I rx rv ⟨B,ts,y,ty,hb,r,e,ry,q⟩;subst e;obtain⟨u,rfl,ru⟩:=vals1 rv;cases r with
 |lst h rr=>
  cases rx;exact Q3 (pQ:=B.ix) hu I (.of (cZ h)) (rr.same dU) (ry.same dU) ru q fun j z=>z _ H (au.refl H) (.int _)
theorem Q6(hu:X.A.units+1<cLine):Pf X "list.count" (VA X MA):=by
 intro U s Z H x xs v us Q I rx rv ⟨B,ts,y,ty,hb,r,e,ry,q⟩;subst e;obtain⟨u,rfl,ru⟩:=vals1 rv;cases r with
 |lst h rr=>
  cases rx;exact Q4 (pQ:=B.ix) hu I (.of (cZ h)) (rr.same dU) (ry.same dU) ru q fun j z=>z _ H (au.refl H) (.int _)
theorem Zu{name:Str}{id:String}{h:List Tr->Tr->Rs Tr}(slot:Slot "list" name id)(Lx:typeOf (.builtin id)=pure (.type "method_descriptor"))(hm:Pf X id (VA X h))(ho:PE X o (tP X F))(he:PE X e (tP X G))(pa:PlainAttrs "list":=by exact qL)
  (nR:isCall o=false:=by rfl) (bH:aH [e]=true:=by rfl) (eL:(b6.endLine==bh.line)=true:=by rfl):
  PE X (.Call (.Attribute o name b6) [e] [] bh) (tP X fun Y=>lmR h (F Y) (G Y)):=
 (Ed pa slot Lx hm ho (zf he Eo (az bH).1) (e_ nR) (by rw[ir bH];rfl) eL (aS _ _ (az bH).1) (bZ (az bH).2)).weak fun Z H Q ⟨B,Y,hb,r,q⟩=>⟨B,Y,hb,r,q.bind.mono fun t qt v H1 s1 r1=>by
  split at qt
  ·rename_i ts;obtain⟨a,vs,rfl,hl,rr⟩:=r1.lst_inv;refine⟨.inl ⟨rfl,vs,.of (cZ hl)⟩,B,Y,hb.same s1,r.same s1,?_⟩;have q2:=(Fi.bind qt).same s1;refine Fi.mono (r:=bt (G Y) (.ok [])) (k:=fun zs=>∃x,zs=[x]/\Fi X H (h ts x) fun t=>∀v H',au H H'->Rep X.K (bq B H') v t->Q v H') ?_ fun zs ⟨x,ez,qx⟩ ws H2 s2 r2=>?_
   ·cases eg:G Y with
    |ok x=>rw[eg]at q2;exact⟨x,rfl,q2⟩
    |_=>rw[eg]at q2;exact q2
   ·subst ez;obtain⟨y,rfl,ry⟩:=eM r2;exact⟨B,ts,_,x,hb.same (s1.trans s2),.lst ((aR s2).h _ _ hl) (rr.same (aR s2)),rfl,ry,(qx.same (s1.trans s2)).mono fun t k v H3 s3 r3=>k v H3 ((s1.trans s2).trans s3) r3⟩
  ·exact qt.elim⟩
end
structure Jk(K:Frag)(mg:Str->Option Value)(x:Str)(ts:List Tr):Prop where
 g:Ui K mg x (.tup ts)
 nd:∃a o,mg x=some (.ref a)/\K.lookup a=some o/\o.cls=.type "tuple"/\o.dict=none
section
variable {es:List Expr}{nO bh:Pos}
inductive Zv(X:Cx)(x:V)(xs:List V)(H:Hp)(Q:VK):Prop
 |mk (B:dG) (ts:List Tr) (y:V) (ty:Tr):HB B H->Rep X.K (bq B H) x (.tup ts)->xs=[y]->Rep X.K (bq B H) y ty->(Fi X H (uF ts ty) fun t=>∀v H',au H H'->Rep X.K (bq B H') v t->Q v H')->Zv X x xs H Q
theorem Jl(hu:X.A.units+1<cLine):Pf X "tuple.index" (Zv X):=by
 intro U s Z H x xs v us Q I rx rv ⟨B,ts,y,ty,hb,r,e,ry,q⟩;subst e;obtain⟨u,rfl,ru⟩:=vals1 rv;cases r with
 |tup h rr=>
  cases rx;exact Q2 (W:=bq B H) (pQ:=B.ix) hu I (au.tup aT h) (rr.same dU) (ry.same dU) ru q fun j z=>z _ H (au.refl H) (.int _)
theorem VB{B:dG}{Y:aQ}{H1:Hp}{k:Tr->Prop}(s1:au H H1)(q:Fi X H (G Y) k):Fi X H1 (bt (G Y) (.ok [])) fun zs=>∃x,zs=[x]/\k x:=by
 have q2:=Fi.same q s1;cases eg:G Y with
 |ok x=>rw[eg]at q2;exact⟨x,rfl,q2⟩
 |_=>rw[eg]at q2;exact q2
theorem VC(hu:X.A.units+1<cLine)(g:Jk X.K X.mg x ts)(he:PE X e (tP X G))(hg:Gl X x:=by rfl) (hd:Db x:=by decide) (bH:aH [e]=true:=by rfl) (eL:(b6.endLine==bh.line)=true:=by rfl):
  PE X (.Call (.Attribute (.Name x p) "index" b6) [e] [] bh) (tP X fun Y=>(G Y).bind (uF ts)):=by
 obtain⟨⟨v,u,hm,r,q0⟩,a,ob,hm2,hk,hc,hn⟩:=g;rw[hm]at hm2;cases hm2;obtain⟨a',_,rfl,_⟩:=(q0 ⟨fun _=>none,fun _=>none⟩).cY;cases r;refine(Ed PySem.F.plainAttrs_tuple u6 PySem.F.type_tuple_index (Jl hu) (y4 (v:=.ref a) hg hm rfl hd) (zf he Eo (az bH).1) (e_ rfl) (by rw[ir bH];rfl) eL (aS _ _ (az bH).1) (bZ (az bH).2)).weak fun Z H Q ⟨B,Y,hb,r,q⟩=>?_
 refine⟨.inr (.inl ⟨rfl,ob,hk,hc,hn⟩),B,Y,hb,r,(VB (B:=B) (au.refl H) (Fi.bind q)).mono fun zs ⟨x,ez,qx⟩ ws H2 s2 r2=>?_⟩;subst ez;obtain⟨y,rfl,ry⟩:=eM r2;exact⟨B,ts,_,x,hb.same s2,q0 _,rfl,ry,(Fi.same qx s2).mono fun t k v H3 s3 r3=>k v H3 (s2.trans s3) r3⟩
theorem VD{x1}(hu:X.A.units+1<cLine)(ht:PA X es (AW X L))(he:PE X e (tP X G))(bH:aH [e]=true:=by rfl) (eL:(b6.endLine==bh.line)=true:=by rfl):
  PE X (.Call (.Attribute (.Tuple es x1 nO) "index" b6) [e] [] bh) (tP X fun Y=>(L Y).bind fun ts=>if ts.length<=d7 then(G Y).bind (uF ts)else .bad):=by
 intro U s Z H Q I ⟨B,Y,hb,r,q⟩;refine wpAny_Call_method_late (e_ rfl) (by rw[ir bH];rfl) eL rfl (wpAny_Tuple_spliced (dc (ht nO U s Z H _ I ⟨B,Y,hb,r,q.bind.mono fun ts qt vs H1 s1 r1=>(⟨ts,qt,s1,r1⟩:∃ts,Fi X H (if ts.length<=d7 then(G Y).bind (uF ts)else .bad) _/\au H H1/\aV X.K (bq B H1) vs ts)⟩) fun us s1 ⟨xs,H1,I1,rv,ts,qt,sm,r1⟩=>?_));by_cases hz:ts.length<=d7
 ·rw[ag hz]at qt;have Xz:us.length<=sizeLine:=by rw[<-rv.length,r1.length,<-iI];exact hz
  refine⟨Xz,?_⟩;have hf:H1 s1.heap.objs.size=none:=I1.cj.fresh (aN _);have ho:=bE s1.heap (o:={cls:=.type "tuple",data:=.seq us.toArray}) rfl;have I2:Inv X U Z (upd H1 s1.heap.objs.size (.tup xs)) {s1 with heap:=s1.heap.push {cls:=.type "tuple",data:=.seq us.toArray}}:=I1.laid (t':=s1.toks) (fun b u e=>aX _ e) (aN _) ⟨by rw[rv.length];exact Xz,us,rv,⟨_,ho,rfl,_,rfl⟩⟩;have s2:au H (upd H1 s1.heap.objs.size (.tup xs)):=sm.trans (au.upd hf);have rt:Rep X.K (bq B (upd H1 s1.heap.objs.size (.tup xs))) (.ref s1.heap.objs.size) (.tup ts):=.tup (.inl (.inl ((hb.same sm).new hf))) (r1.same (aR (au.upd hf)));refine⟨"tuple","tuple.index",PySem.F.plainAttrs_tuple,u6,PySem.F.type_tuple_index,⟨_,ho,rfl⟩,fun a ea=>by cases ea;exact⟨_,ho,rfl⟩,?_⟩;have hA:=(zf he Eo (az bH).1) bh U _ Z _ (fun vs H3=>Zv X (.ref s1.heap.objs.size) vs H3 Q) I2 ⟨B,Y,hb.same s2,r.same s2,(VB (B:=B) s2 (Fi.bind qt)).mono fun zs ⟨x,ez,qx⟩ ws H3 s3 r3=>by
   subst ez;obtain⟨y,rfl,ry⟩:=eM r3;exact⟨B,ts,_,x,hb.same (s2.trans s3),rt.same (aR s3),rfl,ry,(Fi.same qx (s2.trans s3)).mono fun t k v H4 s4 r4=>k v H4 ((s2.trans s3).trans s4) r4⟩⟩
  rw[aS _ _ (az bH).1]at hA⊢;refine lV (by show(false||(backTo bh (starEach [] X.env)).any (·.1))=false;rw[bZ (es:=[]) rfl];rfl) (lY ?_);exact dc hA fun us s4 ⟨vs,H4,I4,r4,q4⟩=>Jl hu U s4 Z H4 (.ref s1.heap.objs.size) vs _ us Q I4 rfl r4 q4
 ·rw[ak hz]at qt;exact fe qt
def VE:List Tr->Rs Tr
 |[.int i]=>.ok (.int i)
 |[.bl b]=>.ok (.int (if b then 1 else 0))
 |_=>.bad
theorem VF:j9 X (.type "int") VE:=by
 intro U s Z H xs us Q I rv ⟨B,ts,hb,r,q⟩;unfold VE at q;split at q
 ·obtain⟨x,e,r⟩:=eM r;exact x8 U s Z H _ us Q I rv (.inl ⟨_,by rw[e,r.int_inv],q _ H (au.refl H) (.int _)⟩)
 ·obtain⟨x,e,r⟩:=eM r;exact x8 U s Z H _ us Q I rv (.inr ⟨_,by rw[e,r.vY],q _ H (au.refl H) (.int _)⟩)
 ·exact q.elim
variable {c m:Str}{st:Stmt}{f:Addr}{fd:FuncData}{k:Nat}
end
structure MethAt(K:Frag)(c m:Str)(st:Stmt)(ps:List Str)(f:Addr)(fd:FuncData):Prop where
 fn:∃qual,xw K m qual st f fd
 bd:Binds K fd ps []
 mt:Meth K (clsAt K c) m f
 cl:CH K (clsAt K c)
def Cu(fs:List (Str×Tr))(m:Str):Bool:=(fs.lookup m).isNone
theorem mj{W:Vw}(f:Str):∀{fW:List (Str×V)} {fs:List (Str×Tr)},fW.map (·.1)=fs.map (·.1)->aV K W (fW.map (·.2)) (fs.map (·.2))->(fs.lookup f=none/\fW.lookup f=none)\/∃t v,fs.lookup f=some t/\fW.lookup f=some v/\Rep K W v t
 |[],[],_,_=>.inl ⟨rfl,rfl⟩
 |[],_::_,e,_=>by cases e
 |_::_,[],e,_=>by cases e
 |(k1,v1)::fW,(k2,t2)::fs,e,r=>by
  rw[aO,aO]at e;injection e with e1 e2
  have L8:k1=k2:=e1;subst L8;cases r with
  |cons hh r=>
   by_cases z:f=k1
   ·subst z;exact .inr ⟨t2,v1,by rw[bS,bA],by rw[bS,bA],hh⟩
   ·rw[bS,iW z,bS,iW z];exact mj f e2 r
section
variable {es:List Expr}{nO bh:Pos}{c m:Str}{st:Stmt}{f:Addr}{fd:FuncData}{k:Nat}
def gL(c m:Str)(h:List Tr->Rs Tr)(r:Rs Tr)(l:Rs (List Tr)):Rs Tr:=r.bind fun t=>match t with
 |.ob x fs=>if x=c/\Cu fs m=true then l.bind fun ts=>h (.ob x fs::ts)else .bad
 |_=>.bad
theorem zD{W:Vw}{fW:List (Str×V)}{fs:List (Str×Tr)}(e:fW.map (·.1)=fs.map (·.1))(r:aV K W (fW.map (·.2)) (fs.map (·.2)))(hm:Cu fs m=true):fW.lookup m=none:=by
 rcases mj m e r with⟨_,z⟩|⟨t,v,z,_⟩
 ·exact z
 ·unfold Cu at hm;rw[z]at hm;cases hm
theorem Q7(D:MethAt X.K c m st ps f fd)(G:c_ X.prog X.w X.K X.mg X.base kN k f fd ps (spT X.K h))(hr:cp k X.A)(ho:PE X o (tP X F))(ha:PA X (e::es) (AW X L)){pl:Sem Bool}(bH:aH (e::es)=true:=by rfl)
  (ht:eval (.Call (.Attribute o m b6) (e::es) [] pos) X.env=rH pos b6 o m (e::es) X.env pl:=by rfl):PE X (.Call (.Attribute o m b6) (e::es) [] pos) (tP X fun Y=>gL c m h (F Y) (L Y)):=
 (Ea (pl:=pl) ho D.cl D.mt G hr D.bd .nil Ih ha (bH:=aS _ _ (az bH).1) (mL:=bZ (az bH).2) ht).weak fun Z H Q ⟨B,Y,hb,r,q⟩=>⟨B,Y,hb,r,q.bind.mono fun t qt v H1 s1 rv=>by
  split at qt
  ·rename_i x fs;obtain⟨a,dx,fW,rfl,hh,ek,rr⟩:=rv.ze;split at qt
   ·rename_i z;obtain⟨rfl,hm⟩:=z;refine⟨a,dx,fW,rfl,cZ hh,zD ek rr hm,B,Y,hb.same s1,r.same s1,(Fi.same (Fi.bind qt) s1).mono fun ts qs vs H2 s2 r2=>?_⟩;cases e:h (.ob x fs::ts)with
    |ok t=>
     rw[e]at qs;exact⟨B,.ob x fs::ts,hb.same (s1.trans s2),by
      show aV X.K (bq B H2) (V.ref a::(vs++[])) (.ob x fs::ts);rw[iU];exact .cons ((Rep.ob hh ek rr).same (aR s2)) r2,t,e,fun v H3 s3 r3=>qs v H3 ((s1.trans s2).trans s3) r3⟩
    |exc c=>rw[e]at qs;exact(qs _ (au.refl _)).elim
    |bad=>rw[e]at qs;exact fe qs
   ·exact qt.elim
  ·exact qt.elim⟩
theorem MB(D:MethAt X.K c m st ps f fd)(G:c_ X.prog X.w X.K X.mg X.base kN k f fd ps (spT X.K h))(hr:cp k X.A)(ho:PE X o (tP X F)){pl:Sem Bool}
  (ht:eval (.Call (.Attribute o m b6) [] [] pos) X.env=rH pos b6 o m [] X.env pl:=by rfl):PE X (.Call (.Attribute o m b6) [] [] pos) (tP X fun Y=>gL c m h (F Y) (.ok [])):=
 (AH (pl:=pl) ho D.cl D.mt G hr D.bd .nil Ih ht).weak fun Z H Q ⟨B,Y,hb,r,q⟩=>⟨B,Y,hb,r,q.bind.mono fun t qt v H1 s1 rv=>by
  split at qt
  ·rename_i x fs;obtain⟨a,dx,fW,rfl,hh,ek,rr⟩:=rv.ze;split at qt
   ·rename_i z;have q1:Fi X H (h [.ob x fs]) _:=qt;obtain⟨rfl,hm⟩:=z;refine⟨a,dx,fW,rfl,cZ hh,zD ek rr hm,?_⟩;cases e:h [.ob x fs]with
    |ok t=>
     rw[e]at q1;exact⟨B,[.ob x fs],hb.same s1,.cons (.ob hh ek rr) .nil,t,e,fun v H3 s3 r3=>q1 v H3 (s1.trans s3) r3⟩
    |exc c=>rw[e]at q1;exact(q1 _ (au.refl _)).elim
    |bad=>rw[e]at q1;exact fe q1
   ·exact qt.elim
  ·exact qt.elim⟩
end
def Zw(K:Frag)(B:dG)(H:Hp)(E:XK):Tr->Ab->Prop:=fun c A=>∀B' H',Grows B H B' H'->HA K B' A H'->E (UU K c) none H'
inductive um(K:Frag)(f:List Tr->Ab->Rz Tr)(vs:List V)(H:Hp)(Q:VK)(E:XK):Prop
 |mk (B:dG) (A:Ab) (ts:List Tr):HA K B A H->aV K (bq B H) vs ts->(gg (Zw K B H E) (f ts A) fun t A'=>∀v B' H',Grows B H B' H'->HA K B' A' H'->Rep K (bq B' H') v t->Q v H')->um K f vs H Q E
theorem c_.Zx {base:Heap}{k:Nat}{f:Addr}{fd:FuncData}(F:c_ P w K mg base kN k f fd ps (spT K h)):c_ P w K mg base (tw P w) k f fd ps (um K fun ts A=>fy (h ts) A):=by
 have key:∀{vs:List V} {H:Hp} {Q:VK} {E:XK},um K (fun ts A=>fy (h ts) A) vs H Q E->∀E',spT K h vs H Q E':=fun{vs H Q E} ⟨B,A,ts,ha,r,q⟩ E'=>by
  have q:gg (Zw K B H E) (fy (h ts) A) _:=q;cases e:h ts with
  |ok t=>rw[e]at q;exact⟨B,ts,ha.hb,r,t,e,fun v H' s rv=>q v B H' (.of s) (ha.same s) rv⟩
  |_=>rw[e]at q;exact fe q
 refine⟨fun vs H Q E q=>F.len vs H Q E (key q E),fun A outer s H args us vs Q E hr e0 hb hv q=>?_⟩;refine gq (F.run A outer s H args us vs Q E hr e0 hb hv (key q E)) fun r s' z=>?_
 cases r with
 |error e=>exact fe z
 |ok fl=>
  cases fl with
  |_=>exact z
def cx(r:Rz Out):Rz Tr:=r.bind fun o A=>match o with
 |.nx _=>.ok .bK A
 |.ret t=>.ok t A
 |_=>.bad
theorem xw.okS {base:Heap}{qual:Str}{st:Stmt}{f:Addr}{fd:FuncData}{N:List Str}{k:Nat}{h:List Tr->Ab->Rz Tr}(Fn:xw K x qual st f fd)(S:fL N ps (aP st))(len:∀ts A,h ts A≠ .bad->ts.length=ps.length)
  (jz:∀(eI:Value) (A:Around) (outer:List Env) (s:Shared) (H:Hp) (E:XK),cp k (A.deeper (envOfC qual (aP st) s.heap.objs.size f eI))->
   ∃G,m6 (mX (tw P w) P w K mg base N qual (aP st) f eI A outer s H E) (eB st) (tZ (mX (tw P w) P w K mg base N qual (aP st) f eI A outer s H E) G)/\∀ts A,h ts A≠ .bad->h ts A=cx (G (startT N.length ts) A)):c_ P w K mg base (tw P w) (k+1) f fd ps (um K h):=by
 obtain⟨oc,od,kV,doc,pm,an,eI,ct,HU,rfl,lk,Cy⟩:=Fn.ex;have nb:∀{B:dG} {A:Ab} {H:Hp} {E:XK} {ts:List Tr} {k:Tr->Ab->Prop},gg (Zw K B H E) (h ts A) k->h ts A≠ .bad:=fun{B A H E ts k} q z=>by rw[z]at q;exact q
 refine NV lk Cy S (fun vs H Q E ⟨B,A,ts,ha,r,q⟩=>by rw[r.length];exact len ts A (nb q)) fun A outer s H vs Q E hr ⟨B,A1,ts,ha,r,q⟩=>?_
 obtain⟨G,hG,hE⟩:=jz eI A outer s H E hr;refine⟨_,hG,B,H,B,A1,startT N.length ts,ha.hb,.refl,ha,bL.start r,wd,?_⟩;rw[hE ts A1 (nb q)]at q;refine(gg.bind q).imp (fun c A2 z B' H' g kr e s x=>II x (z B' H' g kr))|>.mono fun o A2 z=>?_
 cases o with
 |nx Y=>exact fun cI B' H' g kr r' n'=>z .bK B' H' g kr .bK
 |ret t=>exact fun v B' H' g kr r'=>z v B' H' g kr r'
 |_=>exact fe z
def fq(n m:Nat)(G:aQ->Ab->Rz Out)(ts:List Tr)(A:Ab):Rz Tr:=if ts.length=n then cx (G (startT m ts) A)else .bad
theorem Bz{n m:Nat}{G:aQ->Ab->Rz Out}{A:Ab}(h:fq n m G ts A≠ .bad):ts.length=n:=by
 unfold fq at h;by_cases z:ts.length=n
 ·exact z
 ·rw[ak z]at h;exact absurd rfl h
theorem MC{n m:Nat}{G:aQ->Ab->Rz Out}{A:Ab}(h:fq n m G ts A≠ .bad):fq n m G ts A=cx (G (startT m ts) A):=by
 unfold fq;rw[ag (Bz h)]
section
variable {es:List Expr}{F:aQ->Ab->Rz Tr}{L:aQ->Ab->Rz (List Tr)}{h:List Tr->Ab->Rz Tr}{st:Stmt}{f:Addr}{fd:FuncData}{k:Nat}
theorem Ds{B1:dG}{H1:Hp}{A1:Ab}{vs:List V}{Q:VK}(hb:HB B H)(g:Grows B H B1 H1)(ha:HA X.K B1 A1 H1)(r:aV X.K (bq B1 H1) vs ts)(q:gg (XE X B H) (h ts A1) fun t A'=>∀v B' H',Grows B H B' H'->HA X.K B' A' H'->Rep X.K (bq B' H') v t->Q v H'):um X.K h vs H1 Q (EX X):=
 ⟨B1,A1,ts,ha,r,(q.imp fun c A' z=>z.grow hb g).mono fun t A' z v B' H' g' kr rv=>z v B' H' (g.trans hb g') kr rv⟩
theorem VG(D:ye X.K X.mg x st ps f fd)(G:c_ X.prog X.w X.K X.mg X.base (tw X.prog X.w) k f fd ps (um X.K h))(hr:cp k X.A)(ha:PA X (e::es) (K5 X L))(hx:X.ex=[]:=by rfl) (hg:Gl X x:=by rfl) (dZ:Db x:=by decide) (bH:aH (e::es)=true:=by rfl):
  PE X (.Call (.Name x p) (e::es) [] pos) (tE X fun Y A=>(L Y A).bind h):=
 (D_ (p:=p) (pos:=pos) G hr hg D.mg D.fn.kp D.bd .nil (lG hx) ha (dZ:=dZ) (he:=aS _ _ (az bH).1) (mL:=bZ (az bH).2)).weak fun Z H Q ⟨B,A,Y,ha,r,n,q⟩=>⟨B,A,Y,ha,r,n,q.bind.mono fun ts A1 qt vs B1 H1 g1 lT r1=>by
  show um X.K h (vs++[]) H1 Q (EX X);rw[iU];exact Ds ha.hb g1 lT r1 qt⟩
variable {c m:Str}
def mQ(c m:Str)(h:List Tr->Ab->Rz Tr)(r:Rz Tr)(l:Ab->Rz (List Tr)):Rz Tr:=r.bind fun t A=>match t with
 |.at i=>match A[i]? with
  |some (.ins x fs)=>if x=c/\Cu fs m=true then(l A).bind fun ts A=>h (.at i::ts) A else .bad
  |_=>.bad
 |_=>.bad
theorem EW{A:Ab}{fs:List (Str×Tr)}(ha:HA K B A H)(pM:B.ix a=some i)(e:A[i]?=some (.ins x fs))(hm:Cu fs m=true):∃dx fW,H a=some (.ins (clsAt K x) dx fW)/\fW.lookup m=none:=by
 obtain⟨_,dx,fW,h1,_,_,h4,h5⟩:=ha.get pM e;refine⟨dx,fW,h1,?_⟩;rcases mj m h4 h5 with⟨_,z⟩|⟨t,v,z,_⟩
 ·exact z
 ·unfold Cu at hm;rw[z]at hm;cases hm
theorem Q8(D:MethAt X.K c m st ps f fd)(G:c_ X.prog X.w X.K X.mg X.base (tw X.prog X.w) k f fd ps (um X.K h))(hr:cp k X.A)(ho:PE X o (tE X F))(ha:PA X (e::es) (K5 X L)){pl:Sem Bool}(hx:X.ex=[]:=by rfl) (bH:aH (e::es)=true:=by rfl)
  (ht:eval (.Call (.Attribute o m b6) (e::es) [] pos) X.env=rH pos b6 o m (e::es) X.env pl:=by rfl):PE X (.Call (.Attribute o m b6) (e::es) [] pos) (tE X fun Y A=>mQ c m h (F Y A) (L Y)):=
 (Ea (pl:=pl) ho D.cl D.mt G hr D.bd .nil (lG hx) ha (bH:=aS _ _ (az bH).1) (mL:=bZ (az bH).2) ht).weak fun Z H Q ⟨B,A,Y,ha,r,n,q⟩=>⟨B,A,Y,ha,r,n,q.bind.mono fun t A1 qt v B1 H1 g1 lT rv=>by
  split at qt
  ·obtain⟨a,rfl,pM⟩:=rv.me;split at qt
   ·rename_i eo;obtain⟨⟨rfl,hm⟩,q2⟩:=fZ qt;obtain⟨dx,fW,k1,k2⟩:=EW lT pM eo hm;refine⟨a,dx,fW,rfl,k1,k2,B1,A1,Y,lT,r.grow n g1,n,((gg.bind q2).imp fun c A' z=>z.grow ha.hb g1).mono fun ts A2 qs vs B2 H2 g2 oh rs=>?_⟩;show um X.K h (.ref a::(vs++[])) H2 Q (EX X);rw[iU];exact Ds ha.hb (g1.trans ha.hb g2) oh (.cons (.at (g2.jk.x _ _ pM)) rs) qs
   ·exact qt.elim
  ·exact qt.elim⟩
theorem MD(D:MethAt X.K c m st ps f fd)(G:c_ X.prog X.w X.K X.mg X.base (tw X.prog X.w) k f fd ps (um X.K h))(hr:cp k X.A)(ho:PE X o (tE X F)){pl:Sem Bool}(hx:X.ex=[]:=by rfl)
  (ht:eval (.Call (.Attribute o m b6) [] [] pos) X.env=rH pos b6 o m [] X.env pl:=by rfl):PE X (.Call (.Attribute o m b6) [] [] pos) (tE X fun Y A=>mQ c m h (F Y A) fun A=>.ok [] A):=
 (AH (pl:=pl) ho D.cl D.mt G hr D.bd .nil (lG hx) ht).weak fun Z H Q ⟨B,A,Y,ha,r,n,q⟩=>⟨B,A,Y,ha,r,n,q.bind.mono fun t A1 qt v B1 H1 g1 lT rv=>by
  split at qt
  ·obtain⟨a,rfl,pM⟩:=rv.me;split at qt
   ·rename_i eo;obtain⟨⟨rfl,hm⟩,q2⟩:=fZ qt;obtain⟨dx,fW,k1,k2⟩:=EW lT pM eo hm;refine⟨a,dx,fW,rfl,k1,k2,?_⟩;show um X.K h [.ref a] H1 Q (EX X);exact Ds ha.hb g1 lT (.cons (.at pM) .nil) q2
   ·exact qt.elim
  ·exact qt.elim⟩
end
abbrev bmV:List Value:=[.type "ValueError",.type "Exception",.type "BaseException",.type "object"]
structure sx(K:Frag)(mg:Str->Option Value)(x:Str):Prop where
 mg:mg x=some (.ref (clsAt K x))
 ex:PySem.W.excIn K (clsAt K x) bmV "ValueError.__new__"=true
theorem ME{h:Heap}{C:Addr}{bmB:List Value}{newId:String}(X:K.In h)(q:PySem.W.excIn K C bmB newId=true):
  ∃bm N nm qn bs hd sn sub ab col dd k0 k1 k2 k3 k5 mN,h.get? C=some (excClassObj nm qn C N bs bm hd sn sub ab col dd k0 k1 k2 k3 k5 newId)/\h.Ns N mN/\mN "__init__"=none/\OwnTail h bmB bm:=by
 unfold PySem.W.excIn at q;split at q
 ·rename_i d0 cd sl ho;split at q
  ·rename_i C2 bm j0 j1 j2 j3 n j5 hm hs;simp only[bf,dR,Bool.not_eq_true']at q;obtain⟨⟨⟨⟨⟨e1,e2⟩,e3⟩,e4⟩,e5⟩,e6⟩:=q;subst e1 e2;obtain⟨nm,bs,mro,ns,qn,hd,sn,sub,ab,col,del⟩:=cd;have Zy:mro=_:=hm;have K2:del=false:=e3;have e5':PySem.W.nsOkIn K ns=true:=e5;have e6':PySem.W.nsIn K ns "__init__"=some none:=e6;subst Zy K2;obtain⟨l⟩:=sl;have Zz:l=_:=hs;subst Zz;exact⟨bm,ns,nm,qn,bs,hd,sn,sub,ab,col,d0,j0,j1,j2,j3,j5,_,X _ _ ho,.of_isNs (PySem.W.isNs_of_in X e5'),PySem.W.nsMap_none_of_in X e5' e6',PySem.W.tail_of_in X e4⟩
  ·cases q
 ·cases q
section
variable {np bh:Pos}{es:List Expr}{L:aQ->Ab->Rz (List Tr)}
def Dt(x:Str)(l:Rz (List Tr)):Rz Out:=l.bind fun ts A=>if ts.length<=d7 then .exc (.str x) A else .bad
theorem MF(D:sx X.K X.mg x)(ha:PA X (e::es) (K5 X L))(hx:X.ex=[]:=by rfl) (hc:X.calm=true:=by rfl) (hg:Gl X x:=by rfl) (dZ:Db x:=by decide) (bH:aH (e::es)=true:=by rfl):
  PS X (.Raise (some (.Call (.Name x np) (e::es) [] bh)) none pos) (tZ X fun Y A=>Dt x (L Y A)):=by
 intro U s Z H D' I ⟨B0,H0,B,A,Y,hb,g,hA,r,n,q⟩;obtain⟨bm,N,nm,qn,bs,hd,sn,sub,ab,col,dd,k0,k1,k2,k3,k5,mN,hC,hN,hni,T⟩:=ME (h:=X.base) I.ok.mod.NL D.ex;have VH:starEach (e::es) X.env=(false,eval e X.env)::starEach es X.env:=aS _ _ (az bH).1;have mL:(backTo bh (starEach es X.env)).any (·.1)=false:=bZ (az bH).2;refine wpAny_Raise_call_subU (C:=clsAt X.K x) (nm:=nm) (q:=qn) (N:=N) (bs:=bs) (bm:=bm) (hdct:=hd) (sn:=sn) (sub:=sub) (ab:=ab) (col:=col) (dd:=dd) (k0:=k0) (k1:=k1) (k2:=k2) (k3:=k3) (k5:=k5)
  Ax (by decide+kernel) Ax (mN:=mN) (T.hasType (by decide+kernel)) (I.ok.hd hc) (by rw[VH];show(false||(backTo bh (starEach es X.env)).any (·.1))=false;rw[mL];rfl) hni
  (oY I hg D.mg ⟨rfl,?_⟩ dZ)
 have hA2:=ha bh U s Z H (fun vs H2=>vs.length<=sizeLine/\EX X (.ref (clsAt X.K x)) none H2) I ⟨B,A,Y,hA,r,n,((gg.bind q).imp fun c A' z=>z.grow hb g).mono fun ts A2 qt vs B2 H2 g2 oh rs=>by
  obtain⟨hl,q2⟩:=fZ qt;exact⟨by rw[rs.length,<-iI];exact hl,(show XE X B0 H0 (.str x) A2 from q2) B2 H2 (g.trans hb g2) oh⟩⟩
 rw[VH]at hA2⊢;refine lY (dc hA2 fun us s2 ⟨vs,H2,I2,rv,hl,hE⟩=>⟨rfl,by rw[<-rv.length];exact hl,I2.bk _ _ hC,hN.keeps I2.bk,T.keeps I2.bk,fun h' a hm=>hE _ _ ?_⟩);obtain⟨t,e1,e2,e3⟩:=hm.there;refine⟨a,U,Z,s2.heap,rfl,I2.kept (t':=s2.toks) hm.keeps,⟨⟨_,_,_,e1,rfl,rfl,rfl,.inl rfl⟩,?_,hm.new⟩,fun b n=>I2.Bd hx n,fun p hp=>⟨_,(I2.pin p (iT _ hp)).1⟩,fun b nb=>by
  cases z:s2.heap.get? b with
  |none=>rfl
  |some o=>rw[hm.keeps b o z]at nb;cases nb⟩
 cases z:H2 a with
 |none=>rfl
 |some o=>
  obtain⟨u,e4⟩:=(I2.cj a o z).get;rw[hm.new]at e4;cases e4
end
theorem GD{i:Expr}{n:Nat}{env:Env}:swapsWith e (some (.Subscript o i p)) n env=pure false:=by cases e<;>rfl
theorem GF{f:Str}{n:Nat}{env:Env}:swapsWith e (some (.Attribute o f p)) n env=pure false:=by cases e<;>rfl
def yF(f:Str)(t:Tr):List (Str×Tr)->List (Str×Tr)
 |[]=>[(f,t)]
 |(g,x)::r=>if g=f then(g,t)::r else(g,x)::yF f t r
theorem BA{W:Vw}{f:Str}{v:V}{t:Tr}(rv:Rep K W v t):∀{fW:List (Str×V)} {fs:List (Str×Tr)},fW.map (·.1)=fs.map (·.1)->aV K W (fW.map (·.2)) (fs.map (·.2))->(lu f v fW).map (·.1)=(yF f t fs).map (·.1)/\aV K W ((lu f v fW).map (·.2)) ((yF f t fs).map (·.2))
 |[],[],_,_=>⟨rfl,.cons rv .nil⟩
 |[],_::_,e,_=>by cases e
 |_::_,[],e,_=>by cases e
 |(k1,v1)::fW,(k2,t2)::fs,e,r=>by
  rw[aO,aO]at e;injection e with e1 e2
  have L8:k1=k2:=e1;subst L8;cases r with
  |cons hh r=>
   unfold lu yF;by_cases z:k1=f
   ·rw[ag z,ag z];exact⟨by rw[aO,aO,e2],.cons rv r⟩
   ·rw[ak z,ak z];obtain⟨p1,p2⟩:=BA rv e2 r;exact⟨by rw[aO,aO,p1],.cons hh p2⟩
theorem lookup_some{W:Vw}{f:Str}{fW:List (Str×V)}{fs:List (Str×Tr)}{t:Tr}(h:fW.map (·.1)=fs.map (·.1))(r:aV K W (fW.map (·.2)) (fs.map (·.2)))(e:fs.lookup f=some t):∃v,fW.lookup f=some v/\Rep K W v t:=by
 rcases mj f h r with⟨z,_⟩|⟨t',v,z,ev,rv⟩
 ·cases e.symm.trans z
 ·cases e.symm.trans z;exact⟨v,ev,rv⟩
structure gM(K:Frag)(xs:List Str)(f:Str):Prop where
 all:∀x∈xs,CH K (clsAt K x)/\p7 K (clsAt K x) f
section
variable {value:Expr}{f:Str}{pos':Pos}{xs:List Str}{E G:aQ->Ab->Rz Tr}
def iO(xs:List Str)(f:Str):Tr->Rs Tr
 |.ob x fs=>if xs.contains x=true then mM (fs.lookup f)else .bad
 |_=>.bad
theorem Q9(T:gM X.K xs f)(he:PE X e (tP X F))(hb:attributeBase e f X.env (eval e X.env)=eval e X.env:=by first|exact e_ rfl|rfl):PE X (.Attribute e f pos) (tP X fun Y=>(F Y).bind (iO xs f)):=
 (HQ he hb).weak fun Z H Q ⟨B,Y,hb,r,q⟩=>⟨B,Y,hb,r,q.bind.mono fun t qt v H1 s1 rv=>by
  unfold iO at qt;split at qt
  ·obtain⟨a,dx,fW,rfl,h,ek,rr⟩:=rv.ze;split at qt
   ·rename_i hx;obtain⟨t,et,k⟩:=fc qt;have c:=T.all _ (eV.mp hx);obtain⟨v,ev,rv⟩:=lookup_some ek rr et;exact⟨a,_,dx,fW,v,rfl,cZ h,c.1,c.2,ev,k v H1 s1 rv⟩
   ·exact qt.elim
  ·exact qt.elim⟩
def sy(xs:List Str)(f:Str)(r:Rz Tr):Rz Tr:=r.bind fun t A=>match t with
 |.at i=>match A[i]? with
  |some (.ins x fs)=>if xs.contains x=true then fy (mM (fs.lookup f)) A else .bad
  |_=>.bad
 |_=>.bad
theorem Q_(T:gM X.K xs f)(he:PE X e (tE X G))(hb:attributeBase e f X.env (eval e X.env)=eval e X.env:=by first|exact e_ rfl|rfl):PE X (.Attribute e f pos) (tE X fun Y A=>sy xs f (G Y A)):=
 (HQ he hb).weak fun Z H Q ⟨B,A,Y,ha,r,n,q⟩=>⟨B,A,Y,ha,r,n,q.bind.mono fun t A1 qt v B1 H1 g1 lT rv=>by
  split at qt
  ·obtain⟨a,rfl,pM⟩:=rv.me;split at qt
   ·rename_i eo;obtain⟨hx,q2⟩:=fZ qt;obtain⟨_,dx,fW,h1,_,_,h4,h5⟩:=lT.get pM eo;have c:=T.all _ (eV.mp hx);obtain⟨t,et,k⟩:=fc (n_ (X:=X) (H:=H1) q2);obtain⟨v,ev,rv⟩:=lookup_some h4 h5 et;exact⟨a,_,dx,fW,v,rfl,h1,c.1,c.2,ev,k v B1 H1 g1 lT rv⟩
   ·exact qt.elim
  ·exact qt.elim⟩
def VI(xs:List Str)(f:Str)(v:Rz Tr)(o:Ab->Rz Tr)(Y:aQ):Rz Out:=v.bind fun tv A=>(o A).bind fun t A=>match t with
 |.at i=>match A[i]? with
  |some (.ins x fs)=>if xs.contains x=true/\fs.length<1000 then .ok (.nx Y) (A.set i (.ins x (yF f tv fs)))else .bad
  |_=>.bad
 |_=>.bad
theorem VJ(T:gM X.K xs f)(ho:PE X o (tE X G))(hv:PE X value (tE X E)):PS X (.Assign [.Attribute o f pos'] value pos) (tZ X fun Y A=>VI xs f (E Y A) (G Y) Y):=
 (O9 ho hv GF).weak fun D Z H ⟨B0,H0,B,A,Y,hb,g,ha,r,n,q⟩=>og hb g ha r n q.bind fun tv A1 v B1 H1 q1 g1 lT r1 rv _=>og hb g1 lT r1 n (gg.bind q1) fun t A2 w B2 H2 q2 g2 oh r2 nQ ZC=>by
  split at q2
  ·obtain⟨a,rfl,pM⟩:=nQ.me;split at q2
   ·rename_i i _ x fs eo;obtain⟨⟨hx,hl⟩,q3⟩:=fZ q2;obtain⟨hd,dx,fW,h1,h2,h3,h4,h5⟩:=oh.get pM eo;have c:=T.all x (eV.mp hx);have b7:fW.length=fs.length:=by have:=cw List.length h4;rw[aC,aC]at this;exact this
    obtain⟨p1,p2⟩:=BA (f:=f) (rv.same ZC.jk) h4 h5;have YX:dx≠a:=fun z=>by rw[z,show B2.ix a=some i from pM]at h3;cases h3
    obtain⟨g3,h6⟩:=oh.write (o:=.ins x (yF f tv fs)) (u:=.ins (clsAt X.K x) dx (lu f v fW)) pM ⟨hd,dx,_,aU,by rw[ay YX];exact h2,h3,p1,by rw[hW hd];exact p2⟩;exact⟨a,_,dx,fW,rfl,h1,c.1,c.2,by rw[b7];exact hl,q3 Z B2 _ (g2.trans hb g3) h6 (r2.grow n g3) n⟩
   ·exact q2.elim
  ·exact q2.elim
end
theorem MG{xc:Tr->Ab->Prop}{r:Rs Tr}{A:Ab}{k:Tr->Ab->Prop}(q:gg xc (pL r A) k):Fi X H r fun t=>Hl t=true/\k t A:=by
 cases r with
 |ok t=>exact fZ q
 |exc c=>exact fe q
 |bad=>exact q
section
variable {a b i value:Expr}{es:List Expr}{pos' bh:Pos}{F G E:aQ->Ab->Rz Tr}{L:aQ->Ab->Rz (List Tr)}{h:Tr->Tr->Rs Tr}
def MH(h:Tr->Tr->Rs Tr)(a:Rz Tr)(b:Ab->Rz Tr):Rz Tr:=a.bind fun x A=>(b A).bind fun y A=>pL (h (aj 1 A x) (aj 1 A y)) A
theorem GG{Q:VK}(q:tE X (fun Y A=>MH h (F Y A) (G Y)) Z H Q):O1 (rT X h) (tE X F) (tE X G) Z H Q:=by
 obtain⟨B,A,Y,ha,r,n,q⟩:=q;refine⟨B,A,Y,ha,r,n,q.bind.mono fun x A1 qx v B1 H1 g1 lT rv=>⟨B1,A1,Y,lT,r.grow n g1,n,((gg.bind qx).imp fun c A' z=>z.grow ha.hb g1).mono fun y A2 qy u B2 H2 g2 oh ru=>?_⟩⟩;refine⟨B2.un,aj 1 A2 x,aj 1 A2 y,EI oh.hb,iu oh 1 (rv.same g2.jk),iu oh 1 ru,(MG qy).mono fun t ⟨ft,k⟩ w H3 s3 nQ=>?_⟩;exact k w B2 H3 ((g1.trans ha.hb g2).trans ha.hb (.of s3)) (oh.same s3) (yt (oh.same s3) nQ ft)
theorem ZD(hu:X.A.units+1<cLine)(h1:PE X a (tE X F))(h2:PE X b (tE X G))(hs:rQ b:=by exact fun _ _=>rfl):PE X (.Subscript a b pos) (tE X fun Y A=>MH eJ (F Y A) (G Y)):=(NW (UL hu) h1 h2 hs).weak fun _ _ _ q=>GG q
def BB(A:Ab)(t tk tv:Tr):Option Ab:=match t,i7 tk with
 |.at i,some k=>match A[i]? with
  |some (.bo aG)=>if aG.length<d7 then some (A.set i (.bo (kz aG k tv)))else none
  |_=>none
 |_,_=>none
def Ra(v:Rz Tr)(o k:Ab->Rz Tr)(Y:aQ):Rz Out:=v.bind fun tv A=>(o A).bind fun t A=>(k A).bind fun tk A=>match BB A t tk tv with
 |some A'=>.ok (.nx Y) A'
 |none=>.bad
theorem cU.length {W:Vw}{kvs:List (Key×V)}{aG:List (Key×Tr)}(h:cU K W kvs aG):kvs.length=aG.length:=by
 have e:=cw List.length h.keys;rw[aC,aC]at e;exact e
theorem Du{A A':Ab}{t tk tv:Tr}(e:BB A t tk tv=some A'):∃j aG key,t=.at j/\i7 tk=some key/\A[j]?=some (.bo aG)/\aG.length<d7/\A'=A.set j (.bo (kz aG key tv)):=by
 unfold BB at e;split at e
 ·rename_i ek;split at e
  ·rename_i eo;split at e
   ·rename_i hl;cases e;exact⟨_,_,_,rfl,ek,eo,hl,rfl⟩
   ·cases e
  ·cases e
 ·cases e
theorem Rb(hu:X.A.units+1<cLine)(ho:PE X o (tE X F))(hi:PE X i (tE X G))(hv:PE X value (tE X E)):
  PS X (.Assign [.Subscript o i pos'] value pos) (tZ X fun Y A=>Ra (E Y A) (F Y) (G Y) Y):=
 (LD hu ho hi hv GD).weak fun D Z H ⟨B0,H0,B,A,Y,hb,g,ha,r,n,q⟩=>og hb g ha r n q.bind fun tv A1 v B1 H1 q1 g1 lT r1 rv _=>og hb g1 lT r1 n (gg.bind q1) fun t A2 w B2 H2 q2 g2 oh r2 nQ ZC=>og hb g2 oh r2 n (gg.bind q2) fun tk A3 y B3 H3 q3 g3 Hn r3 ry g23=>by
  have rw3:=nQ.same g23.jk;have XH:=(rv.same ZC.jk).same g23.jk;split at q3
  ·rename_i ed;obtain⟨j,aG,key,rfl,ek,eo,hl,rfl⟩:=Du ed;obtain⟨c,rfl,pM⟩:=rw3.me;obtain⟨hd,kvs,h1,h2⟩:=Hn.get pM eo;cases mf ry ek;obtain⟨g4,h6⟩:=Hn.write (o:=.bo (kz aG key tv)) (u:=.dK (putK kvs key v)) pM ⟨hd,_,aU,by rw[hW hd];exact h2.put key XH⟩;exact⟨c,_,rfl,CN.k h1 (by rw[h2.length,<-iI];exact hl),q3 Z B3 _ (g3.trans hb g4) h6 (r3.grow n g4) n⟩
  ·exact q3.elim
end
def gv(aG:List (Key×Tr))(k:Key):List (Key×Tr):=aG.filter fun kv=>decide (kv.1≠k)
theorem cU.drop {W:Vw}(k:Key):∀{kvs:List (Key×V)} {aG:List (Key×Tr)},cU K W kvs aG->cU K W (pO kvs k) (gv aG k)
 |[],[],_=>.nil
 |[],_::_,h=>by cases h.keys
 |_::_,[],h=>by cases h.keys
 |(k1,v1)::kvs,aG,h=>by
  obtain⟨t,r,rfl,rv,hr⟩:=h.inv;have ih:=cU.drop k hr;unfold pO gv at ih⊢;by_cases z:k1=k
  ·rw[iS (by simp[z]),iS (by simp[z])];exact ih
  ·rw[jS (by simp[z]),jS (by simp[z])];exact .cons rv ih
def lI(A:Ab)(i:Nat):Bool:=match A[i]? with
 |some (.bo _)=>true
 |_=>false
theorem pd{A:Ab}(ha:HA K B A H)(e:B.ix a=some i)(h:lI A i=true):∃aG kvs,A[i]?=some (.bo aG)/\B.hd a=true/\H a=some (.dK kvs)/\cU K (bq B H) kvs aG:=by
 obtain⟨o,eo,ao⟩:=ha.ex e;unfold lI at h;rw[eo]at h;cases o with
 |bo aG=>obtain⟨hd,kvs,h1,h2⟩:=ao;exact⟨aG,kvs,eo,hd,h1,h2⟩
 |_=>cases h
def dkZ{α:Type}(o:Rz Tr)(k:Ab->Rz Tr)(f:Nat->Key->Ab->Rz α):Rz α:=o.bind fun t A=>match t with
 |.at i=>if lI A i=true then(k A).bind fun tk A=>match i7 tk with
  |some key=>f i key A
  |none=>.bad
  else .bad
 |_=>.bad
def mZ(A:Ab)(i:Nat):List (Key×Tr):=match A[i]? with
 |some (.bo aG)=>aG
 |_=>[]
def Jm(o:Rz Tr)(k:Ab->Rz Tr):Rz Tr:=dkZ o k fun i key A=>if lI A i=true then match dt (mZ A i) key with
 |some v=>.ok v (A.set i (.bo (gv (mZ A i) key)))
 |none=>.bad
 else .bad
section
variable {f:Expr}{es:List Expr}{bh:Pos}{F G E:aQ->Ab->Rz Tr}{L:aQ->Ab->Rz (List Tr)}
theorem zE{A:Ab}{aG:List (Key×Tr)}(h:A[i]?=some (.bo aG)):mZ A i=aG:=by unfold mZ;rw[h]
theorem Rc(ho:PE X o (tE X F))(he:PE X e (tE X G))(hb:isCall o=false:=by rfl) (bH:aH [e]=true:=by rfl) (hl:(b6.endLine==bh.line)=true:=by rfl):PE X (.Call (.Attribute o "pop" b6) [e] [] bh) (tE X fun Y A=>Jm (F Y A) (G Y)):=
 (Ic ho he (N9 hb bH hl)).weak fun Z H Q ⟨B,A,Y,ha,r,n,q⟩=>⟨B,A,Y,ha,r,n,q.bind.mono fun t A1 qt v B1 H1 g1 lT rv=>by
  split at qt
  ·obtain⟨a,rfl,pM⟩:=rv.me;rename_i i;obtain⟨hd,q2⟩:=fZ qt;obtain⟨aG,kvs,e1,e2,e3,e4⟩:=pd lT pM hd;refine⟨a,rfl,.inl ⟨_,.inl e3⟩,B1,A1,Y,lT,r.grow n g1,n,((gg.bind q2).imp fun c A' z=>z.grow ha.hb g1).mono fun tk A2 qk y B2 H2 g2 oh ry=>?_⟩;have zF:=g2.jk.x _ _ pM;cases ek:i7 tk with
   |none=>simp only[ek]at qk;exact fe qk
   |some key=>
    simp only[ek]at qk;obtain⟨hd2,q3⟩:=fZ qk;obtain⟨Rf,Jn,f1,f2,f3,f4⟩:=pd oh zF hd2;rw[zE f1]at q3;have ey:=mf ry ek;subst ey;rcases o7 key f4.keys f4.vals with⟨z,_⟩|⟨t,w,z,ev,nQ⟩
    ·simp only[z]at q3;exact fe q3
    ·simp only[z]at q3;obtain⟨g4,h6⟩:=oh.write (o:=.bo (gv Rf key)) (u:=.dK (pO Jn key)) zF ⟨f2,_,aU,by rw[hW f2];exact f4.drop key⟩;exact⟨Jn,key,w,f3,rfl,ev,q3 w B2 _ ((g1.trans ha.hb g2).trans ha.hb g4) h6 (by rw[hW f2];exact nQ)⟩
  ·exact qt.elim⟩
def Jo(o:Rz Tr)(k x:Ab->Rz Tr):Rz Tr:=dkZ o k fun i key A=>(x A).bind fun tx A=>if lI A i=true then match dt (mZ A i) key with
 |some v=>.ok v (A.set i (.bo (gv (mZ A i) key)))
 |none=>.ok tx A
 else .bad
theorem Rg(ho:PE X o (tE X F))(he:PE X e (tE X G))(hf:PE X f (tE X E))(hb:isCall o=false:=by rfl) (bH:aH [e,f]=true:=by rfl) (hl:(b6.endLine==bh.line)=true:=by rfl):PE X (.Call (.Attribute o "pop" b6) [e,f] [] bh) (tE X fun Y A=>Jo (F Y A) (G Y) (E Y)):=
 (Ie ho he hf (N_ hb bH hl)).weak fun Z H Q ⟨B,A,Y,ha,r,n,q⟩=>⟨B,A,Y,ha,r,n,q.bind.mono fun t A1 qt v B1 H1 g1 lT rv=>by
  split at qt
  ·obtain⟨a,rfl,pM⟩:=rv.me;rename_i i;obtain⟨hd,q2⟩:=fZ qt;obtain⟨aG,kvs,e1,e2,e3,e4⟩:=pd lT pM hd;refine⟨a,rfl,.inl ⟨_,.inl e3⟩,B1,A1,Y,lT,r.grow n g1,n,((gg.bind q2).imp fun c A' z=>z.grow ha.hb g1).mono fun tk A2 qk y B2 H2 g2 oh ry=>?_⟩;have XI:=g1.trans ha.hb g2;cases ek:i7 tk with
   |none=>simp only[ek]at qk;exact fe qk
   |some key=>
    simp only[ek]at qk;refine⟨B2,A2,Y,oh,r.grow n XI,n,((gg.bind qk).imp fun c A' z=>z.grow ha.hb XI).mono fun tx A3 qx z B3 H3 g3 Hn rz=>?_⟩;have VL:=g3.jk.x _ _ (g2.jk.x _ _ pM);obtain⟨hd3,q3⟩:=fZ qx;obtain⟨ZF,VM,f1,f2,f3,f4⟩:=pd Hn VL hd3;rw[zE f1]at q3;have ey:=mf ry ek;subst ey;refine⟨VM,key,f3,rfl,fun w ev=>?_,fun ev=>?_⟩
    ·rcases o7 key f4.keys f4.vals with⟨_,z2⟩|⟨t,w2,z2,VN,nQ⟩
     ·rw[ev]at z2;cases z2
     ·rw[ev]at VN;cases VN;simp only[z2]at q3;obtain⟨g4,h6⟩:=Hn.write (o:=.bo (gv ZF key)) (u:=.dK (pO VM key)) VL ⟨f2,_,aU,by rw[hW f2];exact f4.drop key⟩;exact q3 w B3 _ ((XI.trans ha.hb g3).trans ha.hb g4) h6 (by rw[hW f2];exact nQ)
    ·rcases o7 key f4.keys f4.vals with⟨z1,_⟩|⟨t,w2,z2,VN,_⟩
     ·simp only[z1]at q3;exact q3 z B3 H3 (XI.trans ha.hb g3) Hn rz
     ·rw[ev]at VN;cases VN
  ·exact qt.elim⟩
variable {c:Str}{h:List Tr->Ab->Rz Tr}{fa:Addr}{fd:FuncData}{k:Nat}
def wB(c:Str)(h:List Tr->Ab->Rz Tr)(l:Rz (List Tr)):Rz Tr:=l.bind fun ts A=>(h (.at A.length::ts) (A++[.ins c []])).bind fun t A'=>if Xr t=true then .ok (.at A.length) A' else .bad
structure wC(K:Frag)(mg:Str->Option Value)(c:Str)(ps:List Str)(fa:Addr)(fd:FuncData):Prop where
 VO:Mk K (clsAt K c) fa
 bd:Binds K fd ps []
 mg:mg c=some (.ref (clsAt K c))
theorem EY{B1:dG}{H1:Hp}{A1:Ab}{vs:List V}{ts:List Tr}{Q:VK}(hb:HB B H)(g:Grows B H B1 H1)(ha:HA X.K B1 A1 H1)(rs:aV X.K (bq B1 H1) vs ts)
  (q:gg (XE X B H) ((h (.at A1.length::ts) (A1++[.ins c []])).bind fun t A'=>if Xr t=true then .ok (.at A1.length) A' else .bad) fun t A'=>∀v B' H',Grows B H B' H'->HA X.K B' A' H'->Rep X.K (bq B' H') v t->Q v H')
  (x dx:Addr) (h1:H1 x=none) (h2:H1 dx=none) (h3:dx≠x):um X.K h (.ref x::vs) (upd (upd H1 dx (.own x)) x (.ins (clsAt X.K c) dx [])) (fun v H2=>v=.bK/\Q (.ref x) H2) (EX X):=by
 have s1:au H1 (upd (upd H1 dx (.own x)) x (.ins (clsAt X.K c) dx [])):=((au.upd h2).trans (au.upd (by rw[ay (Ne.symm h3)];exact h1)));obtain⟨g1,lT⟩:=ha.push (p:=x) (o:=.ins c []) h1 s1 ⟨o8,dx,[],aU,by rw[ay h3,aU],by rw[gu h3];exact ha.free h2,rfl,.nil⟩;refine⟨_,_,_,lT,.cons (.at gs) (rs.same g1.jk),((gg.bind q).imp fun c A' z=>z.grow hb (g.trans hb g1)).mono fun t A' z v B' H' g' kr rv=>?_⟩;obtain⟨hn,z2⟩:=fZ z;refine⟨?_,z2 (.ref x) B' H' ((g.trans hb g1).trans hb g') kr (.at (g'.jk.x _ _ gs))⟩;have e:=EA rv;rw[hn]at e;exact dk e
theorem Rh(D:wC X.K X.mg c ps fa fd)(G:c_ X.prog X.w X.K X.mg X.base (tw X.prog X.w) k fa fd ps (um X.K h))(hr:cp (k+1) X.A)(ha:PA X (e::es) (K5 X L))(hx:X.ex=[]:=by rfl) (hg:Gl X c:=by rfl) (dZ:Db c:=by decide) (bH:aH (e::es)=true:=by rfl):
  PE X (.Call (.Name c p) (e::es) [] pos) (tE X fun Y A=>wB c h (L Y A)):=
 (Lp (p:=p) (pos:=pos) D.VO G hr hg D.mg D.bd .nil (lG hx) ha (dZ:=dZ) (he:=aS _ _ (az bH).1) (mL:=bZ (az bH).2)).weak fun Z H Q ⟨B,A,Y,ha,r,n,q⟩=>⟨B,A,Y,ha,r,n,q.bind.mono fun ts A1 qt vs B1 H1 g1 lT rs x dx h1 h2 h3=>by
  show um X.K h (.ref x::(vs++[])) _ _ _;rw[iU];exact EY ha.hb g1 lT rs qt x dx h1 h2 h3⟩
theorem MI(D:wC X.K X.mg c ps fa fd)(G:c_ X.prog X.w X.K X.mg X.base (tw X.prog X.w) k fa fd ps (um X.K h))(hr:cp (k+1) X.A)(hx:X.ex=[]:=by rfl) (hg:Gl X c:=by rfl) (dZ:Db c:=by decide):
  PE X (.Call (.Name c p) [] [] pos) (tE X fun _ A=>wB c h (.ok [] A)):=
 (HS (p:=p) (pos:=pos) D.VO G hr hg D.mg D.bd .nil (lG hx) (dZ:=dZ)).weak fun Z H Q ⟨B,A,Y,ha,r,n,q⟩ x dx h1 h2 h3=>EY (vs:=[]) (ts:=[]) ha.hb .refl ha .nil q x dx h1 h2 h3
end
theorem MJ(ok:X.Ok):∀b∈X.fs,b∈iN X.stack:=fun b hb=>by
 rcases ok.K0 with e|⟨e,_⟩
 ·rw[e];exact hb
 ·rw[e];obtain⟨v,hv,hf⟩:=jW.mp hb;exact jW.mpr ⟨v,bI _ hv,hf⟩
theorem Inv.Ri {h':Heap}{hs:List Addr}(I:Inv X U Z H s)(hx:X.ex=[])
  (kp:∀b o,b∉hs->b∉iN X.stack->s.heap.get? b=some o->h'.get? b=some o) (sl:∀b o,b∈iN X.stack->s.heap.get? b=some o->∃sl,h'.get? b=some {o with slots:=sl})
  (hn:∀b∈hs,H b=none/\X.eZ.heap.get? b=none/\(∀p∈X.pn++U,p.1≠b)/\((∃o ws,s.heap.get? b=some o/\o.data=.fields ws)\/s.heap.get? b=none)):Inv X U Z H {s with heap:=h'}:=by
 have ZG:∀b:Addr,b∉X.ex:=fun b=>by rw[hx];simp
 have any:∀b o,b∉hs->s.heap.get? b=some o->∃sl,h'.get? b=some {o with slots:=sl}:=fun b o nb e=>by
  by_cases m:b∈iN X.stack
  ·exact sl b o m e
  ·exact⟨o.slots,kp b o nb m e⟩
 have hsF:∀b o,s.heap.get? b=some o->(∀ws,o.data≠ .fields ws)->b∉hs:=fun b o e d m=>by
  rcases(hn b m).2.2.2 with⟨o2,ws,e2,d2⟩|e2
  ·rw[e]at e2;cases e2;exact d ws d2
  ·rw[e]at e2;cases e2
 have cellK:∀c v,s.heap.IsCell c v->h'.IsCell c v:=fun c v ⟨o,ho,hd⟩=>by
  obtain⟨s1,e1⟩:=any c o (hsF c o ho fun ws z=>by rw[hd]at z;cases z) ho;exact⟨_,e1,hd⟩
 have old:∀b o,X.eZ.heap.get? b=some o->b∉hs:=fun b o e m=>by rw[(hn b m).2.1]at e;cases e
 refine⟨I.ok,I.os,I.bare,⟨fun b o e n hb _=>?_,fun b o e n hb _=>?_,I.base.free,fun b o e _=>?_,I.base.jy,I.base.jP,I.base.l9⟩,?_,fun x c e=>?_,I.free,I.eK,fun p hp=>?_,fun b u e=>?_,I.len⟩
 ·refine kp b o (old b o e) (fun m=>?_) (I.base.keep b o e n hb (ZG b));rcases aE.mp (I.vz b m)with z|z
  ·exact absurd (cn (aF e) I.ok.above) (by rw[z];exact dm _)
  ·exact hb z
 ·obtain⟨s1,e1⟩:=I.base.slot b o e n hb (ZG b);obtain⟨s2,e2⟩:=sl b _ (MJ I.ok b hb) e1;exact⟨s2,e2⟩
 ·obtain⟨o1,e1⟩:=I.base.there b o e (ZG b);obtain⟨s2,e2⟩:=any b o1 (old b o e) e1;exact⟨_,e2⟩
 ·obtain⟨m,hm,hl⟩:=I.loc;refine⟨m,?_,fun i x v e1 e2 e3=>?_⟩
  ·obtain⟨o,es,ep,ho,hd,r⟩:=hm;obtain⟨s1,e1⟩:=any _ o (hsF _ o ho fun ws z=>by rw[hd]at z;cases z) ho;exact⟨_,es,ep,e1,hd,r⟩
  ·obtain⟨u,r,l⟩:=hl i x v e1 e2 e3;refine⟨u,r,?_⟩;rcases l with l|⟨k,c,e,z⟩
   ·exact .inl l
   ·exact .inr ⟨k,c,e,cellK c _ z⟩
 ·obtain⟨v,z⟩:=I.cell x c e;exact⟨v,cellK c v z⟩
 ·obtain⟨e,n,ne,nf,d⟩:=I.pin p hp;refine⟨kp p.1 p.2 (fun m=>(hn _ m).2.2.1 p hp rfl) (fun m=>?_) e,n,ne,nf,d⟩;rcases aE.mp (I.vz _ m)with z|z
  ·exact ne z
  ·exact nf z
 ·refine(I.cj b u e).nM (fun c v hc q=>kp c v (fun m=>?_) (fun m=>?_) q) (fun _ q=>q) fun _ _ q=>q
  ·have n:=(hn c m).1;rcases hc with rfl|hc
   ·rw[n]at e;cases e
   ·rw[n]at hc;cases hc
  ·have n:=I.uK c m;rcases hc with rfl|hc
   ·rw[n]at e;cases e
   ·rw[n]at hc;cases hc
def VP(h0:Heap)(H:Hp)(h:Heap)(a:Addr)(cls:Value):Prop:=∃oe vs a0 T oT ts,h.get? a=some oe/\oe.cls=cls/\oe.data=.fields vs/\vs[0]?=some a0/\vs[1]?=some (.ref T)/\T≠a/\h0.get? T=none/\H T=none/\h.get? T=some oT/\oT.data=.fields ts/\ts[3]?=some .none
structure K8(X:Cx)(h0:Heap)(Z:St)(H:Hp)(s:Shared)(a:Addr)(cls:Value):Prop where
 inv:Inv X [] Z H s
 EK:Oe h0 H s.heap a cls
 old:∀b,h0.get? b=none->X.eZ.heap.get? b=none
 pn:∀p∈X.pn,∃o,h0.get? p.1=some o
 gr:∀b,s.heap.get? b=none->h0.get? b=none
theorem XS.cau {cls e:Value}(x:XS X H cls e s):∃a Z h0,e=.ref a/\K8 X h0 Z H s a cls:=by
 obtain⟨a,U,Z,h0,rfl,I,EK,old,pn,gr⟩:=x;exact⟨a,Z,h0,rfl,I.iY (fun p hp=>I.pin p (iT _ (by simpa using hp))),EK,old,pn,gr⟩
theorem K8.step {h0:Heap}{cls a0:Value}{h':Heap}{hs:List Addr}(C:K8 X h0 Z H s a cls)(hx:X.ex=[])(ha:a∈hs)(hh:∀b∈hs,H b=none/\h0.get? b=none/\∃o ws,s.heap.get? b=some o/\o.data=.fields ws)
  (k1:(PySem.W.hideAll s.heap (hs++iN X.stack)).StaysIn h') (k4:∀b o,s.heap.get? b=some o->(∀ws,o.data≠ .fields ws)->∃sl,h'.get? b=some {o with slots:=sl})
  (k3:h'.TracedW (PySem.W.hideAll s.heap (hs++iN X.stack)) a cls a0) (fr':∀b∈iN X.stack,∃o,h'.get? b=some o/\∀ws,o.data≠ .fields ws):K8 X h0 Z H {s with heap:=h'} a cls/\VP h0 H h' a cls:=by
 have hk:=C.inv.stack;have SO:∀L∈iN X.stack,∃o,s.heap.get? L=some o/\∀ws,o.data≠ .fields ws:=fun L hL=>(hk.mem hL).2;have gp:∀b,h0.get? b=none->∀p∈X.pn++[],p.1≠b:=fun b n p hp z=>by
  obtain⟨o,e⟩:=C.pn p (by simpa using hp);rw[z,n]at e;cases e
 have kp:∀b o,b∉hs->b∉iN X.stack->s.heap.get? b=some o->h'.get? b=some o:=fun b o n1 n2 e=>k1 b o (kR _ e fun m=>(dC.mp m).elim n1 n2);have sl:∀b o,b∈iN X.stack->s.heap.get? b=some o->∃sl,h'.get? b=some {o with slots:=sl}:=fun b o m e=>by
  obtain⟨o2,e2,d2⟩:=SO b m;rw[e]at e2;cases e2;exact k4 b o e d2
 have tr:VP h0 H h' a cls:=by
  obtain⟨oe,vs,T,oT,ts,q1,⟨q2,q3⟩,q4,q5,q6,q7,q8,q9,Y2⟩:=k3;have hTf:T∉iN X.stack:=fun m=>by
   obtain⟨o,e,d⟩:=fr' T m;rw[q8]at e;cases e;exact d ts q9
  have key:h0.get? T=none/\H T=none:=by
   by_cases m:T∈hs
   ·exact⟨(hh T m).2.1,(hh T m).1⟩
   ·have n:s.heap.get? T=none:=by
     cases z:s.heap.get? T with
     |none=>rfl
     |some o=>rw[kR _ z fun mm=>(dC.mp mm).elim m hTf]at q6;cases q6
    refine⟨C.gr T n,?_⟩;cases z:H T with
    |none=>rfl
    |some o=>obtain⟨u,e⟩:=(C.inv.cj T o z).get;rw[n]at e;cases e
  exact⟨oe,vs,a0,T,oT,ts,q1,q2,q4,q3,q5,q7,key.1,key.2,q8,q9,Y2⟩
 refine⟨⟨C.inv.Ri hx kp sl fun b m=>⟨(hh b m).1,C.old b (hh b m).2.1,gp b (hh b m).2.1,.inl (hh b m).2.2⟩,⟨?_,C.EK.fr,C.EK.nw⟩,C.old,C.pn,fun b n=>?_⟩,tr⟩
 ·obtain⟨oe,vs,b0,T,oT,ts,q1,q2,q3,q4,q5,q6⟩:=tr;exact⟨oe,vs,b0,q1,q2,q3,q4,.inr ⟨T,oT,ts,q5,q6⟩⟩
 ·by_cases m:b∈hs
  ·exact(hh b m).2.1
  ·refine C.gr b ?_
   cases z:s.heap.get? b with
   |none=>rfl
   |some o=>
    have n':h'.get? b=none:=n;by_cases m2:b∈iN X.stack
    ·obtain⟨s1,e1⟩:=sl b o m2 z;rw[n']at e1;cases e1
    ·rw[kp b o m m2 z]at n';cases n'
section
variable {h0:Heap}{cls:Value}{M:Model}
theorem MK(C:K8 X h0 Z H s a cls)(hx:X.ex=[])(bH:X.stack=X.env::X.outer)(hf:X.env.frame=some X.env.locals)(hA:A.frames=some X.stack){Q:Unit->Shared->Prop}(q:∀s',K8 X h0 Z H s' a cls->VP h0 H s'.heap a cls->Q () s'):
  wpAny M A (noteFrame (.ref a) X.env) (fun _ s2=>wpAny M A (setFlight (.ref a) none) Q E s2) E s:=by
 obtain⟨⟨oe,vs,a0,he,y3,hd,h0',h1⟩,fr,nw⟩:=C.EK;have hk:s.heap.FunFrames X.base X.stack:=C.inv.stack;have kO:∀e∈X.stack,∀b,e.frame=some b->b∈iN X.stack:=fun e he b hb=>jW.mpr ⟨e,he,hb⟩;have after:∀(hs:List Addr) (h':Heap),a∈hs->(∀b∈hs,H b=none/\h0.get? b=none/\∃o ws,s.heap.get? b=some o/\o.data=.fields ws)->Heap.NotedW (PySem.W.hideAll s.heap (hs++iN X.stack)) X.stack a cls a0 (rawInt X.env.locals) s.heap h'->wpAny M A (setFlight (.ref a) none) Q E {s with heap:=h'}:=by
  intro hs h' ham hh ⟨k1,k2,k3,k4⟩;refine wpAny_setFlight_noneW (s:={s with heap:=h'}) k1 k2 k3 fun h2 j1 j2 j3 j4=>?_
  obtain⟨c1,c2⟩:=C.step hx ham hh j1 (fun b o e d=>by obtain⟨sl,e1⟩:=k4 b o e d;exact⟨sl,j4 b _ e1 d⟩) j3 fun b m=>(j2.mem m).2;exact q _ c1 c2
 rcases h1 with h1|⟨T,oT,ts,h1,Y3,Y4,K4,hT,Xt,h3⟩
 ·have hl:s.heap.FunFrames (PySem.W.hideAll s.heap ([a]++iN X.stack)) (X.env::X.outer):=by rw[<-bH];exact m_ hk fun e he b hb=>cH _ (kO e he b hb)
  unfold noteFrame;simp only[hf];refine af (eY he hd h1 ?_);rw[ak (by decide)];refine wpAny_entryW (base:=PySem.W.hideAll s.heap ([a]++iN X.stack)) (by rw[hA,bH]) hl hf he (fun b o z=>kS _ z) (jT _ (iT _ (cF.mpr rfl))) hd (Array.getElem?_eq_some_iff.mp h1).1 h0' fun h' hN=>?_
  rw[y3,<-bH]at hN;refine after [a] h' (cF.mpr rfl) (fun b m=>?_) hN;cases cF.mp m;exact⟨fr,nw,oe,vs,he,hd⟩
 ·have hl:s.heap.FunFrames (PySem.W.hideAll s.heap ([a,T]++iN X.stack)) (X.env::X.outer):=by rw[<-bH];exact m_ hk fun e he b hb=>cH _ (kO e he b hb)
  refine wpAny_noteFrame_onW (base:=PySem.W.hideAll s.heap ([a,T]++iN X.stack)) (cls:=cls) (a0:=a0) (by rw[hA,bH]) hl hf ⟨oe,vs,T,oT,ts,he,⟨y3,h0'⟩,hd,h1,jT _ (iT _ (by simp)),Y3,hT,Xt,h3⟩ (fun b o z=>kS _ z) (jT _ (iT _ (by simp))) fun h' hN=>?_
  rw[<-bH]at hN;refine after [a,T] h' (by simp) (fun b m=>?_) hN;simp only[aE,a_,ba]at m;rcases m with rfl|rfl
  ·exact⟨fr,nw,oe,vs,he,hd⟩
  ·exact⟨K4,Y4,oT,ts,hT,Xt⟩
theorem GH(C:K8 X h0 Z H s a cls)(T:VP h0 H s.heap a cls)(hx:X.ex=[]){Q:Unit->Shared->Prop}(q:∀s',K8 X h0 Z H s' a cls->VP h0 H s'.heap a cls->Q () s'):wpAny M A (setFlight (.ref a) none) Q E s:=by
 obtain⟨oe,vs,a0,T,oT,ts,e1,e2,e3,e4,e5,e6,e7,e8,e9,e10,e11⟩:=T;have hk:s.heap.FunFrames X.base X.stack:=C.inv.stack;have kO:∀e∈X.stack,∀b,e.frame=some b->b∈iN X.stack:=fun e he b hb=>jW.mpr ⟨e,he,hb⟩;have hl:s.heap.FunFrames (PySem.W.hideAll s.heap ([a,T]++iN X.stack)) X.stack:=m_ hk fun e he b hb=>cH _ (kO e he b hb);refine wpAny_setFlight_noneW (base:=PySem.W.hideAll s.heap ([a,T]++iN X.stack)) (cls:=cls) (a0:=a0) (fl:=.none) (fun b o z=>kS _ z) hl ⟨oe,vs,T,oT,ts,e1,⟨e2,e4⟩,e3,e5,jT _ (iT _ (by simp)),e6,e9,e10,e11⟩ fun h2 j1 j2 j3 j4=>?_
 obtain⟨c1,c2⟩:=C.step hx (hs:=[a,T]) (by simp) (fun b m=>by
  simp only[aE,a_,ba]at m;rcases m with rfl|rfl
  ·exact⟨C.EK.fr,C.EK.nw,oe,vs,e1,e3⟩
  ·exact⟨e8,e7,oT,ts,e9,e10⟩) j1 (fun b o e d=>⟨o.slots,j4 b o e d⟩) j3 fun b m=>(j2.mem m).2
 exact q _ c1 c2
theorem K8.VQ (C:K8 X h0 Z H s a cls)(hx:X.ex=[]):∃oe:Obj,oe.cls=cls/\s.heap.get? a=some oe/\Inv X [] Z (upd H a (.ext fun h=>h.get? a=some oe)) s:=by
 obtain⟨⟨oe,vs,a0,he,y3,hd,_⟩,fr,nw⟩:=C.EK;have I:=C.inv;refine⟨oe,y3,he,I.ok,I.os,I.bare,⟨I.base.keep,I.base.slot,fun b o e n hb=>?_,I.base.there,fun b ts e=>?_,fun b o u e=>?_,fun b p e=>?_⟩,I.loc,I.cell,?_,fun y c e=>?_,fun p hp=>?_,fun b u e=>?_,I.len⟩
 ·rw[ay fun z=>?_]
  ·exact I.base.free b o e n hb
  ·rw[z,C.old a nw]at e;cases e
 ·rw[ay fun z=>?_]
  ·exact I.base.jy b ts e
  ·have q:=I.base.jy b ts e;rw[z,fr]at q;cases q
 ·rw[ay fun z=>?_]
  ·exact I.base.jP b o u e
  ·have q:=I.base.jP b o u e;rw[z,fr]at q;cases q
 ·obtain⟨more,q⟩:=I.base.l9 b p e;exact⟨more,by rw[ay fun z=>(by rw[z,fr]at q;cases q)];exact q⟩
 ·rw[ay fun z=>?_]
  ·exact I.free
  ·obtain⟨m,⟨o,es,ep,ho,hd2,_⟩,_⟩:=I.loc;rw[z,he]at ho;cases ho;rw[hd]at hd2;cases hd2
 ·rw[ay fun z=>?_]
  ·exact I.eK y c e
  ·obtain⟨v,o,ho,hd2⟩:=I.cell y c e;rw[z,he]at ho;cases ho;rw[hd]at hd2;cases hd2
 ·obtain⟨q1,q2,q3⟩:=I.pin p hp;refine⟨q1,?_,q3⟩;rw[ay fun z=>?_]
  ·exact q2
  ·obtain⟨o,e⟩:=C.pn p (by simpa using hp);rw[z,nw]at e;cases e
 ·by_cases z:b=a
  ·subst z;rw[aU]at e;cases e;exact⟨he,⟨oe,he⟩,fun h1 h2 p k=>k _ p⟩
  ·rw[ay z]at e;exact(I.cj b u e).nM (fun _ _ _ q=>q) (fun c q=>by rw[ay (aY q fr)];exact q) fun c xs q=>by rw[ay (aY q fr)];exact q
theorem yG{n:Str}{Q:Unit->Shared->Prop}(I:Inv X U Z H s)(hN:X.N.Nodup)(hi:X.N[i]?=some n)(hl:X.env.scope.names.lookup n=some .local)(q:∀s',Inv X U (Z.set i none) H s'->Q () s'):wpAny M A (do bindName X.env n .none;unbindBehindTheSuite X.env n pos) Q E s:=by
 obtain⟨m,hn,hlk⟩:=id I.loc;have Ek:(X.env.scope.kind== .class||(X.env.scope.kind== .module&&X.env.locals !=X.env.globals))=false:=by rw[I.ok.kind];rfl
 obtain⟨oL,_,_,D4,_⟩:=id hn;refine wpAny_nameGoes_keeps hl hn Ek fun h' v NN hs=>q _ ?_
 have ne:∀b o,X.eZ.heap.get? b=some o->b≠X.env.locals:=fun b o e=>bc (cn (aF e) I.ok.above);refine⟨I.ok,I.os,I.bare,⟨fun b o e n hb hx=>?_,fun b o e n hb hx=>?_,I.base.free,fun b o e hx=>?_,I.base.jy,I.base.jP,I.base.l9⟩,⟨_,NN,fun j y w e1 e2 e3=>?_⟩,fun y c e=>?_,I.free,I.eK,fun p hp=>?_,fun b u e=>?_,by rw[ju];exact I.len⟩
 ·exact(hs.2 b (ne b o e)).trans (I.base.keep b o e n hb hx)
 ·obtain⟨sl,e1⟩:=I.base.slot b o e n hb hx;exact⟨sl,(hs.2 b (ne b o e)).trans e1⟩
 ·obtain⟨o1,e1⟩:=I.base.there b o e hx;exact⟨o1,(hs.2 b (ne b o e)).trans e1⟩
 ·by_cases hj:j=i
  ·subst hj;have hjl:j<Z.length:=by rw[I.len];exact(eR.mp hi).1
   rw[m9 hjl]at e2;cases e2
  ·rw[kQ (Ne.symm hj)]at e2;obtain⟨u,r,l⟩:=hlk j y w e1 e2 e3;refine⟨u,r,?_⟩;rcases l with⟨k,e⟩|⟨k,c,e,z⟩
   ·refine .inl ⟨k,?_⟩;have hy:y≠n:=fun z=>hj (rJ hN e1 (z▸hi));show(if y=n then v else m y)=some u;rw[ak hy];exact e
   ·exact .inr ⟨k,c,e,z.sameBut hs (I.FQ y c e)⟩
 ·obtain⟨w,z⟩:=I.cell y c e;exact⟨w,z.sameBut hs (I.FQ y c e)⟩
 ·obtain⟨e,n2,ne2,nf,d⟩:=I.pin p hp;exact⟨(hs.2 p.1 ne2).trans e,n2,ne2,nf,d⟩
 ·refine(I.cj b u e).nM (fun c w hc z=>(hs.2 c fun y=>?_).trans z) (fun _ z=>z) fun _ _ z=>z;subst y;rcases hc with z2|z2
  ·rw[<-z2,I.free]at e;cases e
  ·rw[I.free]at z2;cases z2
end
theorem bL.none:bL K B H Z (List.replicate Z.length .no):=by
 have no:∀(i:Nat) (c:Cell),(List.replicate Z.length Cell.no)[i]?=some c->c=.no:=fun i c e=>by
  rw[qK]at e;split at e
  ·exact(Option.some.inj e).symm
  ·cases e
 exact⟨vc,(fun i t e=>by cases no i _ e),(fun i ts e=>by cases no i _ e),(fun i j ts us D _ e=>by cases no i _ e)⟩
theorem bL.unset {Y:aQ}(h:bL K B H Z Y)(n:fb Y)(i:Nat):bL K B H (Z.set i Option.none) (Y.set i .no):=by
 refine⟨by rw[ju,ju];exact h.len,fun j t e=>?_,fun j ts e=>?_,fun j k ts us D _ e=>?_⟩
 ·rcases d6 e with⟨_,_,z⟩|⟨hj,e⟩
  ·cases z
  ·obtain⟨v,e1,r⟩:=h.sh j t e;exact⟨v,by rw[kQ hj];exact e1,r⟩
 ·rcases d6 e with⟨_,_,z⟩|⟨hj,e⟩
  ·cases z
  ·exact absurd e (n j ts)
 ·rcases d6 e with⟨_,_,z⟩|⟨hj,e⟩
  ·cases z
  ·exact absurd e (n j ts)
theorem fb.unset {Y:aQ}(h:fb Y)(i:Nat):fb (Y.set i .no):=fun j ts e=>by
 rcases d6 e with⟨_,_,z⟩|⟨hj,e⟩
 ·cases z
 ·exact h j ts e
abbrev Cx.jE (X:Cx)(pn:List (Addr×Obj))(E':Value->Shared->Prop):Cx:={X with pn:=pn,xe:=E'}
abbrev Cx.oq (X:Cx)(pn:List (Addr×Obj))(e:Value):Cx:={X with A:=X.A.mark (some e),calm:=false,pn:=pn,xe:=fun _ _=>False}
section
variable {pn:List (Addr×Obj)}{E':Value->Shared->Prop}{e:Value}
theorem Cx.Ok.jE (ok:X.Ok):(X.jE pn E').Ok:=⟨ok.mod,ok.kind,ok.glob,ok.blt,ok.above,ok.inj,ok.has,ok.NM,ok.hd,ok.frames,ok.K0,ok.Sz,ok.bs,ok.FP,ok.y1,ok.AD,ok.pH,ok.Ht⟩
theorem Cx.Ok.kD (ok:(X.jE pn E').Ok):X.Ok:=⟨ok.mod,ok.kind,ok.glob,ok.blt,ok.above,ok.inj,ok.has,ok.NM,ok.hd,ok.frames,ok.K0,ok.Sz,ok.bs,ok.FP,ok.y1,ok.AD,ok.pH,ok.Ht⟩
theorem Cx.Ok.oq (ok:X.Ok):(X.oq pn e).Ok:=⟨ok.mod,ok.kind,ok.glob,ok.blt,ok.above,ok.inj,ok.has,ok.NM,(fun z=>by cases z),ok.frames,ok.K0,ok.Sz,ok.bs,ok.FP,ok.y1,ok.AD,ok.pH,ok.Ht⟩
theorem Inv.jE (I:Inv X U Z H s):Inv (X.jE (X.pn++U) E') [] Z H s:=⟨I.ok.jE,I.os,I.bare,I.base,I.loc,I.cell,I.free,I.eK,fun p hp=>I.pin p (by simpa using hp),I.cj,I.len⟩
theorem Inv.kD (I:Inv (X.jE (X.pn++U) E') [] Z H s):Inv X U Z H s:=⟨I.ok.kD,I.os,I.bare,I.base,I.loc,I.cell,I.free,I.eK,fun p hp=>I.pin p (by simpa using hp),I.cj,I.len⟩
theorem Inv.oq (I:Inv (X.jE pn E') [] Z H s):Inv (X.oq pn e) [] Z H s:=⟨I.ok.kD.oq,I.os,I.bare,I.base,I.loc,I.cell,I.free,I.eK,I.pin,I.cj,I.len⟩
theorem Inv.Jp (ok:X.Ok)(I:Inv (X.oq (X.pn++U) e) [] Z H s):Inv X U Z H s:=⟨ok,I.os,I.bare,I.base,I.loc,I.cell,I.free,I.eK,fun p hp=>I.pin p (by simpa using hp),I.cj,I.len⟩
theorem SP.kD {D:Ends}{f:Flow}(h:SP (X.jE (X.pn++U) E') [] D f s):SP X U D f s:=by
 cases f with
 |next=>obtain⟨cI,H',I,q⟩:=h;exact⟨cI,H',I.kD,q⟩
 |brk=>obtain⟨cI,H',I,q⟩:=h;exact⟨cI,H',I.kD,q⟩
 |cont=>obtain⟨cI,H',I,q⟩:=h;exact⟨cI,H',I.kD,q⟩
 |ret u=>obtain⟨v,cI,H',I,r,q⟩:=h;exact⟨v,cI,H',I.kD,r,q⟩
end
structure pf(K:Frag)(mg:Str->Option Value)(c:Str)(xs:List Str):Prop where
 mg:mg c=some (.ref (clsAt K c))
 all:∀x∈xs,PySem.W.exmOne K (.ref (clsAt K x)) (.ref (clsAt K c))=some true
def VR(N i:Nat)(xs:List Str)(x:Str)(A:Ab)(G2:aQ->Ab->Rz Out):Rz Out:=if xs.contains x=true then match G2 ((List.replicate N Cell.no).set i (.sh (.at A.length))) (A++[.Ar x])with
 |.ok (.nx Y) A=>.ok (.nx (Y.set i .no)) A
 |.ok (.ret t) A=>.ok (.ret t) A
 |_=>.bad
 else .bad
def Dv(N i:Nat)(xs:List Str)(r:Rz Out)(G2:aQ->Ab->Rz Out):Rz Out:=match r with
 |.ok o A=>.ok o A
 |.exc (.str x) A=>VR N i xs x A G2
 |_=>.bad
section
variable {c n:Str}{tp hp:Pos}{xs:List Str}{body ou:List Stmt}{wD:Stmt}{G G2:aQ->Ab->Rz Out}
theorem Oe.VS {h0 h:Heap}{c:Value}(u:Oe h0 H h a c):PySem.W.Looks (model P w) h (typeOf (.ref a)) c:=by
 obtain⟨⟨oe,vs,a0,he,rfl,_⟩,_,_⟩:=u;exact(lp (M:=model P w) (part:=none) he).andThen (f:=fun o:Obj=>pure o.cls) .now
theorem Jq(Tc:pf X.K X.mg c xs)(hb:∀pn E',m6 (X.jE pn E') body (tZ (X.jE pn E') G))(hs:∀pn e,m6 (X.oq pn e) (wD::ou) (tZ (X.oq pn e) G2))(hN:X.N.Nodup)(hi:X.N[i]?=some n)(hl:X.env.scope.names.lookup n=some .local)
  (bH:X.stack=X.env::X.outer) (hf:X.env.frame=some X.env.locals) (hx:X.ex=[]) (Le:xu X n) (hg:Gl X c) (dZ:Db c):
  PS X (.Try body [.ExceptHandler (some (.Name c tp)) (some n) (wD::ou) hp] [] [] pos) (tZ X fun Y A=>Dv X.N.length i xs (G Y A) G2):=by
 intro U s Z H D I ⟨B0,H0,B,A,Y,Hm,g,ha,r,no,q⟩;have SV:=I.ok;refine wpAny_Try_except (cX (hb (X.pn++U) _ [] s Z H D I.jE ⟨B0,H0,B,A,Y,Hm,g,ha,r,no,?_⟩) (fun f s1 h1=>?_) fun e s1 z=>z)
 ·have q':gg (XE X B0 H0) (Dv X.N.length i xs (G Y A) G2) (yu X D B0 H0):=q;cases eG:G Y A with
  |bad=>rw[eG]at q';exact fe q'
  |ok o A1=>rw[eG]at q';cases o<;>exact q'
  |exc t A1=>
   rw[eG]at q';cases t with
   |str x=>
    obtain⟨Y8,q2⟩:=fZ q';intro B' H' g' kr e s1 xs1;obtain⟨a,Xg,h0,rfl,C⟩:=xs1.cau;refine MK C hx bH hf SV.frames fun s3 C3 T3=>?_
    refine wpAny_handleBy_cons (codeAny_handlers_test ?_) (by intro z;cases z);refine u7 SV.kind hg (Calls.loadGlobal_global (by rw[SV.glob];exact SV.mod.glob.keeps C3.inv.bk) Tc.mg ?_) dZ;refine PySem.W.exm_one C3.inv.kn C3.EK.VS (Tc.all x (by simpa using Y8)) _ _ _ s3 (fun _ _ z=>z) ?_
    refine codeAny_handlers_suite_as ?_
    refine GH C3 T3 hx fun s4 C4 T4=>?_
    refine hide fun P go=>?_
    obtain⟨oe4,hc4,he4,I4⟩:=C4.VQ hx;refine go ?_
    have frA:H' a=none:=C4.EK.fr;refine vB (X:=X.jE (X.pn++U) _) I4 hN hi (.inl hl) (v:=.ref a) rfl (fun s5 I5=>?_) Le;have g5:=kr.push (p:=a) (o:=.Ar x) frA (au.upd frA) ⟨o8,oe4,aU,hc4⟩;have b7:Xg.length=X.N.length:=C4.inv.len;have r5:bL X.K (n6 B' a A1.length) (upd H' a (.ext fun h=>h.get? a=some oe4)) (Xg.set i (some (.ref a))) ((List.replicate X.N.length Cell.no).set i (.sh (.at A1.length))):=by
     rw[<-b7];exact bL.none.set i (.at gs)
    have no5:fb ((List.replicate X.N.length Cell.no).set i (.sh (.at A1.length))):=fb.set (fun j ts z=>by
     rw[qK]at z;split at z<;>cases z) i _
    have key:gg (fun _ _=>False) (G2 ((List.replicate X.N.length Cell.no).set i (.sh (.at A1.length))) (A1++[.Ar x])) fun o A2=>match o with
      |.nx Y=>yu X D B0 H0 (.nx (Y.set i .no)) A2
      |.ret t=>yu X D B0 H0 (.ret t) A2
      |_=>False:=by
     cases e2:G2 ((List.replicate X.N.length Cell.no).set i (.sh (.at A1.length))) (A1++[.Ar x])with
     |bad=>simp only[e2]at q2;exact q2
     |exc c1 A2=>simp only[e2]at q2;exact q2
     |ok o A2=>
      simp only[e2]at q2;cases o<;>exact q2
    refine cX (hs (X.pn++U) (.ref a) [] s5 _ _ {nx:=fun xB H2=>D.nx (xB.set i none) H2,rt:=D.rt} I5.oq ⟨B0,H0,n6 B' a A1.length,A1++[.Ar x],_,Hm,g'.trans Hm g5.1,g5.2,r5,no5,?_⟩) (fun f s6 h6=>?_) fun _ _ z=>(show False from z).elim
    ·refine(key.imp fun _ _ z=>z.elim).mono fun o A2 z=>?_
     cases o with
     |nx iH=>exact fun xB B2 H2 g2 oh r2 n2=>z (xB.set i none) B2 H2 g2 oh (r2.unset n2 i) (n2.unset i)
     |ret t=>exact z
     |_=>exact z.elim
    ·cases f with
     |next=>
      obtain⟨Yd,H6,I6,q6⟩:=h6;exact yG (I6.Jp SV) hN hi hl fun s7 I7=>⟨_,H6,I7,q6⟩
     |ret u=>
      obtain⟨v,Yd,H6,I6,rv,q6⟩:=h6;exact yG (I6.Jp SV) hN hi hl fun s7 I7=>⟨v,_,H6,I7,rv,q6⟩
     |_=>obtain⟨_,_,_,z⟩:=h6;exact fe z
   |_=>exact fe q'
 ·cases f with
  |next=>exact ri h1.kD
  |_=>exact h1.kD
end
section
variable {f:Expr}{es:List Expr}{bh:Pos}{F G E:aQ->Ab->Rz Tr}{L:aQ->Ab->Rz (List Tr)}{keys:List (Option Expr)}{vals:List Expr}{P:aQ->Ab->Rz (List (Tr×Tr))}
structure Rj(X:Cx)(pos:Pos)(keys:List (Option Expr))(vals:List Expr)(P:aQ->Ab->Rz (List (Tr×Tr))):Prop where
 h:∃za,SE X pos keys vals za/\∀Z H Q,(∃B A Y,HA X.K B A H/\bL X.K B H Z Y/\fb Y/\gg (XE X B H) (P Y A) fun Qh A'=>∀Mg B' H',Grows B H B' H'->HA X.K B' A' H'->wb X.K (bq B' H') Mg Qh->Q Mg H')->vM za Z H Q
theorem Jr:Rj X pos [] [] fun _ A=>.ok [] A:=⟨[],Eh,fun Z H Q ⟨B,A,Y,ha,r,n,q⟩=>q [] B H .refl ha .nil⟩
def Ow(k:Rz Tr)(v:Ab->Rz Tr)(r:Ab->Rz (List (Tr×Tr))):Rz (List (Tr×Tr)):=k.bind fun x A=>(v A).bind fun y A=>(r A).bind fun ps A=>.ok ((x,y)::ps) A
theorem Js{k v:Expr}(hk:PE X k (tE X F))(hv:PE X v (tE X G))(hr:Rj X pos keys vals P):Rj X pos (some k::keys) (v::vals) fun Y A=>Ow (F Y A) (G Y) (P Y):=by
 obtain⟨za,h1,h2⟩:=hr.h;refine⟨_,AQ hk hv h1,fun Z H Q ⟨B,A,Y,ha,r,n,q⟩=>?_⟩;refine⟨B,A,Y,ha,r,n,(gg.bind q).mono fun x A1 qx u B1 H1 g1 lT r1=>⟨B1,A1,Y,lT,r.grow n g1,n,((gg.bind qx).imp fun c A' z=>z.grow ha.hb g1).mono fun y A2 qy w B2 H2 g2 oh r2=>h2 _ _ _ ⟨B2,A2,Y,oh,(r.grow n g1).grow n g2,n,((gg.bind qy).imp fun c A' z=>z.grow ha.hb (g1.trans ha.hb g2)).mono fun ps A3 qp Mg B3 H3 g3 Hn r3=>?_⟩⟩⟩;exact qp _ B3 H3 ((g1.trans ha.hb g2).trans ha.hb g3) Hn (.cons ((r1.same g2.jk).same g3.jk) (r2.same g3.jk) r3)
def isE(A:Ab)(i:Nat):Bool:=match A[i]? with
 |some (.bo [])=>true
 |_=>false
def VT(P:Ab->Rz (List (Tr×Tr)))(A:Ab):Rz Tr:=(P (A++[.bo []])).bind fun ps A2=>if ps.length<=15/\isE A2 A.length=true then(fy (wa ps) A2).bind fun aG A2=>.ok (.at A.length) (A2.set A.length (.bo (kA [] aG)))else .bad
theorem ML(h:Rj X pos keys vals P)(sV:keys.all (·.isSome)=true:=by rfl) (hl:keys.length=vals.length:=by rfl) (h0:keys.isEmpty=false:=by rfl) (LF:keys.length<=15:=by decide):PE X (.Dict keys vals pos) (tE X fun Y A=>VT (P Y) A):=by
 obtain⟨za,h1,h2⟩:=h.h;refine(Ei h1 sV hl (fun z=>by rw[z]at h0;cases h0) LF).weak fun Z H Q ⟨B,A,Y,ha,r,n,q⟩ p hp=>?_
 obtain⟨g1,lT⟩:=ha.push (p:=p) (o:=.bo []) hp (au.upd (o:=.dK []) hp) ⟨o8,[],aU,.nil⟩;have pM:(n6 B p A.length).ix p=some A.length:=gs;refine h2 Z _ _ ⟨_,_,Y,lT,r.grow n g1,n,((gg.bind q).imp fun c A' z=>z.grow ha.hb g1).mono fun Qh A2 qp Mg B2 H2 g2 oh r2=>?_⟩;obtain⟨⟨hz,he⟩,qp⟩:=fZ qp;have zF:=g2.jk.x _ _ pM;have hat:A2[A.length]?=some (.bo []):=by
  unfold isE at he;split at he
  ·assumption
  ·cases he
 obtain⟨hd,kv0,e0,rd0⟩:=(show qg X.K B2 H2 p (.bo [])from oh.get zF hat);have ek0:kv0=[]:=by
  have e:=rd0.keys;cases kv0 with
  |nil=>rfl
  |cons a b=>cases e
 subst ek0;cases ep:wa Qh with
 |ok aG=>
  rw[ep]at qp;obtain⟨kvs,VU,k1,e1,rd⟩:=yo (X:=X) (H0:=H2) (k:=fun z=>z=aG) r2 (by rw[ep];rfl);subst k1;refine⟨e0,kvs,e1,?_,?_⟩
  ·have e2:=cw List.length e1;rw[aC,r2.length]at e2;rw[<-e2];exact hz
  ·obtain⟨g4,h6⟩:=oh.write (o:=.bo (kA [] VU)) (u:=.dK (gS [] kvs)) zF ⟨hd,_,aU,by rw[hW hd];exact cU.merge rd cU.nil⟩;exact(show∀v B' H',Grows B H B' H'->HA X.K B' (A2.set A.length (.bo (kA [] VU))) H'->Rep X.K (bq B' H') v (.at A.length)->Q v H' from qp) (.ref p) B2 _ ((g1.trans ha.hb g2).trans ha.hb g4) h6 (.at zF)
 |_=>rw[ep]at qp;exact fe qp
end
section
variable {a b:Expr}{es:List Expr}{A:aQ->Rs Bool}{scope:Scope}{N':List Str}{ix:List (Option Nat)}{elt b8 tg:Expr}{ifs:List Expr}{T:pP}{W:aQ->Rs (List Tr)}
theorem Dw{Q:VK}(hT:iZ T)(q:tF X (fun Y=>qF ix T A F (W Y) Y) Z H Q):SF (tJ X W) ix (N4 X.K T) (N3 X.K A) (N2 X.K F) Z H (fun v H'=>jC X H' (Q v)):=by
 obtain⟨B,Y,hb,r,q⟩:=q;refine⟨B,Y,hb,r,q.bind.mono fun ts qt J H1 tf gt D hD=>?_⟩;by_cases hz:ts.length<=d7
 ·rw[ag hz]at qt;exact uO hT (uN ix Y) (tf.hb hb) gt hz ((tf.Ge r).comp ix (jA hD)) hD (Fi.bind qt) fun ys H' k s' rp=>by
   obtain⟨Hu,su,ru,ku⟩:=tf.Oh hb s';exact ku _ (k _ Hu su (ru rp) fun p e=>by cases e;exact .lst (tf.free hD) (ru rp))
 ·rw[ak hz]at qt;exact qt.elim
theorem Jt{px lB:Pos}(Lk:fS X N' ix scope)(hit:PI X tg b8 (tJ X W))(kO:LV X scope N' tg elt ifs T A F)(hT:iZ T)(hN:X.N.Nodup:=by assumption) (hc:X.calm=true:=by rfl) (hi:X.N[i]?=some x:=by rfl) (hx:Loc X.env.scope x:=by first|exact Or.inl rfl|exact Or.inr rfl)
  (F5:swapsWith (.ListComp elt [⟨tg,b8,ifs,0⟩] scope pos) (some (.Name x px)) lB.line X.env=pure true:=by rfl) (hs:isSet b8=false:=by rfl) (hf:xu X x:=by first|exact .inl rfl|exact .inr rfl|assumption):
  PS X (.Assign [.Name x px] (.ListComp elt [⟨tg,b8,ifs,0⟩] scope pos) lB) (tZ X fun Y A'=>xK i (wc (qF ix T A F (W (cz A' Y)) (cz A' Y)) A') Y):=
 (vS Lk hc hN hi hx hit kO.SJ F5 (fX hs) hf).SQ.weak fun D Z H ⟨B0,H0,B,A',Y,hb,g,ha,r,n,q⟩=>Dw (Q:=fun v H'=>D.nx (Z.set i (some v)) H') hT (qi (F:=fun Y=>qF ix T A F (W Y) Y) (og (F:=fun Y A'=>wc (qF ix T A F (W (cz A' Y)) (cz A' Y)) A') hb g ha r n q.bind fun t A2 v B' H' qt g' kr r' rv _=>qt _ B' H' g' kr (r'.set i rv) (n.set i t)))
end
section
variable {a b:Expr}{es:List Expr}{F:aQ->Ab->Rz Tr}{P:aQ->Ab->Rz Bool}{c n:Str}{tp hp:Pos}{xs:List Str}{body ou:List Stmt}{wD:Stmt}{G G2:aQ->Ab->Rz Out}
def Rk(r:Rz Tr):Rz Bool:=r.bind fun t A=>fy (ky t) A
theorem Rm(h:PE X a (tE X F))(he:lC a=true:=by rfl):PT X a (Of X fun Y A=>Rk (F Y A)):=
 (AF h (vX he)).weak fun Z H Q ⟨B,A,Y,ha,r,n,q⟩=>⟨B,A,Y,ha,r,n,q.bind.mono fun t A1 qt v B1 H1 g1 lT rv=>by
  obtain⟨b,h1,h2⟩:=vZ (rv.same dU) (n_ (X:=X) (H:=H1) qt);exact⟨b,h1,h2 B1 H1 g1 lT⟩⟩
def Rn(r:Rz Bool):Rz Bool:=r.bind fun b A=>.ok (!b) A
theorem eq_not(h:PT X a (Of X P)):PT X (.UnaryOp .Not a pos) (Of X fun Y A=>Rn (P Y A)):=
 (Hy h).weak fun Z H Q ⟨B,A,Y,ha,r,n,q⟩=>⟨B,A,Y,ha,r,n,q.bind⟩
variable {st:Stmt}
theorem VW:PE X a (tP X fun _=>.bad):=fun _ _ _ _ _ _ ⟨_,_,_,_,q⟩=>(show False from q).elim
theorem VX:PS X st (tS X fun _=>.bad):=fun _ _ _ _ _ _ ⟨_,_,_,_,_,_,_,q⟩=>(show False from q).elim
end
open PySem.W
structure zG(K:Frag)(D:Addr):Prop where
 ga:findIn K (.ref D) "__getattribute__"=some (some (.builtin "BaseException.__getattribute__"))
 gh:findIn K (.ref D) "__getattr__"=some none
 cl:findIn K (.ref D) "__class__"=some (some (.builtin "object.__class__"))
 ob:mroIn K D (.type "object")=some true
 be:mroIn K D (.type "BaseException")=some true
section
variable {prog:Program}{h:Heap}{g:Array GenState}{d:Drawn}{t:Nat}{os:OsState}{D:Addr}{o:Obj}{K:Frag}
theorem Ro{R:Result->Shared->Prop}{tp:Value}(G:zG K D)(X:K.In h)(hx:h.get? a=some o)(hc:o.cls=.ref D)(hq:R (.ok (.ret (.ref D))) ⟨h,g,d,t,os⟩):
  codeAny (model prog w) A (.call (.builtin "getset_descriptor.__get__") ⟨[.builtin "object.__class__",.ref a,tp],[]⟩) R ⟨h,g,d,t,os⟩:=by
 have hT5:(⟨h,g,d,t,os⟩:Shared).TypeIs (.builtin "object.__class__") "getset_descriptor":=vg;have L0:Looks (model prog w) h (typeOf (.ref a)) (.ref D):=hc▸(lp hx).andThen .now;have L1:Looks (model prog w) h (isSubtype (.ref D) (.type (".".intercalate ("object.__class__".cutAt '.').dropLast))) true:=by rw[show".".intercalate ("object.__class__".cutAt '.').dropLast="object" by decide+kernel];exact looks_mroIn X G.ob
 refine vj F.slot_gs_get.plain F.entry_gs_get (F.slot_gs_get.check _ _ _ _ _ _ _ _ hT5 (F.args_gs_get _ _ _) ?_)
 repeat(any_goals (first|assumption|(with_reducible refine L0.at ?_)|(with_reducible refine L1.at ?_)|wp_step))
 refine⟨Code.quiet_builtin _ (by decide+kernel),ee F.entry_object_class ?_⟩
 repeat(any_goals (first|assumption|(with_reducible refine L0.at ?_)|wp_step))
theorem Ju{tk:Tok}{Q:Fin->Shared->Prop}(G:zG K D)(X:K.In h)(hx:h.get? a=some o)(hc:o.cls=.ref D)(hq:Q (.done (.ret (.ref D))) ⟨h,g,d,t,os⟩):
  wpAny (model prog w) A (Builtin.«object.__getattribute__» ⟨[.ref a,.str "__class__" tk],[]⟩) Q E ⟨h,g,d,t,os⟩:=by
 have L0:Looks (model prog w) h (typeOf (.ref a)) (.ref D):=hc▸(lp hx).andThen .now;have L1:=rB (M:=model prog w) X G.cl;have hT5:(⟨h,g,d,t,os⟩:Shared).TypeIs (.builtin "object.__class__") "getset_descriptor":=vg;have f5:=vg;have f6:=F.slot_gs_get.lookup;have f7:=F.slot_gs_set.lookup
 repeat(any_goals (first|assumption|(with_reducible refine L0.at ?_)|(with_reducible refine L1.at ?_)|wp_step))
 refine Ro G X hx hc ?_
 repeat(any_goals (first|assumption|wp_step))
theorem Jv{M:Model}{Ox:Value}{Q:Unit->Shared->Prop}(G:zG K D)(X:K.In h)(hx:h.get? a=some o)(hc:o.cls=.ref D)(hq:Q () ⟨h,g,d,t,os⟩):wpAny M A (checkBuiltinCall "BaseException.__getattribute__" ⟨[.ref a,Ox],[]⟩) Q E ⟨h,g,d,t,os⟩:=by
 have L0:Looks M h (typeOf (.ref a)) (.ref D):=hc▸(lp hx).andThen .now;have L1:=looks_mroIn (M:=M) X G.be;have k1:builtinKind "BaseException.__getattribute__"=some .slot:=by decide+kernel
 have k2:splitId "BaseException.__getattribute__"=some ("BaseException","__getattribute__"):=by decide+kernel
 have ha:=F.args_bexc_ga (.ref a) Ox;simp only[checkBuiltinCall,k1,k2];refine af ?_
 unfold isInstance
 repeat(any_goals (first|assumption|(with_reducible refine L0.at ?_)|(with_reducible refine L1.at ?_)|wp_step))
theorem MM{tk:Tok}{R:Result->Shared->Prop}(G:zG K D)(X:K.In h)(hx:h.get? a=some o)(hc:o.cls=.ref D)(hq:R (.ok (.ret (.ref D))) ⟨h,g,d,t,os⟩):
  codeAny (model prog w) A (.call (.builtin "BaseException.__getattribute__") ⟨[.ref a,.str "__class__" tk],[]⟩) R ⟨h,g,d,t,os⟩:=
 vj (by decide+kernel) F.entry_bexc_ga (Jv G X hx hc (Ju G X hx hc hq))
theorem VY{tk:Tok}(FB:Slot "ValueError" "__getattribute__" "BaseException.__getattribute__")(G:zG K D)(X:K.In h)(hx:h.get? a=some o)(hc:o.cls=.ref D)(hq:Q (.ref D) ⟨h,g,d,t,os⟩):
  wpAny (model prog w) A (getAttrBy (.ref a) (.str "__class__" tk) false) Q E ⟨h,g,d,t,os⟩:=by
 have L0:Looks (model prog w) h (typeOf (.ref a)) (.ref D):=hc▸(lp hx).andThen .now;have L1:=rB (M:=model prog w) X G.ga;have L2:=rB (M:=model prog w) X G.gh;have f3:=FB.bind (.ref a);have k0:onTheHeap (Value.builtin "BaseException.__getattribute__")=false:=rfl;have k2:(Value.builtin "BaseException.__getattribute__"==Value.builtin "object.__getattribute__")=false:=by decide+kernel
 have k1:(onTheHeap (Value.ref D)&&Value.builtin "BaseException.__getattribute__"==Value.builtin "object.__getattribute__")=false:=by rw[k2];rfl
 repeat(any_goals (first|assumption|(with_reducible refine L0.at ?_)|(with_reducible refine L1.at ?_)|(with_reducible refine L2.at ?_)|wp_step))
 refine MM G X hx hc ?_
 repeat(any_goals (first|assumption|wp_step))
theorem MN{Q:Option Value->Shared->Prop}(FB:Slot "ValueError" "__getattribute__" "BaseException.__getattribute__")(G:zG K D)(X:K.In h)(hx:h.get? a=some o)(hc:o.cls=.ref D)(hq:Q (some (.ref D)) ⟨h,g,d,t+1,os⟩):
  wpAny (model prog w) A (getAttr? (.ref a) "__class__") Q E ⟨h,g,d,t,os⟩:=by
 unfold getAttr? getAttrBy?
 repeat(any_goals (first|assumption|with_reducible apply VY FB G X hx hc|wp_step))
theorem Jw(G:zG K D)(Ek:(clsIn K D).isSome=true):KitX K (.ref a) (.ref D) (fun h=>∃o,h.get? a=some o/\o.cls=.ref D) where
 ty:=fun M h X ⟨o,hx,hc⟩=>hc▸(lp hx).andThen .now
 it:=fun M h X _=>by
  unfold clsIn at Ek;split at Ek
  ·rename_i c' d' cd' Tg ho;intro A' Q' E' s' k q;unfold isType loadHead;exact af (wpAny_loadPart (k _ _ (X _ _ ho)) (ar q))
  ·cases Ek
 ne:=fun h tp dd bz n sl X Zf=>by
  refine Bool.eq_false_iff.mpr fun q=>?_
  have e:D=tp:=Value.ref.inj (dR.mp q);subst e;unfold clsIn at Ek;split at Ek
  ·rename_i c' d' cd' Tg ho;cases(X _ _ ho).symm.trans Zf
  ·cases Ek
 ca:=fun{prog w A E Q s} X ⟨o,hx,hc⟩ k=>by
  obtain⟨h,g,d,t,os⟩:=s;exact MN F.excAttr_ValueError.ga G X hx hc k
end
structure gO(K:Frag)(u:Value)(tab:List (Str×Bool)):Prop where
 all:∀x b,tab.lookup x=some b->kitOne K (.ref (clsAt K x)) u=some b/\zG K (clsAt K x)/\(clsIn K (clsAt K x)).isSome=true
def GI(tab:List (Str×Bool)):Tr->Rs Tr
 |.yf x=>match tab.lookup x with
  |some b=>.ok (.bl b)
  |none=>.bad
 |_=>.bad
section
variable {p2:Pos}{c:Str}{tab:List (Str×Bool)}{cv:V}{u:Value}
theorem BC(T:gO X.K u tab)(hu:∀u',RelV cv u'->u'=u):fj X (.builtin "isinstance") (fun xs H Q=>∃B y t,HB B H/\xs=[y,cv]/\Rep X.K (bq B H) y t/\Fi X H (GI tab t) fun t=>∀v H',au H H'->Rep X.K (bq B H') v t->Q v H'):=by
 intro U s Z H xs us Q I r ⟨B,y,t,hb,ex,ry,q⟩;subst ex;obtain⟨v,w',rfl,r1,r2⟩:=vals2 r;cases hu w' r2;cases ry with
 |@yf a oe x h hc=>
  cases r1;have q1:=q;unfold GI at q1;dsimp only at q1;cases eb:tab.lookup x with
  |none=>rw[eb]at q1;exact fe q1
  |some b=>
   rw[eb]at q1;obtain⟨k1,k2,k3⟩:=T.all x b eb;obtain⟨ho,_⟩:=(show ck X.prog X.w H s.heap a (.ext fun h=>h.get? a=some oe)from I.cj a _ (cZ h));exact dD (Jw k2 k3) I.kn ⟨oe,ho,hc⟩ k1 (fun z=>nomatch z) fun tk=>⟨.bl b,H,I.tok _,rfl,(show∀v H',au H H'->Rep X.K (bq B H') v (.bl b)->Q v H' from q1) _ H (au.refl H) (.bl b)⟩
 |_=>exact fe q
theorem BD(hv:PE X (.Name c p2) (tC cv))(he:PE X e (tP X F))(bH:isStar e=false):PA X [e,.Name c p2] (fun Z H Q=>∃B Y,HB B H/\bL X.K B H Z Y/\Fi X H (F Y) fun t=>∀v H',au H H'->Rep X.K (bq B H') v t->Q [v,cv] H'):=
 (j6 he (j6 hv p8 (aS _ _ rfl)) (aS _ _ bH)).weak fun Z H Q ⟨B,Y,hb,r,q⟩=>⟨B,Y,hb,r,q.mono fun t qt v H1 s1 rv=>qt v H1 s1 rv⟩
theorem Rp(T:gO X.K (.ref (clsAt X.K c)) tab)(hm:X.mg c=some (.ref (clsAt X.K c)))(hi:X.mg "isinstance"=none)(he:PE X e (tP X F))(hg:Gl X c:=by rfl) (Jx:Gl X "isinstance":=by rfl) (dZ:Db c:=by decide) (bH:aH [e,.Name c p2]=true:=by rfl):
  PE X (.Call (.Name "isinstance" p) [e,.Name c p2] [] pos) (tP X fun Y=>(F Y).bind (GI tab)):=
 (nP (BC (cv:=.ref (clsAt X.K c)) T fun u' z=>z) Jx hi rfl (BD (y4 (v:=.ref (clsAt X.K c)) hg hm rfl dZ) he (az bH).1) (by decide) (by decide) (aS _ _ (az bH).1) (bZ (az bH).2)).weak fun Z H Q ⟨B,Y,hb,r,q⟩=>⟨B,Y,hb,r,q.bind.mono fun t qt v H1 s1 rv=>⟨B,v,t,hb.same s1,rfl,rv,(qt.same s1).mono fun t k v H2 s2 r2=>k v H2 (s1.trans s2) r2⟩⟩
theorem Rq{n:String}(T:gO X.K (.type n) tab)(hm:X.mg c=none)(hi:X.mg "isinstance"=none)(he:PE X e (tP X F))(hv:bootBuiltins c=some (.type n):=by rfl) (hg:Gl X c:=by rfl) (hn:c≠"__name__":=by decide) (Jx:Gl X "isinstance":=by rfl) (dZ:Db c:=by decide) (bH:aH [e,.Name c p2]=true:=by rfl):
  PE X (.Call (.Name "isinstance" p) [e,.Name c p2] [] pos) (tP X fun Y=>(F Y).bind (GI tab)):=
 (nP (BC (cv:=.ty n) T fun u' z=>z) Jx hi rfl (BD (D5 (v:=.ty n) hg hm hv rfl hn dZ) he (az bH).1) (by decide) (by decide) (aS _ _ (az bH).1) (bZ (az bH).2)).weak fun Z H Q ⟨B,Y,hb,r,q⟩=>⟨B,Y,hb,r,q.bind.mono fun t qt v H1 s1 rv=>⟨B,v,t,hb.same s1,rfl,rv,(qt.same s1).mono fun t k v H2 s2 r2=>k v H2 (s1.trans s2) r2⟩⟩
end
def pS:List Tr->Option (List Int)
 |[]=>some []
 |.int i::ts=>(pS ts).map fun r=>i::r
 |_=>none
theorem yH{W:Vw}:∀{vs:List V} {ts:List Tr} {ns:List Int},aV K W vs ts->pS ts=some ns->vs=ns.map V.int
 |[],[],ns,_,e=>by cases e;rfl
 |[],_::_,_,h,_=>by cases h
 |v::vs,ts,ns,h,e=>by
  cases h with
  |cons h r=>
   cases h with
   |int i=>
    rename_i ts;have e':(pS ts).map (fun r=>i::r)=some ns:=e;cases q:pS ts with
    |none=>rw[q]at e';cases e'
    |some rs=>
     rw[q]at e';cases e';rw[yH r q];rfl
   |_=>cases e
def pT(ns:List Int):Int:=ns.getD (argBest (fun i j=>decide (ns.getD i 0>ns.getD j 0)) (ns.length - 1)) 0
def MO:List Tr->Rs Tr
 |[.lst ts]=>match pS ts with
  |some ns=>if 0<ns.length then .ok (.int (pT ns))else .bad
  |none=>.bad
 |[.int i,.int j]=>.ok (.int (if j>i then j else i))
 |_=>.bad
section
theorem GJ(hc:X.calm=true):fj X (.builtin "max") (fun xs H Q=>∃(a:Addr) (ns:List Int),xs=[.ref a]/\jZ X.K H a (ns.map V.int)/\0<ns.length/\Q (.int (pT ns)) H):=by
 intro U s Z H xs us Q I r h;obtain⟨a,ns,rfl,ha,fT,q⟩:=h;obtain⟨u,rfl,ru⟩:=vals1 r;cases(show u=Value.ref a from ru);obtain⟨bz,rv,pl,_⟩:=I.list ha;have b7:bz.length=ns.length:=by have e:=rv.length;rw[aC]at e;exact e.symm
 have Mq:∀(i:Nat) (v:Value),bz.toArray[i]?=some v->∃t,v=.int (ns.getD i 0) t:=fun i v hv=>by
  have HM:bz[i]?=some v:=by simpa using hv
  have hi:i<ns.length:=by rw[<-b7];exact(eR.mp HM).1
  obtain⟨u,hu,ru⟩:=rv.get (i:=i) (x:=V.int ns[i]) (by rw[bg,bb hi];rfl);rw[HM]at hu;cases hu;obtain⟨t,rfl⟩:=(show∃t,v=Value.int ns[i] t from ru);exact⟨t,by rw[dg,bb hi];rfl⟩
 have SW:=pl.isList;have fR:a<s.heap.objs.size:=by obtain⟨_,e,_⟩:=SW;exact aF e
 refine call_max_walk (k_ SW ?_);refine⟨_,_,_,_,_,_,_,rfl,Walks.list (A:=X.A.in1) (I.ok.hd hc) _ a (bc fR) bz.toArray,⟨⟨_,bE _ rfl,rfl,rfl⟩,SW.push _⟩,fun b hb=>?_,by simpa[b7]using fT,CmpOf.ints_gt (fun i=>ns.getD i 0) Mq,fun v h' tk hP hk=>?_⟩
 ·show b<(s.heap.push _).objs.size;rw[ik];rcases aE.mp hb with rfl|hb
  ·exact nq _
  ·rw[cF.mp hb];exact jX fR
 ·obtain⟨t,rfl⟩:=Mq _ v hP;have e:bz.toArray.size=ns.length:=by rw[b_];exact b7
  rw[e];refine⟨.int (pT ns),H,I.kept (t':=tk) fun b o e=>?_,⟨t,rfl⟩,q⟩;refine hk b o (fun hm=>?_) (aX _ e);rw[cF.mp hm]at e;exact absurd (aF e) (dm _)
theorem Jy{k:Tr->Prop}(q:Fi X H (MO ts) k):(∃us ns,ts=[.lst us]/\pS us=some ns/\0<ns.length/\k (.int (pT ns)))\/∃i j:Int,ts=[.int i,.int j]/\k (.int (if j>i then j else i)):=by
 unfold MO at q;split at q
 ·rename_i us;cases e:pS us with
  |none=>rw[e]at q;exact fe q
  |some ns=>
   rw[e]at q;obtain⟨h0,z⟩:=fY q;exact .inl ⟨us,ns,rfl,e,h0,z⟩
 ·exact .inr ⟨_,_,rfl,q⟩
 ·exact fe q
theorem VZ(hc:X.calm=true):j9 X (.builtin "max") MO:=by
 intro U s Z H xs us Q I rv ⟨B,ts,hb,r,q⟩;rcases Jy q with⟨C7,ns,rfl,e,h0,k⟩|⟨i,j,rfl,k⟩
 ·obtain⟨x,rfl,h⟩:=eM r;obtain⟨a,vs,rfl,h,rr⟩:=h.lst_inv;cases yH rr e;exact GJ hc U s Z H _ us Q I rv ⟨_,ns,rfl,.of (cZ h),h0,k _ H (au.refl H) (.int _)⟩
 ·obtain⟨x,y,e,h1,h2⟩:=yh r;exact FY hc U s Z H _ us Q I rv ⟨i,j,by rw[e,h1.int_inv,h2.int_inv],k _ H (au.refl H) (.int _)⟩
variable {l:Expr}{p1 p2 My Mz:Pos}
theorem BE{t:Tr}{k:Tr->Prop}(q:Fi X H (jD t) k):∃ts ss,t=.lst ts/\oo ts=some ss/\ss.length<64/\k (.lst ((cB (eN [] ss)).map .str)):=by
 unfold jD at q;split at q
 ·rename_i ts;cases e:oo ts with
  |none=>rw[e]at q;exact fe q
  |some ss=>
   rw[e]at q;obtain⟨h0,z⟩:=fY q;exact⟨ts,ss,rfl,e,h0,z⟩
 ·exact fe q
theorem wF:∀(xs ss:List Str),(eN ss xs).length<=ss.length+xs.length
 |[],ss=>aN _
 |x::xs,ss=>by
  have h1:=wF xs (iJ ss x);have h2:=wo ss x;show(eN (iJ ss x) xs).length<=_;rw[cG];omega
theorem Dx{ss:List Str}{z:Str}(h:z∈iJ ss x):z∈ss\/z=x:=by
 unfold iJ at h;split at h
 ·exact .inl h
 ·rcases dC.mp h with h|h
  ·exact .inl h
  ·exact .inr (cF.mp h)
theorem wG:∀{xs ss:List Str} {z:Str},z∈eN ss xs->z∈ss\/z∈xs
 |[],ss,z,h=>.inl h
 |x::xs,ss,z,h=>by
  rcases wG (xs:=xs) (ss:=iJ ss x) h with h|h
  ·rcases Dx h with h|h
   ·exact .inl h
   ·exact .inr (aE.mpr (.inl h))
  ·exact .inr (bI _ h)
theorem Rr(hs:X.mg "sorted"=none)(hm:X.mg "set"=none)(hl:PE X l (tP X F))(hc:X.calm=true:=by rfl) (hg:Gl X "sorted":=by rfl) (Jx:Gl X "set":=by rfl) (bH:aH [l]=true:=by rfl):
  PE X (.Call (.Name "sorted" p1) [.Call (.Name "set" p2) [l] [] Mz] [] My) (tP X fun Y=>(F Y).bind jD):=
 (nP (wt hc) hg hs rfl (j6 (sY (Gv hc) Jx hm rfl (j6 hl p8 (aS _ _ (az bH).1)) (by decide) (by decide) (aS _ _ (az bH).1) (bZ (az bH).2)) p8 (aS _ _ rfl)) (by decide) (by decide) (aS _ _ rfl) (bZ (es:=[]) rfl)).weak fun Z H Q ⟨B,Y,hb,r,q⟩=>⟨B,Y,hb,r,q.bind.mono fun t qt v H1 s1 rv=>by
  obtain⟨ts,ss,rfl,e1,Dl,k⟩:=BE qt;cases rv with
  |lst h rr=>
   obtain⟨rfl,hs⟩:=tM rr e1;refine⟨_,ss,rfl,.of (cZ h),?_,fun a ha=>⟨a,eN [] ss,rfl,aU,?_,fun D hD=>?_⟩⟩
   ·have:scanBound=9007199254740992\/ss.length+1<scanBound:=by
     right;show ss.length+1<scanBound;have LH:65<scanBound:=by decide
     omega
    rcases this with h|h
    ·omega
    ·exact h
   ·have:=wF ss [];simp at this;omega
   ·have s2:au H1 (upd H1 a (Gs X.w a (eN [] ss))):=au.upd ha;have s3:au (upd H1 a (Gs X.w a (eN [] ss))) (upd (upd H1 a (Gs X.w a (eN [] ss))) D (.lst ((cB (eN [] ss)).map V.str))):=au.upd hD;exact k _ _ ((s1.trans s2).trans s3) (.zh ((hb.same s1).same s2) hD (wA fun z hz=>hs z ((wG hz).resolve_left (by simp))))⟩
end
section
variable {bh:Pos}{F G:aQ->Ab->Rz Tr}
def ZH:V->List V->Hp->VK->Prop:=fun x xs H Q=>∃a b kvs more,x=.ref a/\xs=[.ref b]/\a≠b/\H a=some (.dK kvs)/\Rd H b (.dK more)/\kvs.length+more.length<=sizeLine/\Q .bK (upd H a (.dK (gS kvs more)))
theorem GK:Pf X "dict.update" ZH:=by
 intro U s Z H x xs v us Q I rx rv ⟨a,b,kvs,more,e1,e2,C6,ha,hb,hz,q⟩;subst e1 e2;obtain⟨u,rfl,ru⟩:=vals1 rv;cases rx;cases(show u=Value.ref b from ru);obtain⟨z1,s1,vs1,r1,d1⟩:=(show ck X.prog X.w H s.heap a (.dK kvs)from I.cj a _ ha);obtain⟨z2,s2,Y1,r2,d2⟩:=(show ck X.prog X.w H s.heap b (.dK more)from hb.ok I.cj);refine il PySem.F.slot_dict_update d1.typeIs PySem.F.entry_dict_update (PySem.F.args_dict_update_2 _ _) (meets_dict_update (bx X.prog X.w) a b C6 s2) ⟨vs1,Y1,d1,d2,by rw[<-KV.length r1,<-KV.length r2];exact hz,fun h' d1' _ hs=>?_⟩;have he:∃q,h'.get? a=some q:=let⟨q,_,_,hq,_⟩:=d1';⟨q,hq⟩
 have hl:(gS kvs more).length<=sizeLine:=bJ (by have:=hU more kvs;omega) hz;exact⟨.bK,_,rX I (by rw[ha];exact True.intro) hs he (vL hl s1 (r2.merge r1) d1'),rfl,q⟩
def V0(o:Rz Tr)(k:Ab->Rz Tr):Rz Tr:=o.bind fun t A=>match t with
 |.at i=>if lI A i=true then(k A).bind fun tk A=>match tk with
  |.bo C9=>if lI A i=true/\(mZ A i).length+C9.length<=d7 then .ok .bK (A.set i (.bo (kA (mZ A i) C9)))else .bad
  |_=>.bad
  else .bad
 |_=>.bad
theorem V1(ho:PE X o (tE X F))(he:PE X e (tE X G))(hb:isCall o=false:=by rfl) (bH:aH [e]=true:=by rfl) (hl:(b6.endLine==bh.line)=true:=by rfl):PE X (.Call (.Attribute o "update" b6) [e] [] bh) (tE X fun Y A=>V0 (F Y A) (G Y)):=
 (Ed oW PySem.F.slot_dict_update PySem.F.type_dict_update GK ho (EM he IL (az bH).1) (e_ hb) (by rw[ir bH];rfl) hl (aS _ _ (az bH).1) (bZ (az bH).2)).weak fun Z H Q ⟨B,A,Y,ha,r,n,q⟩=>⟨B,A,Y,ha,r,n,q.bind.mono fun t A1 qt v B1 H1 g1 lT rv=>by
  split at qt
  ·obtain⟨a,rfl,pM⟩:=rv.me;rename_i i;obtain⟨hd,q2⟩:=fZ qt;obtain⟨aG,kvs,e1,e2,e3,e4⟩:=pd lT pM hd;refine⟨.inr (.inr (.inl ⟨rfl,.inl ⟨_,e3⟩⟩)),B1,A1,Y,lT,r.grow n g1,n,?_⟩;have q3:=(gg.bind q2).imp (fun c A' (z:XE X B H c A')=>z.grow ha.hb g1);have step:gg (XE X B1 H1) (EL (G Y A1) fun A=>.ok [] A) (fun ts A2=>∃tk,ts=[tk]/\gg (XE X B H) (match tk with
     |.bo C9=>if lI A2 i=true/\(mZ A2 i).length+C9.length<=d7 then .ok .bK (A2.set i (.bo (kA (mZ A2 i) C9)))else .bad
     |_=>.bad) fun t A'=>∀v B' H',Grows B H B' H'->HA X.K B' A' H'->Rep X.K (bq B' H') v t->Q v H'):=by
    cases eg:G Y A1 with
    |ok x A2=>rw[eg]at q3;exact⟨x,rfl,q3⟩
    |_=>rw[eg]at q3;exact q3
   refine step.mono fun ts A2 ⟨tk,et,qk⟩ vs B2 H2 g2 oh rs=>?_
   subst et;obtain⟨y,rfl,ry⟩:=eM rs;have zF:=g2.jk.x _ _ pM;split at qk
   ·obtain⟨b,ZI,rfl,hm,em,rm⟩:=ry.md;rename_i C9 _;obtain⟨⟨hd2,hz⟩,q4⟩:=fZ qk;obtain⟨Rf,Jn,f1,f2,f3,f4⟩:=pd oh zF hd2;rw[zE f1]at hz q4;have C6:a≠b:=fun z=>by
     have n:(bq B2 H2).H a=none:=by show(if B2.hd a=true then none else H2 a)=none;rw[ag f2]
     rw[<-z]at hm;rcases hm with h|⟨o,h⟩<;>(rw[n]at h;cases h)
    have b7:ZI.length=C9.length:=by have:=cw List.length em;rw[aC,aC]at this;exact this
    obtain⟨g4,h6⟩:=oh.write (o:=.bo (kA Rf C9)) (u:=.dK (gS Jn ZI)) zF ⟨f2,_,aU,by rw[hW f2];exact cU.merge ⟨em,rm⟩ f4⟩;exact⟨a,b,Jn,ZI,rfl,rfl,C6,f3,hm.same aT,by rw[f4.length,b7,<-iI];exact hz,q4 .bK B2 _ ((g1.trans ha.hb g2).trans ha.hb g4) h6 .bK⟩
   ·exact qk.elim
  ·exact qt.elim⟩
end
def Itk(ks:List Str):It:=⟨fun i _=>i<ks.length,fun i H x H'=>H'=H/\∃z,ks[i]?=some z/\x=.str z,fun i _=>ks.length<=i⟩
theorem Dy{tg:Expr}(a it:Addr)(kvs:List (Str×Value))(o:Obj)(es:Array DictEntry)(ep:Nat)(lk:K.lookup a=some o)(ex:o.ExactDict)(hd:o.data=.dict es ep)(hk:KeysOf (PySem.strKind P w) es/\Pairs (PySem.strKind P w) es.toList kvs/\(kvs.map (·.1)).Nodup):Turn P w K tg (Itk (kvs.map (·.1))) [it] it (fun i h=>h.IsKeyIter it a i kvs.length ep) where
 mem:=by simp
 obj:=fun i h st b hb=>by
  have e:b=it:=by simpa using hb
  subst e;obtain⟨o,e,c,d⟩:=st;exact⟨o,e,fun v z=>by rw[d]at z;cases z⟩
 keep:=fun i h h' st k=>by
  obtain⟨o,e,c⟩:=st;exact⟨o,k it (by simp) o e,c⟩
 item:=by
  intro X hP hw hK hc i U s Z H E I hf st hg;subst hP hw hK;have hi:i<kvs.length:=by have q:i<(kvs.map (·.1)).length:=hg;rw[aC]at q;exact q
  have ho:s.heap.get? a=some o:=I.kn a o lk;obtain⟨f0,f1,f2,f3,f4,f5⟩:=hf it (by simp);have ex1:kvs[i]?=some (kvs[i].1,kvs[i].2):=by simp[hi]
  refine wpAny_pyNext_dict_item (knd:=PySem.strKind X.prog X.w) st ⟨o,es,ho,ex,hd,hk⟩ ex1 fun key h' hk1 vD sb=>?_
  have I1:Inv X U Z H {s with heap:=h'}:=I.turned (t':=s.toks) (fun b o hb e=>(sb.2 b hb).trans e) f0 f1 f3 f4 f5;obtain⟨oi,e,c,d⟩:=id vD;refine⟨key,rfl,x6 (s:={s with heap:=h'}) e c d (by decide) ⟨.str kvs[i].1,H,I1,?_,⟨rfl,kvs[i].1,by rw[bg,ex1];rfl,rfl⟩,vD,fun b hb=>(hf b hb).1⟩⟩;exact tL (k:=.inr kvs[i].1) hk1
 done:=by
  intro X hP hw hK hc i U s Z H E I hf st hg;subst hP hw hK;have hi:kvs.length<=i:=by have q:(kvs.map (·.1)).length<=i:=hg;rw[aC]at q;exact q
  have ho:s.heap.get? a=some o:=I.kn a o lk;obtain⟨f0,f1,f2,f3,f4,f5⟩:=hf it (by simp);exact wpAny_pyNext_dict_end (knd:=PySem.strKind X.prog X.w) (I.ok.hd hc) st ⟨o,es,ho,ex,hd,hk⟩ (List.getElem?_eq_none hi) fun h' eb=>⟨rfl,I.turned (t':=s.toks) (fun b o hb e=>eb b o hb e) f0 f1 f3 f4 f5⟩
 self:=fun _ _ _ _ _ st h=>wpAny_pyIter_keyiter st h
def zH(K:Frag)(w:World)(mg:Str->Option Value)(x:Str)(ks:List Str):Prop:=∃a kvs,mg x=some (.ref a)/\AV K w a kvs/\kvs.map (·.1)=ks/\∀z∈ks,z.length<=bV
section
variable {tg:Expr}
theorem Rt{ks:List Str}(T:zH X.K X.w X.mg x ks)(hg:Gl X x:=by rfl) (dZ:Db x:=by decide):PI X tg (.Name x p) (tI X fun _=>.ok (ks.map .str)):=by
 obtain⟨a,kvs,hm,⟨hs,o,es,ep,lk,ex,hd,hk⟩,rfl,hz⟩:=T;intro U s Z H R I ⟨B,Y,hb,r,q⟩;refine oY I hg hm ?_ dZ
 have ho:s.heap.get? a=some o:=I.kn a o lk;refine wpAny_pyIter_dict (knd:=PySem.strKind X.prog X.w) hs ⟨o,es,ho,ex,hd,hk X.prog⟩ ?_
 refine⟨s.heap.objs.size,[s.heap.objs.size],_,Itk (kvs.map (·.1)),H,rfl,I.kept (t':=s.toks) fun b o e=>aX _ e,Dy a _ kvs o es ep lk ex hd (hk X.prog),⟨_,bE _ rfl,rfl,rfl⟩,fun b hb=>?_,?_⟩
 ·have e:b=s.heap.objs.size:=by simpa using hb
  subst e;exact I.vC (aN _) (I.cj.fresh (aN _))
 ·refine(show∀J H',au H H'->lD X.K B J H' ((kvs.map (·.1)).map .str)->R J H' from q) _ H (au.refl H) ⟨fun i B' H' hi _ _=>?_,fun i B' H' y K3 hi s2 Mp ⟨eh,z,ez,ey⟩=>?_,fun B' H' _=>?_⟩
  ·have e:i<((kvs.map (·.1)).map Tr.str).length:=hi;rw[aC]at e;exact e
  ·subst eh ey;exact⟨au.refl _,.str z,by rw[bg,ez];rfl,.str z (hz z (cV ez))⟩
  ·show(kvs.map (·.1)).length<=((kvs.map (·.1)).map Tr.str).length;rw[aC (f:=Tr.str)];exact aN _
end
def zI:Heap:={}
theorem oz(b:Addr):zI.get? b=none:=by
 cases e:zI.get? b with
 |none=>rfl
 |some o=>exact absurd (aF e) (vp _)
def Dz(h:Heap)(L:Addr):List (Addr×Obj):=(List.range h.objs.size).filterMap fun b=>if b=L then none else(h.get? b).map fun o=>(b,o)
theorem DA{h:Heap}{L b:Addr}{o:Obj}:(b,o)∈Dz h L↔b≠L/\h.get? b=some o:=by
 unfold Dz;rw[jW];constructor
 ·rintro ⟨c,_,e⟩
  by_cases z:c=L
  ·rw[ag z]at e;cases e
  ·rw[ak z]at e;cases q:h.get? c with
   |none=>rw[q]at e;cases e
   |some u=>rw[q]at e;cases e;exact⟨z,q⟩
 ·rintro ⟨n,e⟩
  exact⟨b,rh.mpr (aF e),by rw[ak n,e];rfl⟩
section
theorem Inv.Jz {m:Str->Option Value}{h':Heap}{tk:Nat}(I:Inv X U Z H s)(hn0:s.heap.Ns X.env.locals m)(hn:h'.Ns X.env.locals m)(kp:∀b o,b≠X.env.locals->s.heap.get? b=some o->h'.get? b=some o):Inv X U Z H {s with heap:=h',toks:=tk}:=by
 obtain⟨m0,hm0,hl⟩:=id I.loc;have FQ:=I.FQ;have lo:∀{b:Addr} {o:Obj},X.eZ.heap.get? b=some o->b≠X.env.locals:=fun{b o} e=>bc (cn (aF e) I.ok.above);have em:m0=m:=by
  obtain⟨o1,uB,ep1,a1,b1,_,d1⟩:=hm0;obtain⟨o2,Za,ep2,a2,b2,_,d2⟩:=hn0;rw[a1]at a2;cases a2;rw[b1]at b2;cases b2;funext x;rw[<-d1 x,<-d2 x]
 subst em;refine⟨I.ok,I.os,I.bare,⟨fun b o e n hb hx=>kp b o (lo e) (I.base.keep b o e n hb hx),fun b o e n hb hx=>?_,I.base.free,fun b o e hx=>?_,I.base.jy,I.base.jP,I.base.l9⟩,⟨m0,hn,fun j y v' e1 e2 e3=>?_⟩,fun y c e=>?_,I.free,I.eK,fun p hp=>?_,fun b u e=>?_,I.len⟩
 ·obtain⟨sl,e1⟩:=I.base.slot b o e n hb hx;exact⟨sl,kp b _ (lo e) e1⟩
 ·obtain⟨o',e1⟩:=I.base.there b o e hx;exact⟨o',kp b o' (lo e) e1⟩
 ·obtain⟨u',r',q⟩:=hl j y v' e1 e2 e3;refine⟨u',r',?_⟩;rcases q with⟨k,e⟩|⟨k,c,e,z⟩
  ·exact .inl ⟨k,e⟩
  ·obtain⟨oc,e5,e6⟩:=id z;exact .inr ⟨k,c,e,oc,kp c oc (FQ y c e) e5,e6⟩
 ·obtain⟨w',z⟩:=I.cell y c e;obtain⟨oc,e5,e6⟩:=id z;exact⟨w',oc,kp c oc (FQ y c e) e5,e6⟩
 ·obtain⟨e,n,ne,nf,d⟩:=I.pin p hp;exact⟨kp p.1 p.2 ne e,n,ne,nf,d⟩
 ·refine(I.cj b u e).nM (fun c w' hc q=>kp c w' ?_ q) (fun _ q=>q) fun _ _ q=>q
  rintro rfl
  rcases hc with rfl|hc
  ·rw[I.free]at e;cases e
  ·rw[I.free]at hc;cases hc
end
def yI:List Tr->Rs Tr
 |[.bo aG]=>.ok (.int aG.length)
 |ts=>Mc ts
theorem gV:j9 X (.builtin "len") yI:=by
 intro U s Z H xs us Q I rv ⟨B,ts,hb,r,q⟩;by_cases z:∃aG,ts=[.bo aG]
 ·obtain⟨aG,rfl⟩:=z;cases r with
  |cons h r=>
   cases r;cases h with
   |@bo a kvs _ h ek rr=>
    obtain⟨u,rfl,ru⟩:=vals1 rv;cases ru;have hl:kvs.length=aG.length:=by have:=cw List.length ek;rw[aC,aC]at this;exact this
    exact TZ I (h.same aT) fun t s' I'=>⟨.int kvs.length,H,I',⟨t,rfl⟩,(show∀v H',au H H'->Rep X.K (bq B H') v (.int aG.length)->Q v H' from q) _ H (au.refl H) (by rw[hl];exact .int _)⟩
 ·have e:yI ts=Mc ts:=by
   unfold yI;split
   ·exact absurd ⟨_,rfl⟩ z
   ·rfl
  rw[e]at q;exact UM U s Z H xs us Q I rv ⟨B,ts,hb,r,q⟩
theorem GL:typeLookup (.type "list") "keys"=pure none:=by rw[typeLookup_type,vf];kernel_rfl
section
variable {prog:Program}{xs:Array Value}{k:Nat}{sl:Array (Option Value)}
theorem DB{Q:Option Value->Shared->Prop}(hx:s.heap.get? a=some {cls:=.type "list",dict:=none,data:=.seq xs k,slots:=sl}) (hA:A.handled=none)
  (h:∀h' tk,(∀b o,s.heap.get? b=some o->h'.get? b=some o)->Q none {s with heap:=h',toks:=tk}):wpAny (model prog w) A (getAttr? (.ref a) "keys") Q E s:=by
 obtain⟨hp,g,d,tk,os⟩:=s;have hT:∀uE,(⟨hp,g,d,uE,os⟩:Shared).TypeIs (.ref a) "list":=fun _=>⟨_,hx,rfl⟩;have f1:=sub_AttributeError;have f3:=vd.lookup;have f4:=vd.bind (.ref a);have f5:=am_list_getattr_none;unfold getAttr? getAttrBy? getAttrBy
 repeat(any_goals (first|assumption|exact hT _|((with_reducible show wpAny _ _ (call (Value.builtin "list.__getattribute__") _ _) _ _ _);refine jx vd (hT _) am_entry_list_getattribute (F.args_list_getattribute_2 _ _) (meets_getattribute_miss_list a xs k sl "keys" _ GL (by decide+kernel) (by size_fits)) ⟨hx,hA,fun h' uE e XC=>?_⟩)|wp_step))
 obtain⟨t',u',he⟩:=XC.there;have hTe:∀uE,(⟨h',g,d,uE,os⟩:Shared).TypeIs (.ref e) "AttributeError":=fun _=>⟨_,he,rfl⟩;show wpAny _ _ (getattributeRaised _ _ _ _ _ _ _) _ _ _;unfold getattributeRaised
 repeat(any_goals (first|assumption|exact hTe _|wp_step))
 exact h h' uE XC.of.keeps
theorem yJ:entryFor table "dict.update.loop"=some Builtin.«dict.update.loop»:=entryFor_of_tree (by kernel_rfl)
theorem ph:plainId "dict.update.loop"=true:=by decide+kernel
theorem JA{h0:Heap}{l d I:Addr}{a8:List Value}{pairs:List (Key×Value)}{R:Result->Shared->Prop}(hh:A.handled=none)(hl:h0.IsList l a8.toArray)(b7:a8.length=pairs.length)(hp:∀(j:Nat) (t:Value),a8[j]?=some t->∃ad key k v,t=.ref ad/\h0.IsTuple ad #[key,v]/\lr k key=true/\pairs[j]?=some (k,v))
  (Vy:h0.get? d=none) (hI0:h0.get? I=none) (ZJ:d≠I) (hz:pairs.length<=100000)
  (hR:∀h' uE,(∀b o,h0.get? b=some o->h'.get? b=some o)->h'.DictOf (bx prog w) d (merged [] pairs)->R (.ok (.ret .none)) {s with heap:=h',toks:=uE}):
  ∀(r i:Nat) (h:Heap) (tk:Nat) (kvs:List (Key×Value)),pairs.length - i=r->i<=pairs.length->kvs.length<=i->merged kvs (pairs.drop i)=merged [] pairs->(∀b o,h0.get? b=some o->h.get? b=some o)->h.IsListIter I l i->h.DictOf (bx prog w) d kvs->
   codeAny (model prog w) A (.builtin "dict.update.loop" ⟨[.ref d,.ref I,rawInt i,.none],[]⟩) R {s with heap:=h,toks:=tk}:=by
 have lof:∀{h:Heap},(∀b o,h0.get? b=some o->h.get? b=some o)->h.IsList l a8.toArray:=fun{h} k=>by obtain⟨o,e,x⟩:=hl;exact⟨o,k _ _ e,x⟩
 have nd:∀{b:Addr} {o:Obj},h0.get? b=some o->b≠d:=fun{b o} e z=>by rw[z,Vy]at e;cases e
 have nI:∀{b:Addr} {o:Obj},h0.get? b=some o->b≠I:=fun{b o} e z=>by rw[z,hI0]at e;cases e
 intro r
 induction r with
 |zero=>
  intro i h tk kvs hr hi hk hm kp it dd;have e:i=pairs.length:=by omega
  subst e;refine ee yJ ?_
  rw[fD ph _];show wpAny _ A.in1 (pyNext (.ref I)>>=_) _ _ _;refine af (wpAny_pyNext_list_end hh it (lof kp) (by simp[b7]) fun h' eb=>?_);rw[ra]at hm;have Eg:h'.DictOf (bx prog w) d kvs:=by
   obtain⟨o,es,ep,e,x⟩:=dd;exact⟨o,es,ep,eb d o ZJ e,x⟩
  show wpAny _ A.in1 (Builtin.Dict.addKeywords d []>>=_) _ _ _;refine af (ar (ar ?_));exact hR h' tk (fun b o e=>eb b o (nI e) (kp b o e)) (by rw[<-hm];exact Eg)
 |succ r ih=>
  intro i h tk kvs hr hi hk hm kp it dd;have fR:i<pairs.length:=by omega
  have Zj:i<a8.length:=by omega
  obtain⟨ad,key,k,v,et,tp,HL,ep⟩:=hp i a8[i] (by simp[Zj]);have Hx:pairs[i]=(k,v):=by rw[bb fR]at ep;exact Option.some.inj ep
  refine ee yJ ?_
  rw[fD ph _];show wpAny _ A.in1 (pyNext (.ref I)>>=_) _ _ _;refine af (wpAny_pyNext_list_item it (lof kp) (x:=.ref ad) (by simp[Zj,et]) fun h' it' sb=>?_);have ZK:∀b o,h0.get? b=some o->h'.get? b=some o:=fun b o e=>(sb.2 b (nI e)).trans (kp b o e);have Eg:h'.DictOf (bx prog w) d kvs:=by
   obtain⟨o,es,ep,e,x⟩:=dd;exact⟨o,es,ep,(sb.2 d ZJ).trans e,x⟩
  obtain⟨ot,e1,e2,n,e3⟩:=tp;have hT:Shared.TypeIs {s with heap:=h',toks:=tk} (.ref ad) "tuple":=⟨ot,ZK _ _ e1,e2⟩;refine af ?_
  refine dO ?_
  refine af (jv ?_);unfold Builtin.Dict.pairItems;refine af (rE hT ?_);rw[ag (by decide)];refine af (fI (ZK _ _ e1) e3 ?_);refine ar ?_
  show wpAny _ A.in1 (holding [key,v] (dictSet d key v)) _ _ _;refine dO (wpAny_dictSet_pairs (knd:=bx prog w) (hsz:=by rw[cR];omega) HL Eg fun h2 Sw sb2=>?_);show wpAny _ A.in1 (pure _) _ _ _;refine ar ⟨fJ ph _,?_⟩;have hc:rawInt ((i:Int)+1)=rawInt ((i+1:Nat):Int):=by push_cast;rfl
  rw[hc];refine ih (i+1) h2 _ (stored kvs k v) (by omega) fR ?_ ?_ (fun b o e=>(sb2.2 b (nd e)).trans (ZK b o e)) ?_ Sw
  ·exact bJ (stored_length_le kvs k v) (by omega)
  ·rw[qH fR,Hx]at hm;exact hm
  ·obtain⟨o,e,x⟩:=it';exact⟨o,(sb2.2 I (Ne.symm ZJ)).trans e,x⟩
theorem DC{l:Addr}{a8:List Value}{pairs:List (Key×Value)}{k0:Nat}{sl0:Array (Option Value)}(hh:A.handled=none)(hx:s.heap.get? l=some {cls:=.type "list",dict:=none,data:=.seq a8.toArray k0,slots:=sl0}) (b7:a8.length=pairs.length)
  (hp:∀(j:Nat) (t:Value),a8[j]?=some t->∃ad key k v,t=.ref ad/\s.heap.IsTuple ad #[key,v]/\lr k key=true/\pairs[j]?=some (k,v)) (hz:pairs.length<=100000)
  (h:∀h' uE,(∀b o,s.heap.get? b=some o->h'.get? b=some o)->h'.DictOf (bx prog w) s.heap.objs.size (merged [] pairs)->Q (.ref s.heap.objs.size) {s with heap:=h',toks:=uE}):
  wpAny (model prog w) A (call (.type "dict") [.ref l]) Q E s:=by
 refine callType_codes (Q₁:=fun obj cy=>obj=.ref s.heap.objs.size/\cy={s with heap:=s.heap.push {cls:=.type "dict",data:=.dict #[]}}) F.kt_called_dict (F.kt_typeCall_dict_1 _) F.entry_dict_init (kt_code_dict_new _ ⟨rfl,rfl⟩) ?_
 rintro obj cy ⟨rfl,rfl⟩
 have HY:(s.heap.push {cls:=.type "dict",data:=.dict #[]}).DictOf (bx prog w) s.heap.objs.size []:=Heap.DictOf.new s.heap;have hx1:=aX {cls:=.type "dict",data:=.dict #[]} hx;have hT:Shared.TypeIs {s with heap:=s.heap.push {cls:=.type "dict",data:=.dict #[]}} (.ref l) "list":=⟨_,hx1,rfl⟩;refine⟨HY.typeIs,F.args_dict_init_2 _ _,?_⟩;unfold Builtin.«dict.__init__»;refine af ?_
 unfold Builtin.Dict.selfAndRest;refine af (wpAny_notOrdered_dict HY.typeIs ?_);show wpAny _ _ (pure (s.heap.objs.size,[Value.ref l])) _ _ _;refine ar ?_
 show wpAny _ _ (Builtin.Dict.updateFrom "dict.__init__" s.heap.objs.size (.ref l) [] .none) _ _ _;unfold Builtin.Dict.updateFrom;refine af (rE hT ?_);rw[ag (by decide)];refine af (DB hx1 hh fun h1 tk1 k1=>?_);rw[ag (show(none:Option Value).isNone=true from rfl)];have k2:∀b o,s.heap.get? b=some o->h1.get? b=some o:=fun b o e=>k1 b o (aX _ e);have Vz:h1.get? s.heap.objs.size=some {cls:=.type "dict",data:=.dict #[]}:=k1 _ _ (bE _ rfl);have dd1:h1.DictOf (bx prog w) s.heap.objs.size []:=by
  obtain⟨o,es,ep,e,x⟩:=HY;exact⟨o,es,ep,k1 _ _ e,x⟩
 have fR:s.heap.objs.size<h1.objs.size:=aF Vz;have hl:s.heap.IsList l a8.toArray:=⟨_,hx,rfl,_,rfl⟩;refine af (dY ?_);refine af (k_ (show h1.IsList l a8.toArray from⟨_,k2 _ _ hx,rfl,_,rfl⟩) ?_);refine ar ⟨fJ ph _,?_⟩;refine JA (s:=s) (h0:=s.heap) (A:=A.in1) hh hl b7 hp (by
   cases e:s.heap.get? s.heap.objs.size with
   |none=>rfl
   |some o=>exact absurd (aF e) (dm _)) (by
   cases e:s.heap.get? h1.objs.size with
   |none=>rfl
   |some o=>exact absurd (aF (k2 _ _ e)) (dm _)) (bc fR) hz (fun h' uE kp dd=>⟨rfl,h h' uE kp dd⟩) _ 0 _ _ [] rfl (dh _) (aN _) rfl (fun b o e=>aX _ (k2 b o e)) ⟨_,bE _ rfl,rfl,rfl⟩ ?_
 obtain⟨o,es,ep,e,x⟩:=dd1;exact⟨o,es,ep,aX _ e,x⟩
end
def zJ:List Tr->Option (List (Key×Tr))
 |[]=>some []
 |.tup [k,v]::r=>match i7 k,zJ r with
  |some key,some l=>some ((key,v)::l)
  |_,_=>none
 |_=>none
def JB:List Tr->Rs Tr
 |[.lst ts]=>match zJ ts with
  |some aG=>if aG.length<=100000 then .ok (.bo (kA [] aG))else .bad
  |none=>.bad
 |_=>.bad
section
theorem GN{t:Tr}{aG:List (Key×Tr)}(h:zJ (t::ts)=some aG):∃k v key l,t=.tup [k,v]/\i7 k=some key/\zJ ts=some l/\aG=(key,v)::l:=by
 unfold zJ at h;split at h
 ·cases‹t::ts=[]›
 ·rename_i k v r e;cases e;cases e1:i7 k with
  |none=>rw[e1]at h;cases h
  |some key=>
   cases e2:zJ ts with
   |none=>rw[e1,e2]at h;cases h
   |some l=>rw[e1,e2]at h;cases h;exact⟨k,v,key,l,rfl,e1,rfl,rfl⟩
 ·cases h
theorem EZ(I:Inv X U Z H s):∀{vs:List V} {ts:List Tr} {aG:List (Key×Tr)} {bz:List Value},aV X.K (bq B H) vs ts->zJ ts=some aG->Vals vs bz->
  ∃(kvs:List (Key×V)) (ps:List (Key×Value)),cU X.K (bq B H) kvs aG/\KV kvs ps/\bz.length=ps.length/\∀(j:Nat) (t:Value),bz[j]?=some t->∃ad key k v,t=.ref ad/\s.heap.IsTuple ad #[key,v]/\lr k key=true/\ps[j]?=some (k,v)
 |[],[],_,_,_,e,rv=>by cases e;cases rv;exact⟨[],[],.nil,.nil,rfl,fun j t e=>by simp at e⟩
 |[],_::_,_,_,h,_,_=>by cases h
 |v::vs,ts,aG,bz,h,e,rv=>by
  cases h with
  |cons h r=>
   obtain⟨k,w',key,l,rfl,ek,el,rfl⟩:=GN e;cases rv with
   |cons h1 rv=>
    obtain⟨kvs,ps,q1,q2,q3,q4⟩:=EZ I r el rv;obtain⟨ad,us,rfl,hq,rr⟩:=h.cY;cases h1;obtain⟨x1,x2,rfl,rk,nQ⟩:=yh rr;obtain⟨vK,K7,pl,_⟩:=I.tuple (au.tup aT hq);obtain⟨u1,u2,rfl,r1,r2⟩:=vals2 K7;cases mf rk ek;refine⟨(key,_)::kvs,(key,u2)::ps,.cons nQ q1,.cons ⟨rfl,r2⟩ q2,by rw[cG,cG,q3],fun j t et=>?_⟩;cases j with
    |zero=>cases et;exact⟨ad,u1,key,u2,rfl,pl,nU (P:=X.prog) (w:=X.w) r1,rfl⟩
    |succ j=>exact q4 j t et
theorem MP(hc:X.calm=true):fj X (.type "dict") (rF X JB):=by
 intro U s Z H xs us Q I rv ⟨B,ts,hb,r,q⟩;have key:∃C7 aG,ts=[.lst C7]/\zJ C7=some aG/\aG.length<=100000/\∀v H',au H H'->Rep X.K (bq B H') v (.bo (kA [] aG))->(∀p,v=.ref p->Qo H H' p)->Q v H':=by
  unfold JB at q;split at q
  ·rename_i C7;cases e:zJ C7 with
   |none=>rw[e]at q;exact fe q
   |some aG=>
    rw[e]at q;obtain⟨h0,z⟩:=fY q;exact⟨C7,aG,rfl,e,h0,z⟩
  ·exact fe q
 obtain⟨C7,aG,rfl,ep,hz,k⟩:=key;obtain⟨x,rfl,h⟩:=eM r;obtain⟨a,vs,rfl,h,rr⟩:=h.lst_inv;obtain⟨u,rfl,ru⟩:=vals1 rv;cases(show u=Value.ref a from ru);obtain⟨z0,bz,n0,rvs,hx⟩:=(show ck X.prog X.w H s.heap a (.lst vs)from I.cj a _ (cZ h));obtain⟨kvs,ps,q1,q2,q3,q4⟩:=EZ I rr ep rvs;have hl:kvs.length=aG.length:=q1.length;have hlp:ps.length<=100000:=by rw[<-KV.length q2,hl];exact hz
 refine DC (I.ok.hd hc) hx q3 q4 hlp fun h' uE kp dd=>?_
 have hf:H s.heap.objs.size=none:=I.fresh;have hlm:(gS [] kvs).length<=sizeLine:=by have:=hU kvs [];rw[vo]at this;rw[cR];omega
 have hsm:(s.heap.objs.size==sysModules)=false:=by
  have:=I.big;exact iW (cJ this)
 refine⟨.ref s.heap.objs.size,_,I.laid (t':=uE) (o:=.dK (gS [] kvs)) kp (aN _) (vL hlm hsm (q2.merge .nil) dd),rfl,k _ _ (au.upd hf) (.bo (.inl (hb.new hf)) ?_ ?_) fun p' e=>by cases e;exact .upd hf (fun _ _ z=>by cases z)⟩
 ·exact(cU.merge q1 cU.nil).keys
 ·exact(cU.merge q1 cU.nil).vals.same (aR (au.upd hf))
end
section
variable {prog:Program}
def iK(x y:Int×Int):Bool:=decide (x.1<y.1\/(x.1=y.1/\x.2<y.2))
theorem int_lt{x y:Int}{t u:Tok}(h:Q (.bool (decide (x<y))) s):wpAny (model prog w) A (richCompare .Lt (.int x t) (.int y u)) Q E s:=
 CmpOf.ints_lt (prog:=prog) (w:=w) (A:=A) (P:=fun i v=>∃t,v=.int ([x,y].getD i 0) t) (fun i=>[x,y].getD i 0) (fun i v h=>h) 0 1 _ _ _ _ _ ⟨t,rfl⟩ ⟨u,rfl⟩ h
theorem zK{b:Addr}{x y:Int×Int}{t1 t2 u1 u2:Tok}{oa ob:Obj}{na nb:Nat}{P:PySem.Fin->Shared->Prop}
  (V2:s.heap.get? a=some oa) (ZM:oa.data=.seq #[.int x.1 t1,.int x.2 t2] na) (Mr:s.heap.get? b=some ob) (dZ:ob.data=.seq #[.int y.1 u1,.int y.2 u2] nb) (hTb:s.TypeIs (.ref b) "tuple")
  (h:P (.done (.ret (.bool (iK x y)))) s):wpAny (model prog w) A (Builtin.«tuple.__lt__» ⟨[.ref a,.ref b],[]⟩) P E s:=by
 show wpAny _ _ (isInstance (.ref b) (.type "tuple")>>=_) _ _ s;refine af (nD hTb isSubtype_tuple_tuple ?_);simp only[eX,cu,bw];refine af (wpAny_tupleItemsOf V2 ZM ?_);refine af (wpAny_tupleItemsOf Mr dZ ?_);refine af ?_
 show wpAny _ _ (forIn [(Value.int x.1 t1,Value.int y.1 u1),(Value.int x.2 t2,Value.int y.2 u2)] _ _) _ _ s;rw[nz];refine af (af (wpAny_eqBool_int ?_));by_cases e1:x.1=y.1
 ·rw[dR.mpr e1];simp only[eX,cu,bw];refine ar ?_
  dsimp only;rw[nz];refine af (af (wpAny_eqBool_int ?_));by_cases e2:x.2=y.2
  ·rw[dR.mpr e2];simp only[eX,cu,bw];refine ar ?_
   dsimp only;rw[vx];refine ar (ar ?_);have e:iK x y=false:=by unfold iK;exact d_ (by omega)
   rw[e]at h;exact h
  ·rw[iW e2];simp only[iX,bB];have e:iK x y=decide (x.2<y.2):=by unfold iK;exact vn.mpr (by omega)
   rw[e]at h;exact af (dY (af (int_lt (af (ar (ar (ar (ar h))))))))
 ·rw[iW e1];simp only[iX,bB];have e:iK x y=decide (x.1<y.1):=by unfold iK;exact vn.mpr (by omega)
  rw[e]at h;exact af (dY (af (int_lt (af (ar (ar (ar (ar h))))))))
theorem MQ{b:Addr}{x y:Int×Int}{t1 t2 u1 u2:Tok}{oa ob:Obj}{na nb:Nat}(hu:A.units<cLine)
  (V2:s.heap.get? a=some oa) (hca:oa.cls=.type "tuple") (ZM:oa.data=.seq #[.int x.1 t1,.int x.2 t2] na) (Mr:s.heap.get? b=some ob) (hcb:ob.cls=.type "tuple") (dZ:ob.data=.seq #[.int y.1 u1,.int y.2 u2] nb)
  (h:Q (.bool (iK x y)) s):wpAny (model prog w) A (richCompare .Lt (.ref a) (.ref b)) Q E s:=
 wpAny_richCompare_same_room (op:=.Lt) (T:="tuple") ⟨oa,V2,hca⟩ ⟨ob,Mr,hcb⟩ F.slot_tuple_lt (fG F.slot_tuple_lt ⟨oa,V2,hca⟩ F.entry_tuple_lt (zK V2 ZM Mr dZ ⟨ob,Mr,hcb⟩ ⟨_,rfl,(fun e=>nomatch e),h⟩) (F.args_tuple_lt_2 _ _)) hu
end
def cA(kf:Nat->Int×Int):Nat->Nat
 |0=>0
 |j+1=>if iK (kf (j+1)) (kf (cA kf j))=true then j+1 else cA kf j
section
variable {f q l S I:Addr}{fd:FuncData}{k:Nat}{xs:List V}{o:Tr}{H0:Hp}{kf:Nat->Int×Int}{R:Result->Shared->Prop}
theorem BF(G:c_ X.prog X.w X.K X.mg X.base kN k f fd ps (spT X.K h))(bd:Binds X.K fd ps [])(hr:cp (k+1) X.A){vA:List (Addr×Obj)}{v:V}{u:Value}{t:Tr}{p:Int×Int}
  (Iv:Inv X vA Z H s) (hq:(q,PySem.W.methodObj (.ref f) (.ref a))∈vA) (hb:HB B H) (ro:Rep X.K (bq B H) (.ref a) o) (rt:Rep X.K (bq B H) v t) (rv:RelV v u) (he:h [o,t]=.ok (.tup [.int p.1,.int p.2])):
  wpAny (model X.prog X.w) X.A.in1 (call (.ref q) [u]) (fun w' s'=>∃kb H',w'=.ref kb/\Inv X vA Z H' s'/\au H H'/\gR X.K H' kb [.int p.1,.int p.2]) E s:=by
 have HV:spT X.K h [.ref a,v] H (fun v' H'=>au H H'/\Rep X.K (bq B H') v' (.tup [.int p.1,.int p.2])) E0:=⟨B,[o,t],hb,.cons ro (.cons rt .nil),_,he,fun v' H' sm r=>⟨sm,r⟩⟩;have hl:([.ref a,u]++[]:List Value).length=ps.length:=G.len _ _ _ _ HV;refine nL (PySem.W.method_call (Iv.pin _ (cH _ hq)).1 ?_);refine gq (G.run X.A.in1 X.stack s H ⟨[.ref a,u],[]⟩ [.ref a,u] [.ref a,v] _ E0 hr.in1 Iv.Pb.in1 (bd s [.ref a,u] Iv.kn hl) (.cons rfl (.cons rv .nil)) HV) fun r s' hx=>?_
 match r,hx with
 |.ok (.ret w'),hx=>
  obtain⟨v',H',I',F_,sm,rep⟩:=Iv.after hx;obtain⟨kb,vs,rfl,hT,rr⟩:=rep.cY;obtain⟨x,y,rfl,r1,r2⟩:=yh rr;rw[r1.int_inv,r2.int_inv]at hT;exact⟨kb,H',F_,I',sm,au.tup aT hT⟩
end
section
variable {f q l S I:Addr}{fd:FuncData}{k:Nat}{xs:List V}{o:Tr}{H0:Hp}{kf:Nat->Int×Int}{R:Result->Shared->Prop}
theorem BG{b:Addr}{p:Int×Int}(Iv:Inv X U Z H s)(hT:gR X.K H b [.int p.1,.int p.2]):∃ob t1 t2 n,s.heap.get? b=some ob/\ob.cls=.type "tuple"/\ob.data=.seq #[.int p.1 t1,.int p.2 t2] n:=by
 obtain⟨bz,rv,⟨ob,e,hc,n,hd⟩,_⟩:=Iv.tuple hT;obtain⟨u1,u2,rfl,r1,r2⟩:=vals2 rv;obtain⟨t1,rfl⟩:=(show∃t,u1=Value.int p.1 t from r1);obtain⟨t2,rfl⟩:=(show∃t,u2=Value.int p.2 t from r2);exact⟨ob,t1,t2,n,e,hc,hd⟩
theorem E1{c:HO}{b:Addr}{vs:List V}(fT:b≠S)(hT:gR K H b vs):gR K (upd H S c) b vs:=by
 rcases hT with(hT|⟨o3,hT⟩)|hT
 ·exact .inl (.inl (by rw[ay fT];exact hT))
 ·exact .inl (.inr ⟨o3,by rw[ay fT];exact hT⟩)
 ·exact .inr hT
theorem JC{b:Addr}{vs l:List V}(Iv:Inv X U Z H s)(hT:gR X.K H b vs)(e:H S=some (.lst l)):b≠S:=fun z=>by
 subst z;rcases hT with(hT|⟨o,hT⟩)|⟨o,bz,n,hk,_⟩
 ·rw[e]at hT;cases hT
 ·rw[e]at hT;cases hT
 ·rw[(Iv.bs _ _ (Iv.ok.mod.NL _ _ hk)).2]at e;cases e
theorem GO(hc:X.calm=true)(G:c_ X.prog X.w X.K X.mg X.base kN k f fd ps (spT X.K h))(bd:Binds X.K fd ps [])(hr:cp (k+1) X.A)(hq:(q,PySem.W.methodObj (.ref f) (.ref a))∈U)
  (hS:H0 S=none) (hb:HB B H0) (ro:Rep X.K (bq B H0) (.ref a) o) (rx:aV X.K (bq B H0) xs ts) (hl:jZ X.K H0 l xs) (V3:l≠I)
  (hk:∀i t,ts[i]?=some t->h [o,t]=.ok (.tup [.int (kf i).1,.int (kf i).2]))
  (hR:∀xb u H s,xs[cA kf (xs.length - 1)]?=some xb->Inv X U Z H s->au H0 H->RelV xb u->R (.ok (.ret u)) s):
  ∀(r j:Nat) (s:Shared) (H:Hp) (xb:V) (kb:Addr),xs.length - (j+1)=r->j+1<=xs.length->Inv X U Z H s->au H0 H->H S=some (.lst [xb,.ref kb])->xs[cA kf j]?=some xb->
   gR X.K H kb [.int (kf (cA kf j)).1,.int (kf (cA kf j)).2]->s.heap.IsListIter I l (j+1)->jQ X U H I->
   codeAny (model X.prog X.w) X.A (.builtin "min.loop" ⟨[.ref I,.ref q,.ref S],[]⟩) R s:=by
 have BH:(toString "min"++toString ".loop":String)="min.loop":=by decide
 intro r
 induction r with
 |zero=>
  intro j s H xb kb hr0 hj Iv sm SX BI hT hit xN;have kO:j+1=xs.length:=by omega
  obtain⟨bz,rv,pl,_⟩:=Iv.list (au.seq sm hl);have b7:bz.length=xs.length:=rv.length.symm;have W:=Walks.list (prog:=X.prog) (w:=X.w) (A:=X.A.in1) (Iv.ok.hd hc) I l V3 bz.toArray;obtain⟨_,vK,n2,K7,_,eS⟩:=Iv.xE SX;obtain⟨u,u2,rfl,ru,Vs⟩:=vals2 K7;cases(show u2=Value.ref kb from Vs);refine ee u_ ?_
  rw[fD lU _];show wpAny _ X.A.in1 (seqItems? (.ref S)>>=_) _ _ _;refine af (fI eS rfl ?_);show wpAny _ X.A.in1 (tryCatch (pyNext (.ref I)) _>>=_) _ _ _;refine af (jv (W.done _ _ _ ⟨by rw[b_,b7,<-kO];exact hit,pl.isList⟩ fun h' uE Ms=>?_));have I1:Inv X U Z H {s with heap:=h',toks:=uE}:=Iv.pb (ch:=[I]) (fun b hb=>by rw[cF.mp hb];exact xN) Ms;obtain⟨_,V4,n3,XH,_,eS'⟩:=I1.xE SX;have I2:=I1.Ly (rK:=[]) (f:=fun _=>(#[]:Array Value)) (t':=uE) SX eS' rfl .nil (dh _);show wpAny _ X.A.in1 (updateSeq S (fun _=>#[])>>=_) _ _ _;refine af (nF eS' rfl (af (ll (ar ?_))));refine hR xb u _ _ ?_ I2 (sm.AS hS) ru
  rw[<-kO];exact BI
 |succ r ih=>
  intro j s H xb kb hr0 hj Iv sm SX BI hT hit xN;have fR:j+1<xs.length:=by omega
  obtain⟨bz,rv,pl,_⟩:=Iv.list (au.seq sm hl);have b7:bz.length=xs.length:=rv.length.symm;have W:=Walks.list (prog:=X.prog) (w:=X.w) (A:=X.A.in1) (Iv.ok.hd hc) I l V3 bz.toArray;obtain⟨_,vK,n2,K7,_,eS⟩:=Iv.xE SX;obtain⟨u,u2,rfl,ru,Vs⟩:=vals2 K7;cases(show u2=Value.ref kb from Vs);refine ee u_ ?_
  rw[fD lU _];show wpAny _ X.A.in1 (seqItems? (.ref S)>>=_) _ _ _;refine af (fI eS rfl ?_);show wpAny _ X.A.in1 (tryCatch (pyNext (.ref I)) _>>=_) _ _ _;refine af (jv (W.item (j+1) _ _ _ (by rw[b_,b7];exact fR) ⟨hit,pl.isList⟩ fun v h' uE hP IX Ms=>?_));refine hide fun P go=>?_
  have hv:bz[j+1]?=some v:=by simpa using hP
  obtain⟨xv,Ru⟩:∃y,xs[j+1]?=some y:=⟨_,bb fR⟩
  obtain⟨v',HM,V5⟩:=rv.get Ru;cases hv.symm.trans HM;obtain⟨tv,ZN,ZO⟩:=rx.vU Ru;have I1:Inv X U Z H {s with heap:=h',toks:=uE}:=Iv.pb (ch:=[I]) (fun b hb=>by rw[cF.mp hb];exact xN) Ms;obtain⟨oI,ZP,OS,SY⟩:=id IX.1;have I1p:Inv X ((I,oI)::U) Z H {s with heap:=h',toks:=uE}:=I1.iY fun p hp=>by
   rcases aE.mp hp with rfl|hp
   ·exact⟨ZP,xN.1,xN.2.1,xN.2.2.1,fun v z=>by rw[SY]at z;cases z⟩
   ·exact I1.pin p (cH _ hp)
  refine go ?_
  show wpAny _ X.A.in1 (tryCatch (holding [v] (call (.ref q) [v])) _>>=_) _ _ _;refine af (jv (dO (cX (BF G bd hr I1p (bI _ hq) (hb.same sm) (ro.same (aR sm)) (ZO.same (aR sm)) V5 (hk _ _ ZN)) (fun w' s2 hw=>?_) fun _ _ x=>x)));obtain⟨kb2,H2,rfl,Rv,Ho,S0⟩:=hw;refine hide fun P go=>?_
  have nI:=Rv.pin (I,oI) (cH _ (bR ..));have I2:Inv X U Z H2 s2:=Rv.iY fun p hp=>Rv.pin p (cH _ (bI _ hp));have xO:H2 S=some (.lst [xb,.ref kb]):=Ho _ _ SX;obtain⟨_,V4,n3,XH,_,V6⟩:=I2.xE xO;obtain⟨oa,t1,t2,na,ea,ca,da⟩:=BG I2 S0;obtain⟨ob,t3,t4,nb,eb,cb,db⟩:=BG I2 (Ho.tup hT);have hu:X.A.in1.units<cLine:=qT (by show X.A.units+1<=X.A.units+16*(k+1)+200;omega) hr.un;have ZQ:jQ X U H2 I:=⟨nI.2.1,xN.2⟩;have Rw:au H0 H2:=sm.trans Ho;refine go ?_
  show wpAny _ X.A.in1 (tryCatch (holding [v,.ref kb2] (richCompare .Lt (.ref kb2) (.ref kb)>>=_)) _>>=_) _ _ _;refine af (jv (dO (af (MQ (x:=kf (j+1)) (y:=kf (cA kf j)) hu ea ca da eb cb db ?_))));refine af (dO (nv ?_));refine af (ll (ar ?_));by_cases Hk:iK (kf (j+1)) (kf (cA kf j))=true
  ·have V7:cA kf (j+1)=j+1:=ag Hk;have I3:=I2.Ly (rK:=[v,.ref kb2]) (f:=fun _=>(#[v,.ref kb2]:Array Value)) (ys:=[xv,.ref kb2]) (t':=s2.toks) xO V6 rfl (.cons V5 (.cons rfl .nil)) (by show 2<=sizeLine;decide);simp only[Hk,bB];refine af (nF V6 rfl (af (ll ?_)));rw[BH];have K6:S≠I:=fun z=>by rw[z,nI.2.1]at xO;cases xO
   have ZR:kb2≠S:=JC I2 S0 xO;refine ar ⟨fJ lU _,ih (j+1) _ _ xv kb2 (by omega) fR I3 (Rw.AS hS) aU (by rw[V7];exact Ru) ?_ ⟨oI,(lW s2.heap _ K6).trans nI.1,OS,SY⟩ ⟨by rw[ay K6.symm];exact nI.2.1,xN.2⟩⟩;rw[V7];exact E1 ZR S0
  ·have V7:cA kf (j+1)=cA kf j:=ak Hk;simp only[Hk,bw];refine af (ll ?_);rw[BH];refine ar ⟨fJ lU _,ih (j+1) s2 H2 xb kb (by omega) fR I2 Rw xO (by rw[V7];exact BI) (by rw[V7];exact Ho.tup hT) ⟨oI,nI.1,OS,SY⟩ ZQ⟩
end
section
variable {f q l S I:Addr}{fd:FuncData}{k:Nat}{xs:List V}{o:Tr}{kf:Nat->Int×Int}{R:Result->Shared->Prop}
theorem GP(hc:X.calm=true)(G:c_ X.prog X.w X.K X.mg X.base kN k f fd ps (spT X.K h))(bd:Binds X.K fd ps [])(hr:cp (k+1) X.A)(hq:(q,PySem.W.methodObj (.ref f) (.ref a))∈U)
  (Iv:Inv X U Z H s) (hb:HB B H) (ro:Rep X.K (bq B H) (.ref a) o) (rx:aV X.K (bq B H) xs ts) (hl:jZ X.K H l xs) (fT:0<xs.length)
  (hk:∀i t,ts[i]?=some t->h [o,t]=.ok (.tup [.int (kf i).1,.int (kf i).2])) {Q:VK}
  (hQ:∀xb H',xs[cA kf (xs.length - 1)]?=some xb->au H H'->Q xb H'):
  wpAny (model X.prog X.w) X.A (call (.builtin "min") [.ref l] [(Str.ofString "key",.ref q)]) (EP X U Z Q) X.xe s:=by
 have BH:(toString "min"++toString ".loop":String)="min.loop":=by decide
 obtain⟨bz,rv,pl,_⟩:=Iv.list hl;have b7:bz.length=xs.length:=rv.length.symm;have SW:=pl.isList;obtain⟨ol,Ol,_⟩:=id SW;have hll:l<s.heap.objs.size:=aF Ol;refine kmk_tree PySem.F.kind_min PySem.F.plain_min PySem.F.entry_min (kmk_min_key _ _) ?_
 show wpAny _ X.A.in1 (Builtin.Builtins.bindParams "min" ["key","default"] 0 ⟨[],[(Str.ofString "key",.ref q)]⟩>>=_) _ _ s;refine af (wpAny_of_eq (show Builtin.Builtins.bindParams "min" ["key","default"] 0 ⟨[],[(Str.ofString "key",.ref q)]⟩=pure [some (.ref q),none]from rfl) ?_);refine af (ar ?_);refine af (k_ SW ?_);refine af (nH ?_ (dh _));rw[BH];have V3:l≠s.heap.objs.size:=bc hll;have I1:Inv X U Z H {s with heap:=s.heap.push {cls:=.type "list_iterator",data:=.fields #[.ref l,.int 0 0]}}:=Iv.kept (t':=s.toks) fun b u e=>aX _ e;have I2:=I1.Lz (bz:=[]) (ys:=[]) (t':=s.toks) .nil (dh _);have hSe:(s.heap.push {cls:=.type "list_iterator",data:=.fields #[.ref l,.int 0 0]}).objs.size=s.heap.objs.size+1:=size_push' ..;have K6:(s.heap.push {cls:=.type "list_iterator",data:=.fields #[.ref l,.int 0 0]}).objs.size≠s.heap.objs.size:=by rw[hSe];exact kZ _
 have XJ:H (s.heap.push {cls:=.type "list_iterator",data:=.fields #[.ref l,.int 0 0]}).objs.size=none:=I1.fresh;have gI:((s.heap.push {cls:=.type "list_iterator",data:=.fields #[.ref l,.int 0 0]}).push {cls:=.type "list",data:=.seq (List.toArray [])}).get? s.heap.objs.size=some {cls:=.type "list_iterator",data:=.fields #[.ref l,.int 0 0]}:=
  aX _ (bE _ rfl)
 generalize hS:(s.heap.push {cls:=.type "list_iterator",data:=.fields #[.ref l,.int 0 0]}).objs.size=S at I2 K6 XJ;have xN:jQ X U (upd H S (.lst [])) s.heap.objs.size:=Iv.vC (aN _) (by rw[ay K6.symm];exact Iv.fresh);have V8:au H (upd H S (.lst [])):=au.upd XJ;refine ar ⟨fJ lU _,?_⟩;have W:=Walks.list (prog:=X.prog) (w:=X.w) (A:=X.A.in1) (Iv.ok.hd hc) s.heap.objs.size l V3 bz.toArray;obtain⟨_,vK,n2,K7,_,eS⟩:=I2.xE aU;cases K7;obtain⟨rK,F_,pl',_⟩:=I2.list (au.seq V8 hl);have ei:rK=bz:=by
  obtain⟨o1,n1,e1,_,_,d1⟩:=pl;obtain⟨o2,n2,e2,_,_,d2⟩:=pl';have e3:((s.heap.push {cls:=.type "list_iterator",data:=.fields #[.ref l,.int 0 0]}).push {cls:=.type "list",data:=.seq (List.toArray [])}).get? l=some o1:=aX _ (aX _ e1);have S1:((s.heap.push {cls:=.type "list_iterator",data:=.fields #[.ref l,.int 0 0]}).push {cls:=.type "list",data:=.seq (List.toArray [])}).get? l=some o2:=e2;rw[e3]at S1;cases S1;rw[d1]at d2;injection d2 with d3 _
  simpa using(cw Array.toList d3).symm
 subst ei;refine ee u_ ?_
 rw[fD lU _];show wpAny _ X.A.in1 (seqItems? (.ref S)>>=_) _ _ _;refine af (fI eS rfl ?_);show wpAny _ X.A.in1 (tryCatch (pyNext (.ref s.heap.objs.size)) _>>=_) _ _ _;refine af (jv (W.item 0 _ _ _ (by rw[b_,b7];exact fT) ⟨⟨_,gI,rfl,rfl⟩,pl'.isList⟩ fun v h' uE hP IX Ms=>?_));refine hide fun P go=>?_
 have hv:rK[0]?=some v:=by simpa using hP
 obtain⟨xv,Ru⟩:∃y,xs[0]?=some y:=⟨_,bb fT⟩
 obtain⟨v',HM,V5⟩:=rv.get Ru;cases hv.symm.trans HM;obtain⟨tv,ZN,ZO⟩:=rx.vU Ru;have J1:=I2.pb (h':=h') (t':=uE) (ch:=[s.heap.objs.size]) (fun b hb=>by rw[cF.mp hb];exact xN) Ms;obtain⟨oI,ZP,OS,SY⟩:=id IX.1;have J1p:=J1.iY (vA:=(s.heap.objs.size,oI)::U) fun p hp=>by
  rcases aE.mp hp with rfl|hp
  ·exact⟨ZP,xN.1,xN.2.1,xN.2.2.1,fun v z=>by rw[SY]at z;cases z⟩
  ·exact J1.pin p (cH _ hp)
 refine go ?_
 show wpAny _ X.A.in1 (tryCatch (holding [v] (call (.ref q) [v])) _>>=_) _ _ _;refine af (jv (dO (cX (BF G bd hr J1p (bI _ hq) (hb.same V8) (ro.same (aR V8)) (ZO.same (aR V8)) V5 (hk _ _ ZN)) (fun w' s2 hw=>?_) fun _ _ x=>x)));obtain⟨kb2,H2,rfl,Rv,Ho,S0⟩:=hw;refine hide fun P go=>?_
 have nI:=Rv.pin (s.heap.objs.size,oI) (cH _ (bR ..));have J2:Inv X U Z H2 s2:=Rv.iY fun p hp=>Rv.pin p (cH _ (bI _ hp));have xO:H2 S=some (.lst []):=Ho _ _ aU;obtain⟨_,V4,n3,XH,_,V6⟩:=J2.xE xO;have J3:=J2.Ly (rK:=[v,.ref kb2]) (f:=fun _=>(#[v,.ref kb2]:Array Value)) (ys:=[xv,.ref kb2]) (t':=s2.toks) xO V6 rfl (.cons V5 (.cons rfl .nil)) (by show 2<=sizeLine;decide);have ZR:kb2≠S:=JC J2 S0 xO;have Rw:au H H2:=V8.trans Ho;refine go ?_
 show wpAny _ X.A.in1 (updateSeq S (fun _=>#[v,.ref kb2])>>=_) _ _ _;refine af (nF V6 rfl ?_);rw[BH];refine ar ⟨fJ lU _,?_⟩;exact GO hc G bd hr hq XJ hb ro rx hl V3 hk (fun xb u H' s' hx I' sm' ru=>⟨xb,H',I',ru,hQ xb H' hx sm'⟩) (xs.length - 1) 0 _ _ xv kb2 rfl fT J3 (Rw.AS XJ) aU Ru (E1 ZR S0)
  ⟨oI,(lW s2.heap _ K6).trans nI.1,OS,SY⟩ ⟨by rw[ay K6.symm];exact nI.2.1,xN.2⟩
end
open Builtin Builtin.ObjectAttr
structure yK(K:Frag)(f:Addr):Prop where
 get:PySem.W.specialIn K (.ref f) "__get__"=some (some (.builtin "function.__get__"))
 tk:PySem.W.takesIn K (.ref f)=some false
section
theorem BJ{C dx g:Addr}{fs:List (Str×V)}{m:Str}{b:Bool}(I:Inv X U Z H s)(e:H a=some (.ins C dx fs))(c:CH X.K C)(k:Meth X.K C m g)(l:fs.lookup m=none)(hg:yK X.K g)
  (Rx:PySem.W.copiedNames.contains m=false) (h:∀q s',Inv X ((q,PySem.W.methodObj (.ref g) (.ref a))::U) Z H s'->Q (.ref q) s'):wpAny (model X.prog X.w) A (getAttr (.ref a) m b) Q E s:=by
 obtain⟨mA,O,r,_,_,_⟩:=rO I.cj e;have hn:mA m=none:=km.none_of (by rw[<-l];exact r m);obtain⟨od,J,hl⟩:=O.look;refine PySem.W.get_bind I.kn J (ng (c.get m)).1 (PySem.W.findObj_fn c.hd k.at_ hg.get hg.tk Rx (by rw[hl,hn])) (ng (c.get m)).2 (nL (PySem.W.fn_get (s:={s with toks:=s.toks+1}) I.kn (dR.mp k.fn) (PySem.W.handed_on rfl (h s.heap.objs.size _ ?_))));have I1:Inv X U Z H {s with heap:=s.heap.push (PySem.W.methodObj (.ref g) (.ref a)),toks:=s.toks+1}:=I.kept fun b u e=>aX _ e;refine I1.iY fun p hp=>?_
 rcases aE.mp hp with rfl|hp
 ·exact⟨bE _ rfl,I.fresh,cJ I.lt,I.Th (aN _),fun v z=>by cases z⟩
 ·exact I1.pin p (cH _ hp)
end
def keyOf(r:Rs Tr):Option (Int×Int):=match r with
 |.ok (.tup [.int x,.int y])=>some (x,y)
 |_=>none
theorem JD{r:Rs Tr}{p:Int×Int}(h:keyOf r=some p):r=.ok (.tup [.int p.1,.int p.2]):=by
 unfold keyOf at h;split at h
 ·cases h;rfl
 ·cases h
def keysOf(h:List Tr->Rs Tr)(o:Tr):List Tr->Option (List (Int×Int))
 |[]=>some []
 |t::ts=>(keyOf (h [o,t])).bind fun k=>(keysOf h o ts).map fun ks=>k::ks
theorem yL{o:Tr}:∀{ts:List Tr} {ks:List (Int×Int)},keysOf h o ts=some ks->∀i t,ts[i]?=some t->h [o,t]=.ok (.tup [.int (ks.getD i (0,0)).1,.int (ks.getD i (0,0)).2])
 |[],_,_,i,t,e=>by simp at e
 |u::ts,ks,hk,i,t,e=>by
  rw[keysOf]at hk;cases e1:keyOf (h [o,u])with
  |none=>rw[e1]at hk;cases hk
  |some k=>
   rw[e1]at hk;cases e2:keysOf h o ts with
   |none=>rw[e2]at hk;cases hk
   |some r=>
    rw[e2]at hk;cases hk;cases i with
    |zero=>simp at e;subst e;exact JD e1
    |succ i=>exact yL e2 i t (by simpa using e)
def uo(c m:Str)(h:List Tr->Rs Tr)(tl o:Tr):Rs Tr:=match tl,o with
 |.lst ts,.ob x fs=>if x=c/\Cu fs m=true/\0<ts.length then match keysOf h (.ob x fs) ts with
  |some ks=>mM ts[cA (fun i=>ks.getD i (0,0)) (ts.length - 1)]?
  |none=>.bad
  else .bad
 |_,_=>.bad
def E2(c m:Str)(h:List Tr->Rs Tr)(rl ro:Rs Tr):Rs Tr:=rl.bind fun tl=>ro.bind fun o=>uo c m h tl o
theorem GQ{c m:Str}{tl o:Tr}{k:Tr->Prop}(q:Fi X H (uo c m h tl o) k):∃ts fs ks t,tl=.lst ts/\o=.ob c fs/\Cu fs m=true/\0<ts.length/\keysOf h (.ob c fs) ts=some ks/\ts[cA (fun i=>ks.getD i (0,0)) (ts.length - 1)]?=some t/\k t:=by
 unfold uo at q;split at q
 ·rename_i ts x fs;by_cases ZU:x=c/\Cu fs m=true/\0<ts.length
  rotate_left
  ·rw[ak ZU]at q;exact fe q
  rw[ag ZU]at q;obtain⟨rfl,h2,h3⟩:=ZU;have z:=q;cases e:keysOf h (.ob x fs) ts with
  |none=>rw[e]at z;exact fe z
  |some ks=>
   rw[e]at z;cases e2:ts[cA (fun i=>ks.getD i (0,0)) (ts.length - 1)]? with
   |none=>simp only[e2]at z;exact fe z
   |some t=>simp only[e2]at z;exact⟨ts,fs,ks,t,rfl,rfl,h2,h3,e,e2,z⟩
 ·exact fe q
section
variable {c m:Str}{st:Stmt}{f:Addr}{fd:FuncData}{k:Nat}{l:Expr}{kp:Pos}{O:aQ->Rs Tr}
theorem JE(D:MethAt X.K c m st ps f fd)(Bn:yK X.K f)(G:c_ X.prog X.w X.K X.mg X.base kN k f fd ps (spT X.K h))(hr:cp (k+1) X.A)(hm:X.mg "min"=none)(hl:PE X l (tP X F))(ho:PE X o (tP X O))
  (hc:X.calm=true:=by rfl) (hg:Gl X "min":=by rfl) (bH:aH [l]=true:=by rfl) (hb:isCall o=false:=by rfl) (Rx:PySem.W.copiedNames.contains m=false:=by decide+kernel):
  PE X (.Call (.Name "min" p) [l] [⟨some "key",.Attribute o m b6,kp⟩] pos) (tP X fun Y=>E2 c m h (F Y) (O Y)):=by
 intro U s Z H Q I ⟨B,Y,hB,r,q⟩;refine kX (sW (u:=.builtin "min") I hg hm rfl ?_ (by decide) (by decide));refine callWith_kw (dc (j6 hl p8 (aS _ _ (az bH).1) pos U s Z H (fun vs H1=>∃tl,aV X.K (bq B H1) vs [tl]/\au H H1/\Fi X H ((O Y).bind fun o=>uo c m h tl o) fun t=>∀v H',au H H'->Rep X.K (bq B H') v t->Q v H') I ?_) fun us s1 ⟨vs,H1,I1,rv,tl,rl,sm,k1⟩=>?_) (by rw[aS _ _ (az bH).1];rfl) (bZ bH)
 ·exact⟨B,Y,hB,r,q.bind.mono fun tl qt v H1 s1 r1=>⟨tl,.cons r1 .nil,s1,qt⟩⟩
 obtain⟨y,rfl,rl1⟩:=eM rl;refine kws_cons (D9 (e_ hb) (dc (ho U s1 Z H1 (fun x H2=>∃o,Rep X.K (bq B H2) x o/\au H1 H2/\Fi X H (uo c m h tl o) fun t=>∀v H',au H H'->Rep X.K (bq B H') v t->Q v H') I1 ⟨B,Y,hB.same sm,r.same sm,(k1.bind.same sm).mono fun o qo v H2 s2 r2=>⟨o,r2,s2,qo⟩⟩) fun u2 s2 ⟨x,H2,I2,rx,ot,ro,Ho,k2⟩=>?_));obtain⟨ts,fs,ks,t,rfl,rfl,Hr,Ry,hks,BI,kq⟩:=GQ k2;obtain⟨a1,xs,rfl,Hi,IA⟩:=rl1.lst_inv;obtain⟨a2,dx,fW,rfl,hh,ek,LY⟩:=ro.ze;obtain⟨w1,rfl,rw1⟩:=vals1 rv;cases(show w1=Value.ref a1 from rw1);cases(show u2=Value.ref a2 from rx);refine BJ I2 (cZ hh) D.cl D.mt (zD ek LY Hr) Bn Rx fun q s3 I3=>kws_nil ?_
 have sl:aV X.K (bq B H2) xs ts:=IA.same (aR Ho);refine dc (GP (H:=H2) (B:=B) (xs:=xs) (ts:=ts) (kf:=fun i=>ks.getD i (0,0)) hc G D.bd hr (bR ..) I3 ((hB.same sm).same Ho) (.ob hh ek LY) sl (.of (Ho _ _ (cZ Hi))) (by rw[sl.length];exact Ry) (yL hks) fun xb H3 hx Rw=>?_) fun w3 s4 ⟨v3,H3,I4,r3,q3⟩=>⟨v3,H3,I4.iY fun p hp=>I4.pin p (cH _ (bI _ hp)),r3,q3⟩;rw[sl.length]at hx;obtain⟨t',e',rt'⟩:=sl.vU hx;cases BI.symm.trans e';exact kq xb H3 ((sm.trans Ho).trans Rw) (rt'.same (aR Rw))
end
def RA:Tr->Option Int->Option Int->Rs Tr
 |.tup ts,lo,hi=>.ok (.tup (zo ts lo hi))
 |t,lo,hi=>YV t lo hi
def GR(r:Rs Tr)(lo hi:Rs (Option Int)):Rs Tr:=r.bind fun t=>lo.bind fun l=>hi.bind fun h=>RA t l h
theorem DD{α:Type}{ts:List α}{lo hi:Option Int}(h:mh ts.length lo hi=true):zo ts lo hi=ts:=by
 unfold mh at h;rw[bf]at h;unfold zo;rw[eq_of_beq h.1,eq_of_beq h.2,List.drop_zero,Nat.sub_zero,List.take_length]
section
variable {P1 P2:aQ->Rs (Option Int)}{lo hi:Option Expr}{p2:Pos}
inductive V9(X:Cx)(x:V)(lo:Option Int)(hi:Option Int)(H:Hp)(Q:VK):Prop
 |mk (B:dG) (t:Tr):HB B H->Rep X.K (bq B H) x t->(Fi X H (RA t lo hi) fun t=>∀v H',au H H'->Rep X.K (bq B H') v t->Q v H')->V9 X x lo hi H Q
theorem V_:SD X (V9 X):=by
 intro U s Z H x v vl vu lo hi sl Q I rx hs pl pu ⟨B,t,hb,r,q⟩;by_cases hw:∃ts,t=.tup ts/\mh ts.length lo hi=true
 ·obtain⟨ts,rfl,hw⟩:=hw;have q':∀v H',au H H'->Rep X.K (bq B H') v (.tup (zo ts lo hi))->Q v H':=q;rw[DD hw]at q';have r0:=r;cases r with
  |@tup a vs _ h rr=>
   cases rx;obtain⟨bz,r2,ht,hz⟩:=I.tuple h.up;have b7:bz.toArray.size=ts.length:=by rw[b_,<-r2.length];exact rr.length
   refine⟨"tuple",_,u4.lookup,ht.typeIs,?_⟩;unfold mh at hw;rw[bf]at hw;exact HT.pG ht hs pl pu (by rw[b7];exact⟨eq_of_beq hw.1,eq_of_beq hw.2⟩) ⟨.ref a,H,I,rfl,q' _ H (au.refl H) r0⟩
 ·have e:RA t lo hi=YV t lo hi:=by
   cases t with
   |tup ts=>
    have:¬mh ts.length lo hi=true:=fun z=>hw ⟨ts,rfl,z⟩;exact(ak this).symm
   |_=>rfl
  rw[e]at q;exact YW U s Z H x v vl vu lo hi sl Q I rx hs pl pu ⟨B,t,hb,r,q⟩
theorem V'(he:PE X e (tP X F))(hl:PO X lo (tO X P1))(hu:PO X hi (tO X P2)):PE X (.Subscript e (.Slice lo hi none p2) pos) (tP X fun Y=>GR (F Y) (P1 Y) (P2 Y)):=
 (HW V_ he hl hu).weak fun Z H Q ⟨B,Y,hb,r,q⟩=>⟨B,Y,hb,r,q.bind.mono fun t qt v H1 s1 r1=>⟨B,Y,hb.same s1,r.same s1,(qt.bind.same s1).mono fun l ql H2 s2=>⟨B,Y,hb.same (s1.trans s2),r.same (s1.trans s2),(ql.bind.same (s1.trans s2)).mono fun h qh H3 s3=>
  ⟨B,t,hb.same ((s1.trans s2).trans s3),r1.same (aR (s2.trans s3)),(qh.same ((s1.trans s2).trans s3)).mono fun t qt v H4 s4 r4=>qt v H4 (((s1.trans s2).trans s3).trans s4) r4⟩⟩⟩⟩
end
def oA{α:Type}(n:Nat)(lt:Nat->Nat->Bool):PySem.W.KasT α->Option α
 |.ret a=>some a
 |.ask i j k=>if i<n/\j<n/\i≠j then oA n lt (k (lt i j))else none
theorem yM{α:Type}{n:Nat}{lt:Nat->Nat->Bool}{cmp:Nat->Nat->(Bool->Shared->Prop)->Shared->Prop}{Q:α->Shared->Prop}(hc:∀i j C,i<n->j<n->i≠j->C (lt i j) s->cmp i j C s):∀(t:PySem.W.KasT α) {a:α},oA n lt t=some a->Q a s->t.kasWp cmp Q s
 |.ret b,a,e,h=>by cases e;exact h
 |.ask i j k,a,e,h=>by
  unfold oA at e;by_cases z:i<n/\j<n/\i≠j
  ·rw[ag z]at e;exact hc i j _ z.1 z.2.1 z.2.2 (yM hc (k (lt i j)) e h)
  ·rw[ak z]at e;cases e
theorem Inv.adopt {b:Addr}{o:HO}(I:Inv X U Z H s)(h0:X.eZ.heap.objs.size<=b)(f:jQ X U H b)(new:ck X.prog X.w (upd H b o) s.heap b o):Inv X U Z (upd H b o) s:=by
 obtain⟨hn,hL,_,_,hC,hP⟩:=f;refine⟨I.ok,I.os,I.bare,⟨I.base.keep,I.base.slot,fun c u e n hx=>?_,I.base.there,fun c xs e=>?_,fun c u v e=>?_,fun c ps e=>?_⟩,I.loc,I.cell,?_,fun x c e=>?_,fun p hp=>?_,fun c u e=>?_,I.len⟩
 ·rw[ay (bc (cn (aF e) h0))];exact I.base.free c u e n hx
 ·have q:=I.base.jy c xs e;rw[ay (aY q hn)];exact q
 ·have q:=I.base.jP c u v e;rw[ay (aY q hn)];exact q
 ·obtain⟨more,q⟩:=I.base.l9 c ps e;exact⟨more,by rw[ay (aY q hn)];exact q⟩
 ·rw[ay hL.symm];exact I.free
 ·rw[ay (hC x c e)];exact I.eK x c e
 ·obtain⟨e,n,r⟩:=I.pin p hp;exact⟨e,by rw[ay (hP p hp)];exact n,r⟩
 ·by_cases z:c=b
  ·subst z;rw[aU]at e;cases e;exact new
  ·rw[ay z]at e;exact(I.cj c u e).nM (fun _ _ _ q=>q) (fun d q=>by rw[ay (aY q hn)];exact q) fun d xs q=>by rw[ay (aY q hn)];exact q
def pU(H:Hp):List (Addr×List V)->Hp
 |[]=>H
 |p::r=>pU (upd H p.1 (.tup p.2)) r
theorem wH{H:Hp}:∀{l:List (Addr×List V)},(l.map (·.1)).Nodup->(∀p∈l,H p.1=none)->au H (pU H l)/\∀p∈l,pU H l p.1=some (.tup p.2)
 |[],_,_=>⟨au.refl H,fun p m=>(nomatch m)⟩
 |p::l,nd,hn=>by
  rw[aO,fH]at nd;have hp:H p.1=none:=hn p (bR ..);obtain⟨s,k⟩:=wH (H:=upd H p.1 (.tup p.2)) (l:=l) nd.2 fun q m=>by
   rw[ay fun z=>nd.1 (by rw[<-z];exact fF m)];exact hn q (bI _ m)
  refine⟨(au.upd hp).trans s,fun q m=>?_⟩;rcases aE.mp m with rfl|m
  ·exact s _ _ aU
  ·exact k q m
theorem Inv.BK:∀{l:List (Addr×List V)} {H:Hp},Inv X U Z H s->(l.map (·.1)).Nodup->(∀p∈l,X.eZ.heap.objs.size<=p.1/\jQ X U H p.1/\p.2.length<=sizeLine/\∃bz:List Value,Vals p.2 bz/\IsTup s.heap p.1 bz.toArray)->Inv X U Z (pU H l) s
 |[],H,I,_,_=>I
 |p::l,H,I,nd,h=>by
  rw[aO,fH]at nd;obtain⟨h0,hf,hz,bz,rv,it⟩:=h p (bR ..);refine Inv.BK (H:=upd H p.1 (.tup p.2)) (I.adopt h0 hf ⟨hz,bz,rv,it⟩) nd.2 fun q m=>?_
  obtain⟨q0,qf,r⟩:=h q (bI _ m);exact⟨q0,⟨by rw[ay fun z=>nd.1 (by rw[<-z];exact fF m)];exact qf.1,qf.2⟩,r⟩
def uq(v d:Addr):HO:=.ext fun h=>h.IsItemsView v d
section
variable {bh:Pos}{to:TE}
def RB(to:TE):TE:=fun Z H Q=>to Z H fun x H1=>∃d kvs,x=.ref d/\Rd H1 d (.dK kvs)/\∀v,H1 v=none->Q (.ref v) (upd H1 v (uq v d))
theorem JF(ho:PE X o to)(nR:attributeBase o "items" X.env (eval o X.env)=eval o X.env)(eL:(b6.endLine==bh.line)=true):PE X (.Call (.Attribute o "items" b6) [] [] bh) (RB to):=by
 intro U s Z H Q I h;refine wpAny_Call_method0_late nR eL (dc (ho U s Z H _ I h) fun v s1 ⟨x,H1,I1,r1,d,kvs,ex,hd,q1⟩=>?_);subst ex;cases(show v=Value.ref d from r1);obtain⟨hz,hs,vs,rv,hm⟩:=(show ck X.prog X.w H1 s1.heap d (.dK kvs)from hd.ok I1.cj);have Zy:=hm;obtain⟨ob,es,ep,e,ex,_⟩:=hm;refine⟨"dict","dict.items",oW,PySem.F.slot_dict_items,PySem.F.type_dict_items,⟨ob,e,ex.1⟩,fun a e2=>by cases e2;exact⟨ob,e,ex.2.1⟩,lV rfl (PySem.evalArgs_none ?_)⟩;refine il PySem.F.slot_dict_items ⟨ob,e,ex.1⟩ PySem.F.entry_dict_items (PySem.F.args_dict_items_1 _) (meets_dict_items (bx X.prog X.w) d hs) ⟨⟨vs,Zy⟩,?_⟩;refine⟨.ref s1.heap.objs.size,_,I1.laid (t':=s1.toks) (o:=uq s1.heap.objs.size d) (fun b u e=>aX _ e) (aN _) ?_,rfl,q1 _ I1.fresh⟩;have hv:(s1.heap.push {cls:=.type "dict_items",data:=.fields #[.ref d]}).IsItemsView s1.heap.objs.size d:=⟨_,bE _ rfl,rfl,rfl⟩;exact⟨hv,⟨_,bE _ rfl⟩,fun h1 h2 ⟨o1,e1,r1⟩ k=>⟨o1,k o1 e1,r1⟩⟩
end
def wI(ss:List Str)(i j:Nat):Bool:=decide ((ss.getD i "").cps.toList<(ss.getD j "").cps.toList)
def fU(ss:List Str):Option (List Nat):=if ss.length<2 then some (List.range ss.length)else(oA ss.length (wI ss) (PySem.W.kas_sort ss.length)).bind fun p=>if p.toList.all (fun i=>decide (i<ss.length))=true/\p.toList.length<=64 then some p.toList else none
theorem DE{ss:List Str}{p:List Nat}(h:fU ss=some p):p.length<=64:=by
 unfold fU at h;split at h
 ·cases h;rw[qX];omega
 ·cases e:oA ss.length (wI ss) (PySem.W.kas_sort ss.length)with
  |none=>rw[e]at h;cases h
  |some q=>
   rw[e]at h;by_cases z:q.toList.all (fun i=>decide (i<ss.length))=true/\q.toList.length<=64
   ·have h':(if q.toList.all (fun i=>decide (i<ss.length))=true/\q.toList.length<=64 then some q.toList else none)=some p:=h;rw[ag z]at h';cases h';exact z.2
   ·have h':(if q.toList.all (fun i=>decide (i<ss.length))=true/\q.toList.length<=64 then some q.toList else none)=some p:=h;rw[ak z]at h';cases h'
section
variable {prog:Program}
theorem BL{x y:Addr}{ox oy:Obj}{a b:Str}{t u:Tok}{p q:Value}{n k:Nat}{Q:Bool->Shared->Prop}(hx:s.heap.get? x=some ox)(dx:ox.data=.seq #[.str a t,p] n) (hy:s.heap.get? y=some oy) (dy:oy.data=.seq #[.str b u,q] k) (fT:a≠b)
  (h:Q (decide (a.cps.toList<b.cps.toList)) s):wpAny (model prog w) A (keyLt' (tuples' true) (.ref x) (.ref y)) Q E s:=by
 refine PySem.W.kat_lt hx dx hy dy (PySem.W.kat_cons (wpAny_eqBool_str ?_));rw[d_ fT];exact PySem.W.kat_no (oneLt_str h)
end
section
variable {prog:Program}
theorem uG{vs:List Value}{n:Nat}{P:PySem.Fin->Shared->Prop}(ho:s.heap.get? a=some (seqObj "list" vs.toArray n))(h2:vs.length<2)
  (h:∀h' c,(∀b o,b≠a->s.heap.get? b=some o->h'.get? b=some o)->h'.get? a=some (seqObj "list" vs.toArray c)->P (.done (.ret .none)) {s with heap:=h'}):
  wpAny (model prog w) A (Builtin.«list.sort» ⟨[.ref a],[]⟩) P E s:=by
 rw[list_sort_plain];have ha:a<s.heap.objs.size:=aF ho;refine af (listItems_at ho rfl ?_);refine af (listUpdate_at ho rfl ?_ (by rw[b_,cR];omega) (dh _));obtain⟨e1,Oi⟩:∃e1,(s.heap.update a (Obj.mapSeq fun _=>#[])).get? a=some (seqObj "list" #[] e1):=⟨_,get?_update_seq ho (fun _=>#[])⟩;refine af (seqEpoch_at Oi rfl ?_);refine af (wpAny_newTuple ?_ (by rw[cR];simp;omega));refine af (nH ?_ (dh _));refine dO ?_
 have ho6:(((s.heap.update a (Obj.mapSeq fun _=>#[])).push (seqObj "tuple" vs.toArray 0)).push (seqObj "list" #[] 0)).get? a=some (seqObj "list" #[] e1):=by
  rw[Heap.get?_push_ne _ _ _ (by rw[size_push',Heap.size_update];exact bc (jX ha)),Heap.get?_push_ne _ _ _ (by rw[Heap.size_update];exact bc ha)];exact Oi
 show wpAny (model prog w) A _ P E {s with heap:=((s.heap.update a (Obj.mapSeq fun _=>#[])).push (seqObj "tuple" vs.toArray 0)).push (seqObj "list" #[] 0)};dsimp only;have h2':vs.toArray.size<2:=by simpa using h2
 rw[ag h2',ag h2'];refine af (ar ?_);rw[StateT.run_pure];refine af (ar ?_);dsimp only;refine af (seqEpoch_at ho6 rfl ?_);refine af (listUpdate_at ho6 rfl ?_ (dh _) (by rw[Array.size_map];show(pairsOf vs).size<=_;rw[pairsOf_size,cR];omega));simp only[qW,cu,bw];refine ar ?_
 have eo:(vs.toArray.zip vs.toArray).map (·.2)=vs.toArray:=by
  apply Array.toList_inj.mp;simp only[Array.toList_map,Array.toList_zip];exact List.map_snd_zip (aN _)
 obtain⟨e,he⟩:=sortedHeap_at (out:=(vs.toArray.zip vs.toArray).map (·.2)) ho;refine h (sortedHeap s.heap a vs ((vs.toArray.zip vs.toArray).map (·.2))) e (fun b o hb q=>(sortedHeap_old hb (aF q)).trans q) ?_
 rw[he,eo]
end
theorem MR{kvs:List (Key×V)}{vs:List (Key×Value)}(r:KV kvs vs){k:Key}{v:V}(e:kvs[i]?=some (k,v)):∃u,vs[i]?=some (k,u)/\RelV v u:=by
 have r':Paired _ kvs vs:=r
 clear r
 induction r' generalizing i with
 |nil=>simp at e
 |cons h t ih=>
  cases i with
  |zero=>
   simp at e;rename_i a b _ _;obtain⟨h1,h2⟩:=h;obtain⟨b1,b2⟩:=b;subst e;exact⟨b2,by simpa using h1.symm,h2⟩
  |succ i=>obtain⟨u,x,y⟩:=ih (i:=i) (by simpa using e);exact⟨u,by simpa using x,y⟩
theorem wJ{b:Addr}:∀{l:List (Addr×List V)} {H:Hp},b∉l.map (·.1)->pU H l b=H b
 |[],_,_=>rfl
 |p::l,H,h=>by
  rw[aO]at h;show pU (upd H p.1 (.tup p.2)) l b=_;rw[wJ fun z=>h (bI _ z),ay fun z=>h (by rw[z];exact bR ..)]
theorem yN(f:Nat->Addr):∀p:List Nat,Vals (p.map fun i=>V.ref (f i)) (p.map fun i=>Value.ref (f i))
 |[]=>.nil
 |i::p=>.cons rfl (yN f p)
def zL(h:Heap)(L D:Addr):List (Addr×Obj):=(Dz h L).filter fun p=>decide (p.1≠D)
theorem iy{h:Heap}{L D b:Addr}{o:Obj}:(b,o)∈zL h L D↔b≠L/\b≠D/\h.get? b=some o:=by
 unfold zL;rw[gj,DA,jq];exact⟨fun z=>⟨z.1.1,z.2,z.1.2⟩,fun z=>⟨⟨z.1,z.2.2⟩,z.2.1⟩⟩
theorem wK{h:Heap}:∀{as:List Addr} {ss:List Str},as.length=ss.length->(∀(i:Nat) (a:Addr) (z:Str),as[i]?=some a->ss[i]?=some z->∃t x,h.get? a=some {cls:=.type "tuple",data:=.seq #[.str z t,x]})->∃fs:List Value,PySem.W.KatTups h (as.map Value.ref) fs/\fs.length=ss.length/\∀v∈fs,∃z t,v=Value.str z t
 |[],[],_,_=>⟨[],.nil,rfl,fun v m=>(nomatch m)⟩
 |[],_::_,e,_=>by cases e
 |_::_,[],e,_=>by cases e
 |a::as,z::ss,e,k=>by
  obtain⟨t,x,g⟩:=k 0 a z rfl rfl;obtain⟨fs,h1,h2,h3⟩:=wK (as:=as) (ss:=ss) (by simpa using e) fun i b y e1 e2=>k (i+1) b y (by simpa using e1) (by simpa using e2);refine⟨.str z t::fs,.cons g rfl rfl rfl h1,by rw[cG,cG,h2],fun v m=>?_⟩;rcases aE.mp m with rfl|m
  ·exact⟨z,t,rfl⟩
  ·exact h3 v m
theorem JG{α β:Type}:∀{xs:List α} {ys:List β} {p:α×β},p∈xs.zip ys->∃i:Nat,xs[i]?=some p.1/\ys[i]?=some p.2
 |[],_,_,h=>by simp at h
 |_::_,[],_,h=>by simp at h
 |x::xs,y::ys,p,h=>by
  rw[List.zip_cons_cons]at h;rcases aE.mp h with rfl|h
  ·exact⟨0,rfl,rfl⟩
  ·obtain⟨i,a,b⟩:=JG h;exact⟨i+1,by simpa using a,by simpa using b⟩
section
theorem xQ(hc:X.calm=true):fj X (.builtin "sorted") (fun xs H Q=>∃(v d:Addr) (kvs:List (Key×V)) (ss:List Str) (p:List Nat),xs=[.ref v]/\H v=some (uq v d)/\Rd H d (.dK kvs)/\kvs.map (·.1)=ss.map Sum.inr/\ss.length<64/\fU ss=some p/\
  ∀(as:List Addr) (D:Addr),as.length=kvs.length->as.Nodup->(∀a∈as,H a=none)->D∉as->H D=none->Q (.ref D) (upd (pU H (as.zip (kvs.map fun q=>[kV q.1,q.2]))) D (.lst (p.map fun i=>V.ref (as.getD i 0))))):=by
 intro U s Z H xs us Q I r h;obtain⟨v,d,kvs,ss,p,rfl,hv,hd,hk,Dl,hp,q⟩:=h;obtain⟨u,rfl,ru⟩:=vals1 r;cases(show u=Value.ref v from ru);obtain⟨hz,hs,vs,rv,hm⟩:=(show ck X.prog X.w H s.heap d (.dK kvs)from hd.ok I.cj);obtain⟨ep,hm⟩:=hm.dictAt;have Wa:s.heap.IsItemsView v d:=(show ck X.prog X.w H s.heap v (uq v d)from I.cj v _ hv).1;have Wb:=qj rv;have ZV:kvs.length=ss.length:=by have q:=cw List.length hk;rw[aC,aC]at q;exact q
 have ZW:ss.Nodup:=by
  obtain⟨_,_,_,_,_,_,_,nd⟩:=hm;have e:vs.map (·.1)=ss.map Sum.inr:=by
   rw[<-hk];refine nk fun i=>?_
   rw[bg,bg];cases e:kvs[i]? with
   |none=>
    have h1:vs[i]?=none:=g6.mpr (by rw[<-Wb];exact g6.mp e)
    rw[h1];rfl
   |some p=>
    obtain⟨z,e6⟩:=zr rv (k:=p.1) (v:=p.2) e;rw[e6];rfl
  rw[e]at nd;exact List.Pairwise.of_map Sum.inr (fun a b z e=>z (by rw[e])) nd
 refine call_function_entry kind_sorted plain_sorted entry_sorted (args_sorted1 _) ?_
 unfold Builtin.«sorted»;refine af (m:=checkCount "sorted" 1 1 _) (ar ?_);refine af (PySem.W.kdx_collect (A:=X.A.in1) (knd:=bx X.prog X.w) (kvs:=vs) (ep:=ep) (I.ok.hd hc) Wa hm (by rw[<-Wb];exact hz) fun h1 tk as XM hl hG=>?_);refine af (nH ?_ (by rw[aC,hl,<-Wb];exact hz));have D4:(h1.push (seqObj "list" (as.map Value.ref).toArray 0)).get? h1.objs.size=some (seqObj "list" (as.map Value.ref).toArray 0):=bE _ rfl;have Oy:∀i a,as[i]?=some a->∃z y t,ss[i]?=some z/\kvs[i]?=some (Sum.inr z,y)/\∃x,RelV y x/\h1.get? a=some {cls:=.type "tuple",data:=.seq #[.str z t,x]}:=fun i a e=>by
  obtain⟨key,k,x,e1,e2,e3⟩:=hG.pairs i a e;have hi:i<kvs.length:=by rw[Wb];exact(eR.mp e1).1
  have e4:kvs[i]?=some kvs[i]:=bb hi
  generalize kvs[i]=kv at e4;obtain⟨x',e6,rx⟩:=MR rv (k:=kv.1) (v:=kv.2) e4;rw[e1]at e6;cases e6;have e7:(kvs.map (·.1))[i]?=some kv.1:=by rw[bg,e4];rfl
  rw[hk,bg]at e7;cases e8:ss[i]? with
  |none=>rw[e8]at e7;cases e7
  |some z=>
   rw[e8]at e7;have e9:Sum.inr z=kv.1:=by simpa using e7
   obtain⟨t,rfl⟩:∃t,key=Value.str z t:=by
    rw[<-e9]at e2;exact Value.isStrOf_shape e2
   exact⟨z,kv.2,t,e8,by rw[e4,e9],x,rx,e3⟩
 obtain⟨m,PC,_⟩:=id I.loc;have hL:X.env.locals<s.heap.objs.size:=I.lt;have XN:∀a∈as,s.heap.objs.size<=a:=fun a ha=>cQ (hG.above a ha);have aD:∀a∈as,a≠h1.objs.size:=fun a ha=>bc (hG.there ha);have aL:∀a∈as,a≠X.env.locals:=fun a ha=>cJ (cn hL (XN a ha));have asz:∀b o,s.heap.get? b=some o->b<h1.objs.size:=fun b o e=>aF (XM b o e);have J:Inv X U Z H {s with heap:=h1,toks:=tk}:=I.kept XM;have RC:H h1.objs.size=none:=J.fresh;have hDf:jQ X U H h1.objs.size:=J.vC (aN _) RC;have hD0:X.eZ.heap.objs.size<=h1.objs.size:=J.sz;have hDL:h1.objs.size≠X.env.locals:=cJ J.lt;have JH:as.length=ss.length:=by rw[hl,<-Wb,ZV]
 have nda:as.Nodup:=hG.rise.imp fun h=>bc h;have hkl:(as.zip (kvs.map fun q=>[kV q.1,q.2])).map (·.1)=as:=List.map_fst_zip (by rw[aC,JH,ZV];exact aN _);have fin:∀h' c,(∀b o,b≠X.env.locals->b≠h1.objs.size->(h1.push (seqObj "list" (as.map Value.ref).toArray 0)).get? b=some o->h'.get? b=some o)->h'.Ns X.env.locals m->
   h'.get? h1.objs.size=some (seqObj "list" (p.map fun i=>Value.ref (as.getD i 0)).toArray c)->EP X U Z Q (.ref h1.objs.size) {s with heap:=h',toks:=tk}:=by
  intro h' c kp NN hD;have kp1:∀b o,b≠X.env.locals->b≠h1.objs.size->h1.get? b=some o->h'.get? b=some o:=fun b o n1 n2 e=>kp b o n1 n2 (aX _ e);have I1:Inv X U Z H {s with heap:=h',toks:=tk}:=I.Jz PC NN fun b o n e=>kp1 b o n (bc (asz b o e)) (XM b o e);have xN:∀b,s.heap.objs.size<=b->jQ X U H b:=fun b hb=>I.vC hb (I.cj.fresh hb);have I2:=I1.BK (l:=as.zip (kvs.map fun q=>[kV q.1,q.2])) (by rw[hkl];exact nda) fun t ht=>by
   obtain⟨i,e1,e2⟩:=JG ht;obtain⟨z,y,uE,_,e4,x,rx,e5⟩:=Oy i t.1 e1;have ha:t.1∈as:=cV e1;rw[bg,e4]at e2;have e6:[V.str z,y]=t.2:=Option.some.inj e2;refine⟨bJ I.sz (XN _ ha),xN _ (XN _ ha),by rw[<-e6];show 2<=sizeLine;decide,[.str z uE,x],by rw[<-e6];exact .cons ⟨uE,rfl⟩ (.cons rx .nil),⟨_,kp1 _ _ (aL _ ha) (aD _ ha) e5,rfl,_,rfl⟩⟩
  have ZX:pU H (as.zip (kvs.map fun q=>[kV q.1,q.2])) h1.objs.size=none:=by
   rw[wJ (by rw[hkl];exact fun z=>aD _ z rfl)];exact RC
  have mL:p.length<=sizeLine:=bJ (DE hp) (by decide);refine⟨.ref h1.objs.size,_,I2.adopt (o:=.lst (p.map fun i=>V.ref (as.getD i 0))) hD0 ⟨ZX,hDf.2⟩ ⟨by rw[aC];exact mL,_,c,yN _ p,hD⟩,rfl,q as h1.objs.size (by rw[JH,ZV]) nda (fun a ha=>I.cj.fresh (XN a ha)) (fun z=>aD _ z rfl) RC⟩
 refine af (dO (fG slot_list_sort ⟨_,D4,rfl⟩ entry_list_sort ?_ (args_list_sort _)));have Wc:(h1.push (seqObj "list" (as.map Value.ref).toArray 0)).Ns X.env.locals m:=by
  obtain⟨o,es,Hx,ho,r'⟩:=PC;exact⟨o,es,Hx,aX _ (XM _ _ ho),r'⟩
 by_cases h2:ss.length<2
 ·have ep:p=List.range ss.length:=by
   unfold fU at hp;rw[ag h2]at hp;exact(Option.some.inj hp).symm
  have eo:as.map Value.ref=p.map fun i=>Value.ref (as.getD i 0):=by
   rw[ep,<-JH];refine nk fun i=>?_
   rw[bg,bg];by_cases hi:i<as.length
   ·rw[List.getElem?_range hi,bb hi];simp[hi]
   ·rw[g6.mpr (by omega),g6.mpr (by rw[qX];omega)]
    rfl
  refine uG D4 (by rw[aC,JH];exact h2) fun h' c kp hD=>⟨_,rfl,ar ⟨_,rfl,?_⟩⟩;refine fin h' c (fun b o _ n e=>kp b o n e) ?_ (by rw[<-eo];exact hD)
  obtain⟨o,es,Hx,ho,r'⟩:=Wc;exact⟨o,es,Hx,kp _ _ hDL.symm ho,r'⟩
 ·obtain⟨q9,er,sV,ep⟩:∃q9:Array Nat,oA ss.length (wI ss) (PySem.W.kas_sort ss.length)=some q9/\q9.toList.all (fun i=>decide (i<ss.length))=true/\p=q9.toList:=by
   unfold fU at hp;rw[ak h2]at hp;cases e:oA ss.length (wI ss) (PySem.W.kas_sort ss.length)with
   |none=>rw[e]at hp;cases hp
   |some q9=>
    rw[e]at hp;have Oj:(if q9.toList.all (fun i=>decide (i<ss.length))=true/\q9.toList.length<=64 then some q9.toList else none)=some p:=hp;by_cases z:q9.toList.all (fun i=>decide (i<ss.length))=true/\q9.toList.length<=64
    ·rw[ag z]at Oj;exact⟨q9,rfl,z.1,(Option.some.inj Oj).symm⟩
    ·rw[ak z]at Oj;cases Oj
  have F:Fr zI X.env.locals (h1.push (seqObj "list" (as.map Value.ref).toArray 0)) m:=⟨Wc,(fun b o e=>by rw[oz]at e;cases e),dh _⟩;have N:News zI X.env.locals (h1.push (seqObj "list" (as.map Value.ref).toArray 0)) (zL (h1.push (seqObj "list" (as.map Value.ref).toArray 0)) X.env.locals h1.objs.size):=fun t ht=>by
   obtain⟨n1,n2,e⟩:=iy.mp (show(t.1,t.2)∈_ from ht);exact⟨e,n1,oz _⟩
  refine PySem.W.kat_list_sort (s:={s with heap:=h1.push (seqObj "list" (as.map Value.ref).toArray 0),toks:=tk}) F N D4 hDL (oz _) (fun t ht=>(iy.mp (show(t.1,t.2)∈_ from ht)).2.1) (by rw[aC,JH];omega) (by rw[aC,JH];exact Dl) fun e1 h' F' N'=>?_
  have tp:∀(i:Nat) (a:Addr) (z:Str),as[i]?=some a->ss[i]?=some z->∃t x,h'.get? a=some {cls:=.type "tuple",data:=.seq #[.str z t,x]}:=fun i a z ea ez=>by
   obtain⟨z',y,t,e3,_,x,_,e5⟩:=Oy i a ea;rw[ez]at e3;cases e3;have ha:a∈as:=cV ea;exact⟨t,x,(N' (a,_) (bI _ (iy.mpr ⟨aL a ha,aD a ha,aX _ e5⟩))).1⟩
  obtain⟨fs,kt,fl,ZY⟩:=wK JH tp;refine PySem.W.kat_kind (T:=.type "str") kt (by rw[fl];omega) (fun v hv=>by obtain⟨z,t,rfl⟩:=ZY v hv;exact .of_pure rfl) (by decide) ?_
  rw[show(Value.type "str" !=Value.type "tuple")=true by decide,aC,JH];refine yM (fun i j C hi hj zd hC=>?_) _ er ?_
  ·have ei:as[i]?=some as[i]:=bb (by rw[JH];exact hi)
   have ej:as[j]?=some as[j]:=bb (by rw[JH];exact hj)
   generalize as[i]=a at ei;generalize as[j]=b at ej;have zi:ss[i]?=some ss[i]:=bb hi
   have zj:ss[j]?=some ss[j]:=bb hj
   obtain⟨t1,x1,g1⟩:=tp i a _ ei zi;obtain⟨t2,x2,g2⟩:=tp j b _ ej zj;have va:(as.map Value.ref).getD i Value.none=Value.ref a:=by rw[dg,bg,ei];rfl
   have vb:(as.map Value.ref).getD j Value.none=Value.ref b:=by rw[dg,bg,ej];rfl
   show wpAny _ _ (keyLt' _ ((as.map Value.ref).getD i Value.none) ((as.map Value.ref).getD j Value.none)) _ _ _;rw[va,vb];refine BL g1 rfl g2 rfl (fun e=>zd (rJ ZW zi (by rw[zj,e]))) ?_
   have e9:wI ss i j=decide (ss[i].cps.toList<ss[j].cps.toList):=by
    unfold wI;rw[dg,dg,zi,zj]
    rfl
   rw[<-e9];exact hC
  ·refine PySem.W.KasFin.intro F' N' (.head fun t ht=>(iy.mp (show(t.1,t.2)∈_ from ht)).2.1) fun h'' c F'' N''=>⟨_,rfl,ar ⟨_,rfl,?_⟩⟩;have eo:(q9.toList.map fun i=>(as.map Value.ref).getD i Value.none)=p.map fun i=>Value.ref (as.getD i 0):=by
    rw[ep];refine fE fun i hi=>?_
    have Xv:i<as.length:=by rw[JH];exact dk (cO.mp sV i hi)
    rw[dg,dg,bg,bb Xv]
    rfl
   refine fin h'' c (fun b o n1 n2 e=>(N'' (b,o) (bI _ (iy.mpr ⟨n1,n2,e⟩))).1) F''.ns ?_
   rw[<-eo];exact(N'' _ (bR ..)).1
def pV:List (Key×Tr)->Option (List Str)
 |[]=>some []
 |(.inr z,_)::r=>(pV r).map fun s=>z::s
 |_=>none
theorem sA:∀{aG:List (Key×Tr)} {ss:List Str},pV aG=some ss->aG.map (·.1)=ss.map Sum.inr
 |[],_,h=>by cases h;rfl
 |(.inr z,_)::r,ss,h=>by
  have h':(pV r).map (fun s=>z::s)=some ss:=h;cases e:pV r with
  |none=>rw[e]at h';cases h'
  |some s=>rw[e]at h';cases h';rw[aO,aO,sA e]
 |(.inl _,_)::_,_,h=>by cases h
def uS:Tr->Rs Tr
 |.bo aG=>mM ((pV aG).bind fun ss=>if ss.length<64/\(ss.all fun z=>decide (z.length<=bV))=true then(fU ss).map fun p=>Tr.lst (p.map fun i=>.tup [.str (ss.getD i ""),(aG.map (·.2)).getD i .bK])else none)
 |_=>.bad
theorem DF{t:Tr}{k:Tr->Prop}(q:Fi X H (uS t) k):∃aG ss p,t=.bo aG/\pV aG=some ss/\ss.length<64/\(∀z∈ss,z.length<=bV)/\fU ss=some p/\k (.lst (p.map fun i=>.tup [.str (ss.getD i ""),(aG.map (·.2)).getD i .bK])):=by
 cases t with
 |bo aG=>
  obtain⟨x,e,kx⟩:=fc q;cases e1:pV aG with
  |none=>rw[e1]at e;cases e
  |some ss=>
   rw[e1]at e;have e':(if ss.length<64/\(ss.all fun z=>decide (z.length<=bV))=true then(fU ss).map fun p=>Tr.lst (p.map fun i=>.tup [.str (ss.getD i ""),(aG.map (·.2)).getD i .bK])else none)=some x:=e;by_cases z:ss.length<64/\(ss.all fun z=>decide (z.length<=bV))=true
   ·rw[ag z]at e';cases e2:fU ss with
    |none=>rw[e2]at e';cases e'
    |some p=>
     rw[e2]at e';cases e';exact⟨aG,ss,p,rfl,e1,z.1,fun y hy=>dk (cO.mp z.2 y hy),e2,kx⟩
   ·rw[ak z]at e';cases e'
 |_=>exact fe q
theorem yO{ss:List Str}{p:List Nat}(h:fU ss=some p):∀i∈p,i<ss.length:=by
 unfold fU at h;split at h
 ·cases h;exact fun i hi=>rh.mp hi
 ·cases e:oA ss.length (wI ss) (PySem.W.kas_sort ss.length)with
  |none=>rw[e]at h;cases h
  |some q=>
   rw[e]at h;have h':(if q.toList.all (fun i=>decide (i<ss.length))=true/\q.toList.length<=64 then some q.toList else none)=some p:=h;by_cases z:q.toList.all (fun i=>decide (i<ss.length))=true/\q.toList.length<=64
   ·rw[ag z]at h';cases h';exact fun i hi=>dk (cO.mp z.1 i hi)
   ·rw[ak z]at h';cases h'
variable {p1 bh:Pos}
theorem E3{W:Vw}{f:Nat->V}{g:Nat->Tr}:∀{p:List Nat},(∀i∈p,Rep K W (f i) (g i))->aV K W (p.map f) (p.map g)
 |[],_=>.nil
 |i::p,h=>.cons (h i (bR ..)) (E3 fun j m=>h j (bI _ m))
theorem JI(hs:X.mg "sorted"=none)(ho:PE X o (tP X F))(hc:X.calm=true:=by rfl) (hg:Gl X "sorted":=by rfl) (hb:isCall o=false:=by rfl) (eL:(b6.endLine==bh.line)=true:=by rfl):
  PE X (.Call (.Name "sorted" p1) [.Call (.Attribute o "items" b6) [] [] bh] [] pos) (tP X fun Y=>(F Y).bind uS):=
 (nP (xQ hc) hg hs rfl (j6 (JF ho (e_ hb) eL) p8 (aS _ _ rfl)) (by decide) (by decide) (aS _ _ rfl) (bZ (es:=[]) rfl)).weak fun Z H Q ⟨B,Y,hb,r,q⟩=>⟨B,Y,hb,r,q.bind.mono fun t qt v H1 s1 rv=>by
  obtain⟨aG,ss,p,rfl,e1,Dl,htx,e2,k⟩:=DF qt;cases rv with
  |@bo a kvs _ h ek rr=>
   refine⟨a,kvs,rfl,Rd.same aT h,fun vw hvw=>⟨vw,a,kvs,ss,p,rfl,aU,Rd.same (au.upd hvw) (Rd.same aT h),by rw[ek];exact sA e1,Dl,e2,fun as D hl ZW hn hD ZX=>?_⟩⟩;have C':=hb.same s1;have sv:au H1 (upd H1 vw (uq vw a)):=au.upd hvw;have Mp:=C'.same sv;have hlz:(as.zip (kvs.map fun q=>[kV q.1,q.2])).map (·.1)=as:=List.map_fst_zip (by rw[aC,hl];exact aN _);obtain⟨st,gt⟩:=wH (H:=upd H1 vw (uq vw a)) (l:=as.zip (kvs.map fun q=>[kV q.1,q.2])) (by rw[hlz];exact ZW) fun t ht=>hn t.1 (rb ht).1;have hDt:pU (upd H1 vw (uq vw a)) (as.zip (kvs.map fun q=>[kV q.1,q.2])) D=none:=by rw[wJ (by rw[hlz];exact hD)];exact ZX
   have sd:=au.upd (o:=.lst (p.map fun i=>V.ref (as.getD i 0))) hDt;refine k _ _ (((s1.trans sv).trans st).trans sd) (.lst (vs:=p.map fun i=>V.ref (as.getD i 0)) ?_ (E3 fun i hi=>?_))
   ·exact((Mp.same st).new hDt)
   ·have Wd:=yO e2 i hi;have ekl:kvs.length=ss.length:=by
     have q9:=cw List.length (ek.trans (sA e1));rw[aC,aC]at q9;exact q9
    have ZZ:i<as.length:=by rw[hl,ekl];exact Wd
    have Uc:i<kvs.length:=by rw[ekl];exact Wd
    have ea:as.getD i 0=as[i]:=by rw[dg,bb ZZ];rfl
    have ez:ss.getD i ""=ss[i]:=by rw[dg,bb Wd];rfl
    have ekz:kvs[i].1=Sum.inr ss[i]:=by
     have q9:=cw (fun l=>l[i]?) (ek.trans (sA e1));simp only[bg,bb Uc,bb Wd,cW]at q9;exact Option.some.inj q9
    have hm:(as[i],[V.str ss[i],kvs[i].2])∈as.zip (kvs.map fun q=>[kV q.1,q.2]):=by
     have q9:(as.zip (kvs.map fun q=>[kV q.1,q.2]))[i]?=some (as[i],[V.str ss[i],kvs[i].2]):=by
      rw[List.getElem?_zip_eq_some];refine⟨bb ZZ,?_⟩;rw[bg,bb Uc];show some [kV kvs[i].1,kvs[i].2]=_;rw[ekz];rfl
     exact cV q9
    have g1:=gt _ hm;have nB:B.hd as[i]=false:=Mp.free (hn _ (jt ZZ));have g2:(bq B (upd (pU (upd H1 vw (uq vw a)) (as.zip (kvs.map fun q=>[kV q.1,q.2]))) D (.lst (p.map fun i=>V.ref (as.getD i 0))))).H as[i]=some (.tup [V.str ss[i],kvs[i].2]):=by
     rw[fm nB];exact sd _ _ g1
    obtain⟨tv,et,rt⟩:=rr.vU (i:=i) (v:=kvs[i].2) (by rw[bg,bb Uc];rfl);have etd:(aG.map (·.2)).getD i .bK=tv:=by rw[dg,et];rfl
    rw[ea,ez,etd];exact .tup (.of g2) (.cons (.str _ (htx _ (jt Wd))) (.cons (rt.same (aR ((sv.trans st).trans sd))) .nil))⟩
end
structure QE(X:Cx)(e:Expr)(F:aQ->Rs Tr):Prop where
 h:PE X e (tP X F)
structure QT(X:Cx)(e:Expr)(F:aQ->Rs Bool):Prop where
 h:PT X e (tQ X F)
structure QW(X:Cx)(e:Expr)(F:aQ->Rs Bool):Prop where
 h:PW X e (tQ X F)
structure QA(X:Cx)(e:List Expr)(F:aQ->Rs (List Tr)):Prop where
 h:PA X e (AW X F)
structure QS(X:Cx)(e:Stmt)(F:aQ->Rs Out):Prop where
 h:PS X e (tS X F)
structure QB(X:Cx)(e:List Stmt)(F:aQ->Rs Out):Prop where
 h:m6 X e (tS X F)
structure QG(X:Cx)(e:Expr)(F:pP):Prop where
 h:PG X e (tG X F)
structure XO(X:Cx)(e:List Expr)(F:List Tr->aQ->Rs aQ):Prop where
 h:Lh X e (SI X F)
structure QI(X:Cx)(tg e:Expr)(F:aQ->Rs (List Tr)):Prop where
 h:PI X tg e (tI X F)
structure QJ(X:Cx)(tg e:Expr)(F:aQ->Rs (List Tr)):Prop where
 h:PI X tg e (tJ X F)
structure QO(X:Cx)(e:Option Expr)(F:aQ->Rs (Option Int)):Prop where
 h:PO X e (tO X F)
structure QF(X:Cx)(e:List Expr)(F:aQ->Rs Bool):Prop where
 h:PF X e (tQ X F)
structure ZE(X:Cx)(e:Expr)(F:aQ->Ab->Rz Tr):Prop where
 h:PE X e (tE X F)
structure NE(X:Cx)(e:Expr)(F:aQ->Rs Tr):Prop where
 h:PE X e (tF X F)
structure ZT(X:Cx)(e:Expr)(F:aQ->Ab->Rz Bool):Prop where
 h:PT X e (Of X F)
structure ZL(X:Cx)(e:List Expr)(F:aQ->Ab->Rz (List Tr)):Prop where
 h:PA X e (K5 X F)
structure ZS(X:Cx)(e:Stmt)(F:aQ->Ab->Rz Out):Prop where
 h:PS X e (tZ X F)
structure ZB(X:Cx)(e:List Stmt)(F:aQ->Ab->Rz Out):Prop where
 h:m6 X e (tZ X F)
structure BM(X:Cx)(scope:Scope)(N':List Str)(tg elt:Expr)(ifs:List Expr)(T:pP)(A:aQ->Rs Bool)(F:aQ->Rs Tr):Prop where
 all:∀s H ex,QG (r6 X scope N' s H ex) tg T/\QF (r6 X scope N' s H ex) ifs A/\QE (r6 X scope N' s H ex) elt F
theorem BM.to {scope:Scope}{N':List Str}{tg elt:Expr}{ifs:List Expr}{T:pP}{A:aQ->Rs Bool}(b:BM X scope N' tg elt ifs T A F):LV X scope N' tg elt ifs T A F:=
 ⟨fun s H ex=>⟨(b.all s H ex).1.h,(b.all s H ex).2.1.h,(b.all s H ex).2.2.h⟩⟩
section
variable {a b c:Expr}{E:aQ->Rs Tr}
theorem aa(i:Nat)(hN:X.N[i]?=some x:=by rfl) (hv:Xe X.env.scope x:=by first|exact Or.inl rfl|exact Or.inr (Or.inl rfl)|exact Or.inr (Or.inr rfl)) (hd:Db x:=by decide) (Cy:(x==("__classdict__":Str))=false:=by decide):QE X (.Name x pos) (fun Y=>cq Y i):=⟨Ud i hN hv hd Cy⟩
theorem bu{i:Int}{j pos}:QE X (.Constant (.int i) j pos) (fun _=>.ok (.int i)):=⟨Ue⟩
theorem zM{b:Bool}{j pos}:QE X (.Constant (.bool b) j pos) (fun _=>.ok (.bl b)):=⟨YJ⟩
theorem fA{j pos}:QE X (.Constant .none j pos) (fun _=>.ok .bK):=⟨Ug⟩
theorem ah{z:Str}{j pos}(hz:z.length<=bV:=by decide):QE X (.Constant (.str z) j pos) (fun _=>.ok (.str z)):=⟨Uh hz⟩
theorem BN{n:String}(hm:X.mg x=none)(hv:bootBuiltins x=some (.type n):=by rfl) (hg:Gl X x:=by rfl) (hn:x≠"__name__":=by decide) (hd:Db x:=by decide):QE X (.Name x pos) (fun _=>.ok (.ty n)):=⟨YK hm hv hg hn hd⟩
theorem dN{op:Operator}{h:Tr->Tr->Rs Tr}(ho:Ct X (binaryOp op) h)(ha:QE X a F)(hb:QE X b G):QE X (.BinOp a op b pos) (fun Y=>j7 h (F Y) (G Y)):=⟨Uj ho ha.h hb.h⟩
theorem E4{op:CmpOp}{h:Tr->Tr->Rs Tr}(ho:Ct X (compareOp op) h)(ha:QE X a F)(hb:QE X b G)(hm:behindInMarks op b=false:=by first|exact y8 _|rfl|with_unfolding_all rfl):QE X (.Compare a [op] [b] pos) (fun Y=>j7 h (F Y) (G Y)):=⟨Uk ho ha.h hb.h hm⟩
theorem bp{op:CmpOp}{h:Tr->Tr->Rs Tr}(ho:Ct X (compareOp op) h)(ha:QE X a F)(hb:QE X b G)(hm:behindInMarks op b=false:=by first|exact y8 _|rfl|with_unfolding_all rfl):QT X (.Compare a [op] [b] pos) (fun Y=>SH (j7 h (F Y) (G Y))):=⟨Ul ho ha.h hb.h hm⟩
theorem mR(ha:QE X a F)(he:lC a=true:=by rfl):QT X a (fun Y=>(F Y).bind ky):=⟨Um ha.h he⟩
end
section
variable {a b c:Expr}{E:aQ->Rs Tr}{A B:aQ->Rs Bool}{c7:List Expr}
theorem yP(ha:QT X a A):QT X (.UnaryOp .Not a pos) (fun Y=>uz (A Y)):=⟨Uo ha.h⟩
theorem tN(ha:QT X a A):QW X (.BoolOp .And [a] pos) A:=⟨PV ha.h⟩
theorem E5(ha:QT X a A):QW X (.BoolOp .Or [a] pos) A:=⟨Up ha.h⟩
theorem yQ(ha:QT X a A)(hb:QW X (.BoolOp .And (b::c7) pos) B):QW X (.BoolOp .And (a::b::c7) pos) (fun Y=>Io (A Y) (B Y)):=⟨w_and ha.h hb.h⟩
theorem MS(ha:QT X a A)(hb:QW X (.BoolOp .Or (b::c7) pos) B):QW X (.BoolOp .Or (a::b::c7) pos) (fun Y=>Xp (A Y) (B Y)):=⟨w_or ha.h hb.h⟩
theorem kE{op}{es:List Expr}(h:QW X (.BoolOp op es pos) A):QT X (.BoolOp op es pos) A:=⟨PX h.h⟩
theorem JJ(ha:QE X a F)(hb:QE X (.BoolOp .And (b::c7) pos) G):QE X (.BoolOp .And (a::b::c7) pos) (fun Y=>Uq (F Y) (G Y)):=⟨Ur ha.h hb.h⟩
theorem Oz{op}(h:QE X a F):QE X (.BoolOp op [a] pos) F:=⟨Us h.h⟩
theorem DG(hc:QT X c A)(ha:QE X a F)(hb:QE X b G):QE X (.IfExp c a b pos) (fun Y=>Ip (A Y) (F Y) (G Y)):=⟨YL hc.h ha.h hb.h⟩
end
section
variable {a b c:Expr}{E:aQ->Rs Tr}{A B:aQ->Rs Bool}{c7:List Expr}{es:List Expr}
theorem aw:QA X [] (fun _=>.ok []):=⟨Eo⟩
theorem ae(ha:QE X a F)(hr:QA X es L)(hs:isStar a=false:=by rfl):QA X (a::es) (fun Y=>bt (F Y) (L Y)):=⟨zf ha.h hr.h hs⟩
theorem bM{x1}(h:QA X es L):QE X (.Tuple es x1 pos) (fun Y=>pJ (L Y)):=⟨Ut h.h⟩
theorem sC(h:QA X es L):QE X (.List es pos) (fun Y=>Iq (L Y)):=⟨Uu h.h⟩
theorem bY{id:String}(hc:j9 X (.builtin id) h)(hm:X.mg x=none)(ha:QA X (e::es) L)(hv:bootBuiltins x=some (.builtin id):=by rfl) (hg:Gl X x:=by rfl) (hn:x≠"__name__":=by decide) (dZ:Db x:=by decide) (bH:aH (e::es)=true:=by rfl):QE X (.Call (.Name x p) (e::es) [] pos) (fun Y=>bP h (L Y)):=⟨LP hc hm ha.h hv hg hn dZ bH⟩
theorem dq{T:String}(hc:j9 X (.type T) h)(hm:X.mg x=none)(ha:QA X (e::es) L)(hv:bootBuiltins x=some (.type T):=by rfl) (hg:Gl X x:=by rfl) (hn:x≠"__name__":=by decide) (dZ:Db x:=by decide) (bH:aH (e::es)=true:=by rfl):QE X (.Call (.Name x p) (e::es) [] pos) (fun Y=>bP h (L Y)):=⟨Ir hc hm ha.h hv hg hn dZ bH⟩
theorem We{st:Stmt}{f:Addr}{fd:FuncData}{k:Nat}(D:ye X.K X.mg x st ps f fd)(G:c_ X.prog X.w X.K X.mg X.base kN k f fd ps (spT X.K h))(hr:cp k X.A)(ha:QA X (e::es) L)(hg:Gl X x:=by rfl) (dZ:Db x:=by decide) (bH:aH (e::es)=true:=by rfl):QE X (.Call (.Name x p) (e::es) [] pos) (fun Y=>bP h (L Y)):=⟨Uv D G hr ha.h hg dZ bH⟩
end
section
variable {a b c:Expr}{G G':aQ->Rs Out}{A:aQ->Rs Bool}{st:Stmt}{c7 Uw:List Stmt}
theorem dw:QB X [] (fun Y=>.ok (.nx Y)):=⟨Ux⟩
theorem bj(h1:QS X st G)(h2:QB X c7 G'):QB X (st::c7) (fun Y=>pK (G Y) G'):=⟨PZ h1.h h2.h⟩
theorem bU(h1:QS X st G):QB X [st] G:=⟨Uy h1.h⟩
theorem d4{i:Nat}{pos':Pos}(he:QE X e F)(hN:X.N.Nodup:=by assumption) (hi:X.N[i]?=some x:=by rfl) (hx:Loc X.env.scope x:=by first|exact Or.inl rfl|exact Or.inr rfl) (hs:qa e=false:=by rfl) (hf:xu X x:=by first|exact .inl rfl|exact .inr rfl|assumption):QS X (.Assign [.Name x pos'] e pos) (fun Y=>xG i (F Y) Y):=⟨UA he.h hN hi hx hs hf⟩
theorem cg(he:QE X e F):QS X (.Return (some e) pos) (fun Y=>qd (F Y)):=⟨UB he.h⟩
theorem gH{ys ns:List Stmt}(hc:QT X c A)(ha:QB X ys G)(hb:QB X ns G'):QS X (.If c ys ns pos) (fun Y=>F7 (A Y) (G Y) (G' Y)):=⟨YM hc.h ha.h hb.h⟩
theorem eO(i:Nat)(hN:X.N.Nodup:=by assumption) (hi:X.N[i]?=some x:=by rfl) (hx:Loc X.env.scope x:=by first|exact Or.inl rfl|exact Or.inr rfl) (hf:xu X x:=by first|exact .inl rfl|exact .inr rfl|assumption):QG X (.Name x pos) (gN i):=⟨P0 i hN hi hx hf⟩
theorem OA:XO X [] (CW []):=⟨UC⟩
theorem zN{es:List Expr}{i:Nat}{is:List Nat}(h2:XO X es (CW is))(hN:X.N.Nodup:=by assumption) (hi:X.N[i]?=some x:=by rfl) (hx:Loc X.env.scope x:=by first|exact Or.inl rfl|exact Or.inr rfl) (hf:xu X x:=by first|exact .inl rfl|exact .inr rfl|assumption) (hs:(assignEach (.Name x pos::es) X.env).map (·.2)=assign (.Name x pos) X.env::(assignEach es X.env).map (·.2):=by rfl):XO X (.Name x pos::es) (CW (i::is)):=⟨P4 h2.h hN hi hx hf hs⟩
theorem OB{es:List Expr}{k:Nat}{is:List Nat}(h:XO X es (CW is))(hc:X.calm=true:=by rfl) (hn:(assignEach es X.env).length=is.length:=by rfl) (bH:(assignEach es X.env).findIdx? (·.1)=none:=by rfl):QG X (.Tuple es k pos) (gT is):=⟨UD h.h hc hn bH⟩
theorem oB{tg l:Expr}(hl:QE X l F):QI X tg l (fun Y=>xI (F Y)):=⟨UE hl.h⟩
end
section
variable {a b c:Expr}{G G':aQ->Rs Out}{A:aQ->Rs Bool}{st:Stmt}{c7 Uw:List Stmt}{tg:Expr}
theorem JK(hm:X.mg "range"=none)(ha:QA X [a] L)(hg:Gl X "range":=by rfl) (hs:aH [a]=true:=by rfl):QI X tg (.Call (.Name "range" p) [a] [] pos) (fun Y=>Es (L Y)):=⟨Iy hm ha.h hg hs⟩
end
section
variable {a b c:Expr}{G G':aQ->Rs Out}{A:aQ->Rs Bool}{st:Stmt}{c7 Uw:List Stmt}{tg:Expr}{scope:Scope}{N':List Str}{ix:List (Option Nat)}{elt b8:Expr}{ifs:List Expr}{T:pP}{W:aQ->Rs (List Tr)}
theorem yR:QF X [] (fun _=>.ok true):=⟨UI⟩
theorem wL(h:QT X c A):QF X [c] A:=⟨UJ h.h⟩
theorem GS(Lk:fS X N' ix scope)(hi:QI X tg b8 W)(kO:BM X scope N' tg elt ifs T A F)(hT:iZ T)(hc:X.calm=true:=by rfl) (hs:isSet b8=false:=by rfl):QE X (.ListComp elt [⟨tg,b8,ifs,0⟩] scope pos) (fun Y=>qF ix T A F (W Y) Y):=⟨YQ Lk hi.h kO.to hT hc hs⟩
theorem MT{i:Nat}{px lB:Pos}(Lk:fS X N' ix scope)(hit:QI X tg b8 W)(kO:BM X scope N' tg elt ifs T A F)(hT:iZ T)(hN:X.N.Nodup:=by assumption) (hc:X.calm=true:=by rfl) (hi:X.N[i]?=some x:=by rfl) (hx:Loc X.env.scope x:=by first|exact Or.inl rfl|exact Or.inr rfl) (F5:swapsWith (.ListComp elt [⟨tg,b8,ifs,0⟩] scope pos) (some (.Name x px)) lB.line X.env=pure true:=by rfl) (hs:isSet b8=false:=by rfl) (hf:xu X x:=by first|exact .inl rfl|exact .inr rfl|assumption):QS X (.Assign [.Name x px] (.ListComp elt [⟨tg,b8,ifs,0⟩] scope pos) lB) (fun Y=>xG i (qF ix T A F (W Y) Y) Y):=⟨LW Lk hit.h kO.to hT hN hc hi hx F5 hs hf⟩
end
section
variable {a b:Expr}
theorem bO(hu:X.A.units+1<cLine)(ha:QE X a F)(hb:QE X b G)(hs:rQ b:=by exact fun _ _=>rfl):QE X (.Subscript a b pos) (fun Y=>j7 eJ (F Y) (G Y)):=⟨YU hu ha.h hb.h hs⟩
theorem wM:QO X none (fun _=>.ok none):=⟨Qb⟩
theorem wN(h:QE X e F):QO X (some e) (fun Y=>SM (F Y)):=⟨Qc h.h⟩
end
section
variable {a:Expr}
theorem OC(ha:QE X a F):QE X (.UnaryOp .USub a pos) (fun Y=>(F Y).bind Qe):=⟨UO ha.h⟩
end
section
variable {a f:Expr}{bh:Pos}{E:aQ->Rs Tr}{keys:List (Option Expr)}{vals:List Expr}{P:aQ->Rs (List (Tr×Tr))}
theorem JL(h:QP X pos keys vals P)(sV:keys.all (·.isSome)=true:=by rfl) (hl:keys.length=vals.length:=by rfl) (h0:keys.isEmpty=false:=by rfl) (LF:keys.length<=15:=by decide):QE X (.Dict keys vals pos) (fun Y=>UP (P Y)):=⟨Qi h sV hl h0 LF⟩
theorem RD(hu:X.A.units+1<cLine)(ho:QE X o F)(he:QE X e G)(hb:isCall o=false:=by rfl) (bH:aH [e]=true:=by rfl) (hl:(b6.endLine==bh.line)=true:=by rfl):QE X (.Call (.Attribute o "get" b6) [e] [] bh) (fun Y=>IF (F Y) (G Y)):=⟨Qj hu ho.h he.h hb bH hl⟩
theorem RE(hu:X.A.units+1<cLine)(ho:QE X o F)(he:QE X e G)(hf:QE X f E)(hb:isCall o=false:=by rfl) (bH:aH [e,f]=true:=by rfl) (hl:(b6.endLine==bh.line)=true:=by rfl):QE X (.Call (.Attribute o "get" b6) [e,f] [] bh) (fun Y=>N8 (F Y) (G Y) (E Y)):=⟨Qk hu ho.h he.h hf.h hb bH hl⟩
end
section
variable {a f:Expr}{bh:Pos}{E:aQ->Rs Tr}{keys:List (Option Expr)}{vals:List Expr}{P:aQ->Rs (List (Tr×Tr))}
theorem Wf(g:zp X.K X.w X.mg x aG)(ha:QE X a F)(hg:Gl X x:=by rfl) (hd:Db x:=by decide) (hs:LB a:=by exact fun _ _=>rfl):QE X (.Subscript (.Name x p) a pos) (fun Y=>(F Y).bind (Ql aG)):=⟨UQ g ha.h hg hd hs⟩
end
section
variable {a b:Expr}{nO:Pos}{es:List Expr}{x1:Nat}
theorem Wg(hm:X.mg "zip"=none)(ha:QA X [a,b] L)(hg:Gl X "zip":=by rfl) (hs:aH [a,b]=true:=by rfl):QI X (.Tuple es x1 nO) (.Call (.Name "zip" p) [a,b] [] pos) (fun Y=>Zt (L Y)):=⟨Vt hm ha.h hg hs⟩
end
section
variable {a b:Expr}{nO:Pos}{es:List Expr}{x1:Nat}
theorem oC{v:Expr}(h:QE X v F):QE X (.FormattedValue v (-1) none pos) (fun Y=>(F Y).bind Mv):=⟨QZ h.h⟩
end
section
theorem E6{tg l:Expr}(hl:QE X l F):QJ X tg l (fun Y=>IQ (F Y)):=⟨U8 hl.h⟩
end
section
variable {a b:Expr}{es:List Expr}{A:aQ->Rs Bool}{scope:Scope}{N':List Str}{ix:List (Option Nat)}{elt b8 tg:Expr}{ifs:List Expr}{T:pP}{W:aQ->Rs (List Tr)}
theorem OD(Lk:fS X N' ix scope)(hi:QJ X tg b8 W)(kO:BM X scope N' tg elt ifs T A F)(hT:iZ T)(hc:X.calm=true:=by rfl) (hs:isSet b8=false:=by rfl):QE X (.ListComp elt [⟨tg,b8,ifs,0⟩] scope pos) (fun Y=>qF ix T A F (W Y) Y):=⟨U9 Lk hi.h kO.to hT hc hs⟩
theorem RF{body:List Stmt}{G:aQ->Rs Out}(hi:QJ X tg b8 W)(hg:QG X tg T)(hb:QB X body G)(hp:PassesOwn (model X.prog X.w) X.A X.env X.xe:=by exact rn) (hc:X.calm=true:=by rfl) (hs:isSet b8=false:=by rfl):QS X (.For tg b8 body [] pos) (fun Y=>Er T G (W Y) Y):=⟨QH hi.h hg.h hb.h hp hc hs⟩
end
section
variable {es:List Expr}{nO bh:Pos}
theorem Wh{name:Str}{id:String}{h:List Tr->Tr->Rs Tr}(slot:Slot "list" name id)(Lx:typeOf (.builtin id)=pure (.type "method_descriptor"))(hm:Pf X id (VA X h))(ho:QE X o F)(he:QE X e G)(pa:PlainAttrs "list":=by exact qL) (nR:isCall o=false:=by rfl) (bH:aH [e]=true:=by rfl) (eL:(b6.endLine==bh.line)=true:=by rfl):QE X (.Call (.Attribute o name b6) [e] [] bh) (fun Y=>lmR h (F Y) (G Y)):=⟨Zu slot Lx hm ho.h he.h pa nR bH eL⟩
end
section
variable {es:List Expr}{nO bh:Pos}
theorem Wi(hu:X.A.units+1<cLine)(g:Jk X.K X.mg x ts)(he:QE X e G)(hg:Gl X x:=by rfl) (hd:Db x:=by decide) (bH:aH [e]=true:=by rfl) (eL:(b6.endLine==bh.line)=true:=by rfl):QE X (.Call (.Attribute (.Name x p) "index" b6) [e] [] bh) (fun Y=>(G Y).bind (uF ts)):=⟨VC hu g he.h hg hd bH eL⟩
theorem Wj{x1}(hu:X.A.units+1<cLine)(ht:QA X es L)(he:QE X e G)(bH:aH [e]=true:=by rfl) (eL:(b6.endLine==bh.line)=true:=by rfl):QE X (.Call (.Attribute (.Tuple es x1 nO) "index" b6) [e] [] bh) (fun Y=>(L Y).bind fun ts=>if ts.length<=d7 then(G Y).bind (uF ts)else .bad):=⟨VD hu ht.h he.h bH eL⟩
end
section
variable {es:List Expr}{nO bh:Pos}{c m:Str}{st:Stmt}{f:Addr}{fd:FuncData}{k:Nat}
theorem RG(D:MethAt X.K c m st ps f fd)(G:c_ X.prog X.w X.K X.mg X.base kN k f fd ps (spT X.K h))(hr:cp k X.A)(ho:QE X o F)(ha:QA X (e::es) L){pl:Sem Bool}(bH:aH (e::es)=true:=by rfl) (ht:eval (.Call (.Attribute o m b6) (e::es) [] pos) X.env=rH pos b6 o m (e::es) X.env pl:=by rfl):QE X (.Call (.Attribute o m b6) (e::es) [] pos) (fun Y=>gL c m h (F Y) (L Y)):=⟨Q7 D G hr ho.h ha.h bH ht⟩
theorem MU(D:MethAt X.K c m st ps f fd)(G:c_ X.prog X.w X.K X.mg X.base kN k f fd ps (spT X.K h))(hr:cp k X.A)(ho:QE X o F){pl:Sem Bool}(ht:eval (.Call (.Attribute o m b6) [] [] pos) X.env=rH pos b6 o m [] X.env pl:=by rfl):QE X (.Call (.Attribute o m b6) [] [] pos) (fun Y=>gL c m h (F Y) (.ok [])):=⟨MB D G hr ho.h ht⟩
end
section
variable {l:Expr}{p1 p2 My Mz:Pos}
theorem RH(hs:X.mg "sorted"=none)(hm:X.mg "set"=none)(hl:QE X l F)(hc:X.calm=true:=by rfl) (hg:Gl X "sorted":=by rfl) (Jx:Gl X "set":=by rfl) (bH:aH [l]=true:=by rfl):QE X (.Call (.Name "sorted" p1) [.Call (.Name "set" p2) [l] [] Mz] [] My) (fun Y=>(F Y).bind jD):=⟨Rr hs hm hl.h hc hg Jx bH⟩
end
section
variable {tg:Expr}
theorem RI{ks:List Str}(T:zH X.K X.w X.mg x ks)(hg:Gl X x:=by rfl) (dZ:Db x:=by decide):QI X tg (.Name x p) (fun _=>.ok (ks.map .str)):=⟨Rt T hg dZ⟩
end
section
variable {es:List Expr}{P:aQ->Rs Bool}{FZ GZ:aQ->Ab->Rz Tr}{LZ:aQ->Ab->Rz (List Tr)}
theorem aq(h:QE X e F):ZE X e (fun Y A=>fy (F Y) A):=⟨Qp h.h⟩
theorem aK(h:QE X e F):ZE X e (fun Y A=>pL (F (cz A Y)) A):=⟨Qq h.h⟩
theorem cf(h:QT X e P):ZT X e (fun Y A=>fy (P (cz A Y)) A):=⟨Mj h.h⟩
theorem f9(h:NE X e F):ZE X e (fun Y A=>wc (F (cz A Y)) A):=⟨UW h.h⟩
end
section
variable {a b c:Expr}{F:aQ->Ab->Rz Tr}{G G':aQ->Ab->Rz Out}{P:aQ->Ab->Rz Bool}{st:Stmt}{c7 Uw:List Stmt}
theorem dz:ZB X [] (fun Y A=>.ok (.nx Y) A):=⟨UX⟩
theorem aI(h1:ZS X st G)(h2:ZB X c7 G'):ZB X (st::c7) (fun Y A=>Bf (G Y A) G'):=⟨Qr h1.h h2.h⟩
theorem bD(h1:ZS X st G):ZB X [st] G:=⟨UY h1.h⟩
theorem pW:ZE X e (fun _ _=>.bad):=⟨UZ⟩
theorem gP{i:Nat}{pos':Pos}(he:ZE X e F)(hN:X.N.Nodup:=by assumption) (hi:X.N[i]?=some x:=by rfl) (hx:Loc X.env.scope x:=by first|exact Or.inl rfl|exact Or.inr rfl) (hs:qa e=false:=by rfl) (hf:xu X x:=by first|exact .inl rfl|exact .inr rfl|assumption):ZS X (.Assign [.Name x pos'] e pos) (fun Y A=>xK i (F Y A) Y):=⟨U0 he.h hN hi hx hs hf⟩
theorem dI(he:ZE X e F):ZS X (.Return (some e) pos) (fun Y A=>Gd (F Y A)):=⟨U1 he.h⟩
theorem RJ:ZS X (.Return none pos) (fun _ A=>.ok (.ret .bK) A):=⟨Qt⟩
theorem cE(he:ZE X e F)(hs:qa e=false:=by rfl):ZS X (.Expr e pos) (fun Y A=>yv (F Y A) Y):=⟨Qu he.h hs⟩
theorem gf{ys ns:List Stmt}(hc:ZT X c P)(h1:ZB X ys G)(h2:ZB X ns G'):ZS X (.If c ys ns pos) (fun Y A=>Xu (P Y A) (G Y) (G' Y)):=⟨Y5 hc.h h1.h h2.h⟩
theorem Wk{tg:Expr}{T:pP}(hg:QG X tg T)(hT:iZ T)(he:ZE X e F)(hs:swapsWithSole [tg] e pos.line X.env=pure false:=by rfl) (hw:swappedStores [tg] e X.env=pure none:=by rfl) (h1:(assignEach [tg] X.env).map (·.2)=[assign tg X.env]:=by rfl):ZS X (.Assign [tg] e pos) (fun Y A=>IJ T (F Y A) Y):=⟨U2 hg.h hT he.h hs hw h1⟩
theorem E7{tg b8:Expr}{body:List Stmt}{W:aQ->Rs (List Tr)}{T:pP}(hi:QI X tg b8 W)(hg:QG X tg T)(hT:iZ T)(hb:ZB X body G)(hp:PassesOwn (model X.prog X.w) X.A X.env X.xe:=by first|exact rn|exact PassesOwn.leaving) (hc:X.calm=true:=by rfl) (hs:isSet b8=false:=by rfl):ZS X (.For tg b8 body [] pos) (fun Y A=>IK T G (fy (W Y) A) Y):=⟨U3 hi.h hg.h hT hb.h hp hc hs⟩
end
section
variable {a:Expr}{es:List Expr}{F:aQ->Ab->Rz Tr}{L:aQ->Ab->Rz (List Tr)}{name:Str}{bh:Pos}{id:String}
theorem bC:ZL X [] (fun _ A=>.ok [] A):=⟨IL⟩
theorem ax(h1:ZE X a F)(hr:ZL X es L)(hs:isStar a=false:=by rfl):ZL X (a::es) (fun Y A=>EL (F Y A) (L Y)):=⟨EM h1.h hr.h hs⟩
end
section
variable {a:Expr}{es:List Expr}{F:aQ->Ab->Rz Tr}{L:aQ->Ab->Rz (List Tr)}{name:Str}{bh:Pos}{id:String}{r:V->List V->Hp->VK->Prop}{h:Nat->List Tr->Ab->Rz Tr}
theorem E8(slot:Slot "list" name id)(Lx:typeOf (.builtin id)=pure (.type "method_descriptor"))(hm:Yu X id r)(hz:Y6 X r h)(ho:ZE X o F)(ha:ZL X (e::es) L)(pa:PlainAttrs "list":=by exact qL) (nR:isCall o=false:=by rfl) (bH:aH (e::es)=true:=by rfl) (hn:(e::es).length<30:=by decide) (eL:(b6.endLine==bh.line)=true:=by rfl):ZE X (.Call (.Attribute o name b6) (e::es) [] bh) (fun Y A=>Y7 h (F Y A) (L Y)):=⟨U5 slot Lx hm hz ho.h ha.h pa nR bH hn eL⟩
end
section
variable {a b:Expr}{es:List Expr}{A:aQ->Rs Bool}
theorem yS(h:QA X es L):NE X (.List es pos) (fun Y=>Iq (L Y)):=⟨U6 h.h⟩
theorem kF:NE X (.Dict [] [] pos) (fun _=>.ok (.bo [])):=⟨Qz⟩
end
section
variable {a b:Expr}{es:List Expr}{A:aQ->Rs Bool}{scope:Scope}{N':List Str}{ix:List (Option Nat)}{elt b8 tg:Expr}{ifs:List Expr}{T:pP}{W:aQ->Rs (List Tr)}
theorem Wl(Lk:fS X N' ix scope)(hi:QI X tg b8 W)(kO:BM X scope N' tg elt ifs T A F)(hT:iZ T)(hc:X.calm=true:=by rfl) (hs:isSet b8=false:=by rfl):NE X (.ListComp elt [⟨tg,b8,ifs,0⟩] scope pos) (fun Y=>qF ix T A F (W Y) Y):=⟨Y9 Lk hi.h kO.to hT hc hs⟩
theorem MV{i:Nat}{px lB:Pos}(Lk:fS X N' ix scope)(hit:QI X tg b8 W)(kO:BM X scope N' tg elt ifs T A F)(hT:iZ T)(hN:X.N.Nodup:=by assumption) (hc:X.calm=true:=by rfl) (hi:X.N[i]?=some x:=by rfl) (hx:Loc X.env.scope x:=by first|exact Or.inl rfl|exact Or.inr rfl) (F5:swapsWith (.ListComp elt [⟨tg,b8,ifs,0⟩] scope pos) (some (.Name x px)) lB.line X.env=pure true:=by rfl) (hs:isSet b8=false:=by rfl) (hf:xu X x:=by first|exact .inl rfl|exact .inr rfl|assumption):ZS X (.Assign [.Name x px] (.ListComp elt [⟨tg,b8,ifs,0⟩] scope pos) lB) (fun Y A'=>xK i (wc (qF ix T A F (W (cz A' Y)) (cz A' Y)) A') Y):=⟨Mm Lk hit.h kO.to hT hN hc hi hx F5 hs hf⟩
theorem BO{T:String}(hc:fj X (.type T) (rF X h))(hm:X.mg x=none)(ha:QA X (e::es) L)(hv:bootBuiltins x=some (.type T):=by rfl) (hg:Gl X x:=by rfl) (hn:x≠"__name__":=by decide) (dZ:Db x:=by decide) (bH:aH (e::es)=true:=by rfl):NE X (.Call (.Name x p) (e::es) [] pos) (fun Y=>bP h (L Y)):=⟨IP hc hm ha.h hv hg hn dZ bH⟩
end
section
variable {es:List Expr}{F:aQ->Ab->Rz Tr}{L:aQ->Ab->Rz (List Tr)}{h:List Tr->Ab->Rz Tr}{st:Stmt}{f:Addr}{fd:FuncData}{k:Nat}
theorem Wm(D:ye X.K X.mg x st ps f fd)(G:c_ X.prog X.w X.K X.mg X.base (tw X.prog X.w) k f fd ps (um X.K h))(hr:cp k X.A)(ha:ZL X (e::es) L)(hx:X.ex=[]:=by rfl) (hg:Gl X x:=by rfl) (dZ:Db x:=by decide) (bH:aH (e::es)=true:=by rfl):ZE X (.Call (.Name x p) (e::es) [] pos) (fun Y A=>(L Y A).bind h):=⟨VG D G hr ha.h hx hg dZ bH⟩
end
section
variable {es:List Expr}{F:aQ->Ab->Rz Tr}{L:aQ->Ab->Rz (List Tr)}{h:List Tr->Ab->Rz Tr}{st:Stmt}{f:Addr}{fd:FuncData}{k:Nat}{c m:Str}
theorem RK(D:MethAt X.K c m st ps f fd)(G:c_ X.prog X.w X.K X.mg X.base (tw X.prog X.w) k f fd ps (um X.K h))(hr:cp k X.A)(ho:ZE X o F)(ha:ZL X (e::es) L){pl:Sem Bool}(hx:X.ex=[]:=by rfl) (bH:aH (e::es)=true:=by rfl) (ht:eval (.Call (.Attribute o m b6) (e::es) [] pos) X.env=rH pos b6 o m (e::es) X.env pl:=by rfl):ZE X (.Call (.Attribute o m b6) (e::es) [] pos) (fun Y A=>mQ c m h (F Y A) (L Y)):=⟨Q8 D G hr ho.h ha.h hx bH ht⟩
theorem MW(D:MethAt X.K c m st ps f fd)(G:c_ X.prog X.w X.K X.mg X.base (tw X.prog X.w) k f fd ps (um X.K h))(hr:cp k X.A)(ho:ZE X o F){pl:Sem Bool}(hx:X.ex=[]:=by rfl) (ht:eval (.Call (.Attribute o m b6) [] [] pos) X.env=rH pos b6 o m [] X.env pl:=by rfl):ZE X (.Call (.Attribute o m b6) [] [] pos) (fun Y A=>mQ c m h (F Y A) fun A=>.ok [] A):=⟨MD D G hr ho.h hx ht⟩
end
section
variable {np bh:Pos}{es:List Expr}{L:aQ->Ab->Rz (List Tr)}
theorem j_(D:sx X.K X.mg x)(ha:ZL X (e::es) L)(hx:X.ex=[]:=by rfl) (hc:X.calm=true:=by rfl) (hg:Gl X x:=by rfl) (dZ:Db x:=by decide) (bH:aH (e::es)=true:=by rfl):ZS X (.Raise (some (.Call (.Name x np) (e::es) [] bh)) none pos) (fun Y A=>Dt x (L Y A)):=⟨MF D ha.h hx hc hg dZ bH⟩
end
section
variable {value:Expr}{f:Str}{pos':Pos}{xs:List Str}{E G:aQ->Ab->Rz Tr}
theorem cT(T:gM X.K xs f)(he:QE X e F)(hb:attributeBase e f X.env (eval e X.env)=eval e X.env:=by first|exact e_ rfl|rfl):QE X (.Attribute e f pos) (fun Y=>(F Y).bind (iO xs f)):=⟨Q9 T he.h hb⟩
theorem ml(T:gM X.K xs f)(he:ZE X e G)(hb:attributeBase e f X.env (eval e X.env)=eval e X.env:=by first|exact e_ rfl|rfl):ZE X (.Attribute e f pos) (fun Y A=>sy xs f (G Y A)):=⟨Q_ T he.h hb⟩
theorem oE(T:gM X.K xs f)(ho:ZE X o G)(hv:ZE X value E):ZS X (.Assign [.Attribute o f pos'] value pos) (fun Y A=>VI xs f (E Y A) (G Y) Y):=⟨VJ T ho.h hv.h⟩
end
section
variable {a b i value:Expr}{es:List Expr}{pos' bh:Pos}{F G E:aQ->Ab->Rz Tr}{L:aQ->Ab->Rz (List Tr)}{h:Tr->Tr->Rs Tr}
theorem wO(hu:X.A.units+1<cLine)(h1:ZE X a F)(h2:ZE X b G)(hs:rQ b:=by exact fun _ _=>rfl):ZE X (.Subscript a b pos) (fun Y A=>MH eJ (F Y A) (G Y)):=⟨ZD hu h1.h h2.h hs⟩
theorem jF(hu:X.A.units+1<cLine)(ho:ZE X o F)(hi:ZE X i G)(hv:ZE X value E):ZS X (.Assign [.Subscript o i pos'] value pos) (fun Y A=>Ra (E Y A) (F Y) (G Y) Y):=⟨Rb hu ho.h hi.h hv.h⟩
end
section
variable {f:Expr}{es:List Expr}{bh:Pos}{F G E:aQ->Ab->Rz Tr}{L:aQ->Ab->Rz (List Tr)}
theorem JM(ho:ZE X o F)(he:ZE X e G)(hb:isCall o=false:=by rfl) (bH:aH [e]=true:=by rfl) (hl:(b6.endLine==bh.line)=true:=by rfl):ZE X (.Call (.Attribute o "pop" b6) [e] [] bh) (fun Y A=>Jm (F Y A) (G Y)):=⟨Rc ho.h he.h hb bH hl⟩
theorem RL(ho:ZE X o F)(he:ZE X e G)(hf:ZE X f E)(hb:isCall o=false:=by rfl) (bH:aH [e,f]=true:=by rfl) (hl:(b6.endLine==bh.line)=true:=by rfl):ZE X (.Call (.Attribute o "pop" b6) [e,f] [] bh) (fun Y A=>Jo (F Y A) (G Y) (E Y)):=⟨Rg ho.h he.h hf.h hb bH hl⟩
end
section
variable {f:Expr}{es:List Expr}{bh:Pos}{F G E:aQ->Ab->Rz Tr}{L:aQ->Ab->Rz (List Tr)}{c:Str}{h:List Tr->Ab->Rz Tr}{fa:Addr}{fd:FuncData}{k:Nat}
theorem RM(D:wC X.K X.mg c ps fa fd)(G:c_ X.prog X.w X.K X.mg X.base (tw X.prog X.w) k fa fd ps (um X.K h))(hr:cp (k+1) X.A)(ha:ZL X (e::es) L)(hx:X.ex=[]:=by rfl) (hg:Gl X c:=by rfl) (dZ:Db c:=by decide) (bH:aH (e::es)=true:=by rfl):ZE X (.Call (.Name c p) (e::es) [] pos) (fun Y A=>wB c h (L Y A)):=⟨Rh D G hr ha.h hx hg dZ bH⟩
theorem MX(D:wC X.K X.mg c ps fa fd)(G:c_ X.prog X.w X.K X.mg X.base (tw X.prog X.w) k fa fd ps (um X.K h))(hr:cp (k+1) X.A)(hx:X.ex=[]:=by rfl) (hg:Gl X c:=by rfl) (dZ:Db c:=by decide):ZE X (.Call (.Name c p) [] [] pos) (fun _ A=>wB c h (.ok [] A)):=⟨MI D G hr hx hg dZ⟩
end
section
variable {a b:Expr}{es:List Expr}{A:aQ->Rs Bool}{scope:Scope}{N':List Str}{ix:List (Option Nat)}{elt b8 tg:Expr}{ifs:List Expr}{T:pP}{W:aQ->Rs (List Tr)}
theorem JN{i:Nat}{px lB:Pos}(Lk:fS X N' ix scope)(hit:QJ X tg b8 W)(kO:BM X scope N' tg elt ifs T A F)(hT:iZ T)(hN:X.N.Nodup:=by assumption) (hc:X.calm=true:=by rfl) (hi:X.N[i]?=some x:=by rfl) (hx:Loc X.env.scope x:=by first|exact Or.inl rfl|exact Or.inr rfl) (F5:swapsWith (.ListComp elt [⟨tg,b8,ifs,0⟩] scope pos) (some (.Name x px)) lB.line X.env=pure true:=by rfl) (hs:isSet b8=false:=by rfl) (hf:xu X x:=by first|exact .inl rfl|exact .inr rfl|assumption):ZS X (.Assign [.Name x px] (.ListComp elt [⟨tg,b8,ifs,0⟩] scope pos) lB) (fun Y A'=>xK i (wc (qF ix T A F (W (cz A' Y)) (cz A' Y)) A') Y):=⟨Jt Lk hit.h kO.to hT hN hc hi hx F5 hs hf⟩
end
section
variable {a b:Expr}{es:List Expr}{F:aQ->Ab->Rz Tr}{P:aQ->Ab->Rz Bool}{c n:Str}{tp hp:Pos}{xs:List Str}{body ou:List Stmt}{wD:Stmt}{G G2:aQ->Ab->Rz Out}
theorem RN(h:ZE X a F)(he:lC a=true:=by rfl):ZT X a (fun Y A=>Rk (F Y A)):=⟨Rm h.h he⟩
theorem RO(h:ZT X a P):ZT X (.UnaryOp .Not a pos) (fun Y A=>Rn (P Y A)):=⟨eq_not h.h⟩
end
section
variable {a b:Expr}{es:List Expr}{F:aQ->Ab->Rz Tr}{P:aQ->Ab->Rz Bool}{c n:Str}{tp hp:Pos}{xs:List Str}{body ou:List Stmt}{wD:Stmt}{G G2:aQ->Ab->Rz Out}{st:Stmt}
theorem E9:QE X a (fun _=>.bad):=⟨VW⟩
theorem Wn:QS X st (fun _=>.bad):=⟨VX⟩
end
section
variable {p2:Pos}{c:Str}{tab:List (Str×Bool)}{cv:V}{u:Value}
theorem kG(T:gO X.K (.ref (clsAt X.K c)) tab)(hm:X.mg c=some (.ref (clsAt X.K c)))(hi:X.mg "isinstance"=none)(he:QE X e F)(hg:Gl X c:=by rfl) (Jx:Gl X "isinstance":=by rfl) (dZ:Db c:=by decide) (bH:aH [e,.Name c p2]=true:=by rfl):QE X (.Call (.Name "isinstance" p) [e,.Name c p2] [] pos) (fun Y=>(F Y).bind (GI tab)):=⟨Rp T hm hi he.h hg Jx dZ bH⟩
theorem RP{n:String}(T:gO X.K (.type n) tab)(hm:X.mg c=none)(hi:X.mg "isinstance"=none)(he:QE X e F)(hv:bootBuiltins c=some (.type n):=by rfl) (hg:Gl X c:=by rfl) (hn:c≠"__name__":=by decide) (Jx:Gl X "isinstance":=by rfl) (dZ:Db c:=by decide) (bH:aH [e,.Name c p2]=true:=by rfl):QE X (.Call (.Name "isinstance" p) [e,.Name c p2] [] pos) (fun Y=>(F Y).bind (GI tab)):=⟨Rq T hm hi he.h hv hg hn Jx dZ bH⟩
end
section
variable {bh:Pos}{F G:aQ->Ab->Rz Tr}
theorem Wo(ho:ZE X o F)(he:ZE X e G)(hb:isCall o=false:=by rfl) (bH:aH [e]=true:=by rfl) (hl:(b6.endLine==bh.line)=true:=by rfl):ZE X (.Call (.Attribute o "update" b6) [e] [] bh) (fun Y A=>V0 (F Y A) (G Y)):=⟨V1 ho.h he.h hb bH hl⟩
end
section
variable {c m:Str}{st:Stmt}{f:Addr}{fd:FuncData}{k:Nat}{l:Expr}{kp:Pos}{O:aQ->Rs Tr}
theorem JO(D:MethAt X.K c m st ps f fd)(Bn:yK X.K f)(G:c_ X.prog X.w X.K X.mg X.base kN k f fd ps (spT X.K h))(hr:cp (k+1) X.A)(hm:X.mg "min"=none)(hl:QE X l F)(ho:QE X o O)(hc:X.calm=true:=by rfl) (hg:Gl X "min":=by rfl) (bH:aH [l]=true:=by rfl) (hb:isCall o=false:=by rfl) (Rx:PySem.W.copiedNames.contains m=false:=by decide+kernel):QE X (.Call (.Name "min" p) [l] [⟨some "key",.Attribute o m b6,kp⟩] pos) (fun Y=>E2 c m h (F Y) (O Y)):=⟨JE D Bn G hr hm hl.h ho.h hc hg bH hb Rx⟩
end
section
variable {P1 P2:aQ->Rs (Option Int)}{lo hi:Option Expr}{p2:Pos}
theorem BP(he:QE X e F)(hl:QO X lo P1)(hu:QO X hi P2):QE X (.Subscript e (.Slice lo hi none p2) pos) (fun Y=>GR (F Y) (P1 Y) (P2 Y)):=⟨V' he.h hl.h hu.h⟩
end
section
variable {p1 bh:Pos}
theorem JP(hs:X.mg "sorted"=none)(ho:QE X o F)(hc:X.calm=true:=by rfl) (hg:Gl X "sorted":=by rfl) (hb:isCall o=false:=by rfl) (eL:(b6.endLine==bh.line)=true:=by rfl):QE X (.Call (.Name "sorted" p1) [.Call (.Attribute o "items" b6) [] [] bh] [] pos) (fun Y=>(F Y).bind uS):=⟨JI hs ho.h hc hg hb eL⟩
end
theorem zO{keys:List (Option Expr)}{vals:List Expr}{P:aQ->Rs (List (Tr×Tr))}{k v:Expr}(hk:QE X k F)(hv:QE X v G)(hr:QP X pos keys vals P):QP X pos (some k::keys) (v::vals) fun Y=>N6 (F Y) (G Y) (P Y):=Mh hk.h hv.h hr
theorem xw.okQ {base:Heap}{qual:Str}{st:Stmt}{f:Addr}{fd:FuncData}{N:List Str}{k:Nat}(Fn:xw K x qual st f fd)(S:fL N ps (aP st))(len:∀ts t,h ts=.ok t->ts.length=ps.length)
  (jz:∀(eI:Value) (A:Around) (outer:List Env) (s:Shared) (H:Hp) (E:XK),cp k (A.deeper (envOfC qual (aP st) s.heap.objs.size f eI))->
   ∃G,QB (mX kN P w K mg base N qual (aP st) f eI A outer s H E).Hj (eB st) G/\∀ts t,h ts=.ok t->dn (G (startT N.length ts))=.ok t):c_ P w K mg base kN (k+1) f fd ps (spT K h):=
 Fn.okT S len fun eI A outer s H E hr=>let⟨G,h,q⟩:=jz eI A outer s H E hr;⟨G,h.h,q⟩
theorem xw.Z0 {base:Heap}{qual:Str}{st:Stmt}{f:Addr}{fd:FuncData}{N:List Str}{k:Nat}(Fn:xw K x qual st f fd)(S:fL N ps (aP st))(len:∀ts t,h ts=.ok t->ts.length=ps.length)
  (jz:∀(eI:Value) (A:Around) (outer:List Env) (s:Shared) (H:Hp) (E:XK),cp k (A.deeper (envOfC qual (aP st) s.heap.objs.size f eI))->
   ∃G,ZB (mX kN P w K mg base N qual (aP st) f eI A outer s H E).Hj (eB st) G/\∀ts t,h ts=.ok t->gK ts=true/\Bg (G (startT N.length ts) [])=.ok t):c_ P w K mg base kN (k+1) f fd ps (spT K h):=
 Fn.okZ S len fun eI A outer s H E hr=>let⟨G,h,q⟩:=jz eI A outer s H E hr;⟨G,h.h,q⟩
theorem mn{F G:aQ->Ab->Rz Tr}{keys:List (Option Expr)}{vals:List Expr}{P:aQ->Ab->Rz (List (Tr×Tr))}{k v:Expr}(hk:ZE X k F)(hv:ZE X v G)(hr:Rj X pos keys vals P):Rj X pos (some k::keys) (v::vals) fun Y A=>Ow (F Y A) (G Y) (P Y):=Js hk.h hv.h hr
theorem JR{keys:List (Option Expr)}{vals:List Expr}{P:aQ->Ab->Rz (List (Tr×Tr))}(h:Rj X pos keys vals P)(sV:keys.all (·.isSome)=true:=by rfl) (hl:keys.length=vals.length:=by rfl) (h0:keys.isEmpty=false:=by rfl) (LF:keys.length<=15:=by decide):ZE X (.Dict keys vals pos) (fun Y A=>VT (P Y) A):=⟨ML h sV hl h0 LF⟩
structure JQ(X:Cx)(es:List Expr)(J:aQ->Str->Rs Tr):Prop where
 h:PJ X es J
theorem ur:JQ X [] fun _ acc=>zA acc:=⟨Vu⟩
theorem eP{es:List Expr}{J:aQ->Str->Rs Tr}(h:QE X e F)(hr:JQ X es J):JQ X (e::es) fun Y acc=>om (F Y) (J Y) acc:=⟨Q0 h.h hr.h⟩
theorem oF{v1 v2:Expr}{c7:List Expr}{J:aQ->Str->Rs Tr}(h:JQ X (v1::v2::c7) J):QE X (.JoinedStr (v1::v2::c7) pos) (fun Y=>J Y Str.empty):=⟨Mw h.h⟩
theorem MY{c n:Str}{tp hp:Pos}{xs:List Str}{body ou:List Stmt}{wD:Stmt}{G G2:aQ->Ab->Rz Out}(Tc:pf X.K X.mg c xs)(hb:∀pn E',ZB (X.jE pn E') body G)(hs:∀pn e,ZB (X.oq pn e) (wD::ou) G2)(hN:X.N.Nodup)(hi:X.N[i]?=some n:=by rfl) (hl:X.env.scope.names.lookup n=some .local:=by rfl)
  (bH:X.stack=X.env::X.outer:=by rfl) (hf:X.env.frame=some X.env.locals:=by rfl) (hx:X.ex=[]:=by rfl) (Le:xu X n:=by exact .inl rfl) (hg:Gl X c:=by rfl) (dZ:Db c:=by decide):
  ZS X (.Try body [.ExceptHandler (some (.Name c tp)) (some n) (wD::ou) hp] [] [] pos) (fun Y A=>Dv X.N.length i xs (G Y A) G2):=⟨Jq Tc (fun pn E'=>(hb pn E').h) (fun pn e=>(hs pn e).h) hN hi hl bH hf hx Le hg dZ⟩
theorem xw.Z1 {base:Heap}{qual:Str}{st:Stmt}{f:Addr}{fd:FuncData}{N:List Str}{k:Nat}{h:List Tr->Ab->Rz Tr}(Fn:xw K x qual st f fd)(S:fL N ps (aP st))(len:∀ts A,h ts A≠ .bad->ts.length=ps.length)
  (jz:∀(eI:Value) (A:Around) (outer:List Env) (s:Shared) (H:Hp) (E:XK),cp k (A.deeper (envOfC qual (aP st) s.heap.objs.size f eI))->
   ∃G,ZB (mX (tw P w) P w K mg base N qual (aP st) f eI A outer s H E) (eB st) G/\∀ts A,h ts A≠ .bad->h ts A=cx (G (startT N.length ts) A)):c_ P w K mg base (tw P w) (k+1) f fd ps (um K h):=
 Fn.okS S len fun eI A outer s H E hr=>let⟨G,h,q⟩:=jz eI A outer s H E hr;⟨G,h.h,q⟩
def JS(K:Frag)(D:Addr):Bool:=decide (findIn K (.ref D) "__getattribute__"=some (some (.builtin "BaseException.__getattribute__")))&&(decide (findIn K (.ref D) "__getattr__"=some none)&&(decide (findIn K (.ref D) "__class__"=some (some (.builtin "object.__class__")))&&(decide (mroIn K D (.type "object")=some true)&&decide (mroIn K D (.type "BaseException")=some true))))
theorem MZ{K:Frag}{D:Addr}(h:JS K D=true):zG K D:=by
 unfold JS at h;rw[bf,bf,bf,bf]at h;exact⟨dk h.1,dk h.2.1,dk h.2.2.1,dk h.2.2.2.1,dk h.2.2.2.2⟩
def Wq(K:Frag)(u:Value)(tab:List (Str×Bool)):Bool:=tab.all fun p=>decide (kitOne K (.ref (clsAt K p.1)) u=some p.2)
def Wr(K:Frag)(xs:List Str):Bool:=xs.all fun x=>JS K (clsAt K x)&&(clsIn K (clsAt K x)).isSome
theorem tR{α:Type}{z:Str}:∀{l:List (Str×α)} {a:α},l.lookup z=some a->(z,a)∈l
 |[],_,h=>by cases h
 |(y,b)::l,a,h=>by
  rw[bS]at h;cases e:(z==y)with
  |true=>rw[e]at h;cases h;rw[eq_of_beq e];exact bR ..
  |false=>rw[e]at h;exact bI _ (tR h)
theorem RQ{K:Frag}{u:Value}{tab:List (Str×Bool)}{xs:List Str}(h:Wq K u tab=true)(q:Wr K xs=true)(e:tab.map (·.1)=xs):gO K u tab:=⟨fun x b hx=>by
 have m:=tR hx;have h1:=dk (cO.mp h _ m);have mx:x∈xs:=by rw[<-e];exact fF m
 have h2:=cO.mp q x mx;rw[bf]at h2;exact⟨h1,MZ h2.1,h2.2⟩⟩
def Ws(K:Frag)(c:Str)(xs:List Str):Bool:=xs.all fun x=>decide (exmOne K (.ref (clsAt K x)) (.ref (clsAt K c))=some true)
theorem JT{K:Frag}{c:Str}{xs:List Str}(m:mg c=some (.ref (clsAt K c)))(h:Ws K c xs=true):pf K mg c xs:=⟨m,fun x hx=>dk (cO.mp h x hx)⟩
theorem Wt{P:List Value->Prop}(h:P []):∀us:List Value,us.length=0->P us
 |[],_=>h
theorem XQ{P:List Value->Prop}{n:Nat}(h:∀a us,us.length=n->P (a::us)):∀us:List Value,us.length=n+1->P us
 |a::us,e=>h a us (Nat.succ.inj e)
theorem Wu{P:List Value->Prop}(h:∀a,P [a]):∀us:List Value,us.length=1->P us:=XQ fun a=>Wt (P:=fun l=>P (a::l)) (h a)
theorem Wv{P:List Value->Prop}(h:∀a b,P [a,b]):∀us:List Value,us.length=2->P us:=XQ fun a=>Wu (P:=fun l=>P (a::l)) (h a)
theorem Ww{P:List Value->Prop}(h:∀a b c,P [a,b,c]):∀us:List Value,us.length=3->P us:=XQ fun a=>Wv (P:=fun l=>P (a::l)) (h a)
theorem XR{P:List Value->Prop}(h:∀a b c d,P [a,b,c,d]):∀us:List Value,us.length=4->P us:=XQ fun a=>Ww (P:=fun l=>P (a::l)) (h a)
section
variable {K:Frag}{c m f:Str}{C:Addr}
def M0(K:Frag)(C:Addr):Bool:=plainGet K C Str.empty&&(hasDictIn K C&&(plainOver K C&&decide (findIn K (.ref C) "__setattr__"=some (some (.builtin "object.__setattr__")))))
theorem JU(h:M0 K C=true):CH K C:=by
 unfold M0 at h;rw[bf,bf,bf]at h;exact⟨h.1,h.2.1,h.2.2.1,dk h.2.2.2⟩
def Z2(K:Frag)(C:Addr)(fs:List Str):Bool:=fs.all fun f=>decide (findIn K (.ref C) f=some none)
end
theorem C_.gk {K:Frag}{aG:List (Str×Tr)}{ep:Nat}(h:C_ K w es kvs aG)(hm:mg x=some (.ref a))(hl:K.lookup a=some ⟨.type "dict",none,.dict es.toArray ep,#[]⟩) (hs:(a==sysModules)=false) (hn:(kvs.map (·.1)).Nodup) (hz:∀z∈kvs.map (·.1),z.length<=bV):zH K w mg x (kvs.map (·.1)):=
 ⟨a,kvs,hm,⟨hs,_,_,_,hl,⟨rfl,rfl,rfl⟩,rfl,fun prog=>⟨fun e he=>h.keys prog e (by simpa using he),h.pairs prog,hn⟩⟩,rfl,hz⟩
structure Df where
 c:Option Str
 x:Str
 q:Str
 st:Stmt
 ps:List Str
def mtA(K:Frag)(c m:Str):Addr:=match findIn K (.ref (clsAt K c)) m with
 |some (some (.ref a))=>a
 |_=>0
def Z3(K:Frag)(a:Addr):FuncData:=match K.lookup a with
 |some ⟨_,_,.func d,_⟩=>d
 |_=>default
def Z4(K:Frag)(a:Addr):Bool:=match K.lookup a with
 |some ⟨_,_,.func _,_⟩=>true
 |_=>false
theorem RR{K:Frag}(h:Z4 K a=true):∃oc od HU,K.lookup a=some ⟨oc,od,.func (Z3 K a),HU⟩:=by
 unfold Z4 at h;unfold Z3;split at h
 ·rename_i e;rw[e];exact⟨_,_,_,rfl⟩
 ·cases h
namespace Df
def adr(K:Frag)(d:Df):Addr:=match d.c with
 |none=>clsAt K d.x
 |some c=>mtA K c d.x
def fd(K:Frag)(d:Df):FuncData:=Z3 K (d.adr K)
def re(d:Df)(f:FuncData):FuncData:=fnOf d.x d.q (uM d.st) (eB d.st) (aP d.st) .none f.kwdefaults f.doc f.pyModule f.annotations f.code f.closureTuple
def isAt(K:Frag)(d:Df):Bool:=match d.c with
 |none=>decide (nsIn K mainGlobals d.x=some (some (.ref (d.adr K))))
 |some c=>decide (findIn K (.ref (clsAt K c)) d.x=some (some (.ref (d.adr K))))&&(isFn K (.ref (d.adr K))&&M0 K (clsAt K c))
def OE(K:Frag)(d:Df):Bool:=Z4 K (d.adr K)&&(codeIn K (d.fd K).code d.q&&(keepIn K (.ref (d.adr K))&&d.isAt K))
structure Ok(K:Frag)(mg:Str->Option Value)(d:Df):Prop where
 fn:xw K d.x d.q d.st (d.adr K) (d.fd K)
 m0:d.c=none->mg d.x=some (.ref (d.adr K))
 m1:∀c,d.c=some c->Meth K (clsAt K c) d.x (d.adr K)/\CH K (clsAt K c)
theorem of{K:Frag}{d:Df}{h:Heap}(X:K.In h)(G:h.Ns mainGlobals mg)(e:d.fd K=d.re (d.fd K))(k:d.OE K=true):d.Ok K mg:=by
 unfold OE at k;rw[bf,bf,bf]at k;obtain⟨k1,k2,k3,k4⟩:=k;obtain⟨oc,od,HU,l⟩:=RR k1;refine⟨⟨⟨oc,od,_,_,_,_,_,_,HU,e,l,k2⟩,k3⟩,fun z=>?_,fun c z=>?_⟩<;>unfold isAt at k4<;>rw[z]at k4
 ·exact mg_of X G (dk k4)
 ·rw[bf,bf]at k4;exact⟨⟨dk k4.1,k4.2.1,k3⟩,JU k4.2.2⟩
end Df
theorem JV{K:Frag}{h:Heap}(X:K.In h)(G:h.Ns mainGlobals mg):∀{ds:List Df},ds.map (Df.fd K)=ds.map (fun d=>d.re (d.fd K))->ds.all (Df.OE K)=true->∀d∈ds,d.Ok K mg
 |[],_,_,d,m=>nomatch m
 |a::ds,e,k,d,m=>by
  rw[gn,bf]at k;rw[aO,aO]at e;injection e with e1 e2
  rcases aE.mp m with rfl|m
  ·exact Df.of X G e1 k.1
  ·exact JV X G e2 k.2 d m
section
variable {K:Frag}{base:Heap}{d:Df}{N:List Str}{k n:Nat}
structure wQ(P:Program)(w:World)(K:Frag)(mg:Str->Option Value)(base:Heap)(CX:AG)(n:Nat)(d:Df)(sp:Sp):Prop where
 ok:c_ P w K mg base CX n (d.adr K) (d.fd K) d.ps sp
 bd:Binds K (d.fd K) d.ps []
 df:d.Ok K mg
abbrev XT(d:Df):Prop:=∀(kV doc pm:Value) (an:Option Addr) (eI ct:Value) (us:List Value),us.length=d.ps.length->bindArgs (fnOf d.x d.q (uM d.st) (eB d.st) (aP d.st) .none kV doc pm an eI ct) ⟨us,[]⟩=pure (d.ps.zip us)
abbrev Z5(CX:AG)(P:Program)(w:World)(K:Frag)(mg:Str->Option Value)(base:Heap)(N:List Str)(d:Df):=mX CX P w K mg base N d.q (aP d.st) (d.adr K)
abbrev JW(K:Frag)(d:Df)(k:Nat)(eI:Value)(A:Around)(s:Shared):Prop:=cp k (A.deeper (envOfC d.q (aP d.st) s.heap.objs.size (d.adr K) eI))
theorem iz(N:List Str){a b:Nat}{G:aQ->Ab->Rz Out}(D:d.Ok K mg)(hb:N.Nodup->∀eI A outer s H E,JW K d k eI A s->ZB (Z5 (tw P w) P w K mg base N d eI A outer s H E) (eB d.st) G)(S:fL N d.ps (aP d.st):=by exact⟨rfl,rfl,rfl,by decide+kernel,rfl,by decide+kernel,by decide+kernel⟩) (B:XT d:=by exact fun _ _ _ _ _ _=>by first|exact Wt rfl|exact Wu fun _=>rfl|exact Wv fun _ _=>rfl|exact Ww fun _ _ _=>rfl|exact XR fun _ _ _ _=>rfl|exact Z6 fun _ _ _ _ _=>rfl) (ha:d.ps.length=a:=by rfl) (hn:N.length=b:=by rfl):
  wQ P w K mg base (tw P w) (k+1) d (um K (fq a b G)):=by
 subst ha;subst hn;exact⟨xw.Z1 D.fn S (fun ts A e=>Bz e) fun eI A outer s H E hr=>⟨G,hb S.nd eI A outer s H E hr,fun ts A e=>MC e⟩,D.fn.binds B,D⟩
theorem jG(N:List Str){a b:Nat}{G:aQ->Rs Out}(D:d.Ok K mg)(hb:N.Nodup->∀eI A outer s H E,JW K d k eI A s->QB (Z5 kN P w K mg base N d eI A outer s H E).Hj (eB d.st) G)(S:fL N d.ps (aP d.st):=by exact⟨rfl,rfl,rfl,by decide+kernel,rfl,by decide+kernel,by decide+kernel⟩) (B:XT d:=by exact fun _ _ _ _ _ _=>by first|exact Wt rfl|exact Wu fun _=>rfl|exact Wv fun _ _=>rfl|exact Ww fun _ _ _=>rfl|exact XR fun _ _ _ _=>rfl|exact Z6 fun _ _ _ _ _=>rfl) (ha:d.ps.length=a:=by rfl) (hn:N.length=b:=by rfl):
  wQ P w K mg base kN (k+1) d (spT K (qG a b G)):=by
 subst ha;subst hn;exact⟨xw.okQ D.fn S (fun ts t e=>Mf e) fun eI A outer s H E hr=>⟨G,hb S.nd eI A outer s H E hr,fun ts t e=>Qg e⟩,D.fn.binds B,D⟩
theorem Z7(N:List Str){a b:Nat}{G:aQ->Ab->Rz Out}(D:d.Ok K mg)(hb:N.Nodup->∀eI A outer s H E,JW K d k eI A s->ZB (Z5 kN P w K mg base N d eI A outer s H E).Hj (eB d.st) G)(S:fL N d.ps (aP d.st):=by exact⟨rfl,rfl,rfl,by decide+kernel,rfl,by decide+kernel,by decide+kernel⟩) (B:XT d:=by exact fun _ _ _ _ _ _=>by first|exact Wt rfl|exact Wu fun _=>rfl|exact Wv fun _ _=>rfl|exact Ww fun _ _ _=>rfl|exact XR fun _ _ _ _=>rfl|exact Z6 fun _ _ _ _ _=>rfl) (ha:d.ps.length=a:=by rfl) (hn:N.length=b:=by rfl):
  wQ P w K mg base kN (k+1) d (spT K (Bh a b G)):=by
 subst ha;subst hn;exact⟨xw.Z0 D.fn S (fun ts t e=>IM e) fun eI A outer s H E hr=>⟨G,hb S.nd eI A outer s H E hr,fun ts t e=>Ml e⟩,D.fn.binds B,D⟩
theorem Z8(D:d.Ok K mg)(B:XT d:=by exact fun _ _ _ _ _ _=>by first|exact Wt rfl|exact Wu fun _=>rfl|exact Wv fun _ _=>rfl|exact Ww fun _ _ _=>rfl|exact XR fun _ _ _ _=>rfl|exact Z6 fun _ _ _ _ _=>rfl):wQ P w K mg base kN k d (spT K fun _=>.bad):=
 ⟨⟨fun vs H Q E ⟨_,ts,_,_,t,e,_⟩=>(nomatch e),fun A outer s H args us vs Q E _ _ _ _ ⟨_,ts,_,_,t,e,_⟩=>(nomatch e)⟩,D.fn.binds B,D⟩
theorem wQ.Zx (C:wQ P w K mg base kN n d (spT K h)):wQ P w K mg base (tw P w) n d (um K fun ts A=>fy (h ts) A):=⟨C.ok.Zx,C.bd,C.df⟩
theorem wQ.da {CX:AG}{sp:Sp}(C:wQ P w K mg base CX n d sp)(hc:d.c=none)(hx:d.x=x)(hq:d.q=x):ye K mg x d.st d.ps (d.adr K) (d.fd K):=
 ⟨by have f:=C.df.fn;rw[hx,hq]at f;exact f,C.bd,by have m:=C.df.m0 hc;rw[hx]at m;exact m⟩
theorem wQ.ma {CX:AG}{sp:Sp}{c m:Str}(C:wQ P w K mg base CX n d sp)(hc:d.c=some c)(hx:d.x=m):MethAt K c m d.st d.ps (d.adr K) (d.fd K):=
 ⟨⟨d.q,by have f:=C.df.fn;rw[hx]at f;exact f⟩,C.bd,by have m:=(C.df.m1 c hc).1;rw[hx]at m;exact m,(C.df.m1 c hc).2⟩
structure GU(K:Frag)(mg:Str->Option Value)(c:Str):Prop where
 m:makesIn K (clsAt K c)=true
 k:keepIn K (.ref (clsAt K c))=true
 g:mg c=some (.ref (clsAt K c))
theorem wQ.mk' {CX:AG}{sp:Sp}{c:Str}(C:wQ P w K mg base CX n d sp)(M:GU K mg c)(hc:d.c=some c)(hx:d.x="__init__"):wC K mg c d.ps (d.adr K) (d.fd K):=
 ⟨by have m:=(C.df.m1 c hc).1;rw[hx]at m;exact⟨M.m,m.at_,m.fn,M.k⟩,C.bd,M.g⟩
end
section
variable {d:Df}{n k:Nat}{l:Expr}{es:List Expr}{kp:Pos}{c m:Str}
section
variable {O:aQ->Rs Tr}(C:wQ X.prog X.w X.K X.mg X.base kN n d (spT X.K h))
include C
theorem eQ(hr:cp k X.A)(ha:QA X (e::es) L)(hn:n<=k:=by first|decide|omega) (hc:d.c=none:=by rfl) (hx:d.x=x:=by rfl) (hq:d.q=x:=by rfl) (hg:Gl X x:=by rfl) (dZ:Db x:=by decide) (bH:aH (e::es)=true:=by rfl):QE X (.Call (.Name x p) (e::es) [] pos) (fun Y=>bP h (L Y)):=
 We (C.da hc hx hq) (C.ok.mono hn) hr ha hg dZ bH
theorem jH(hr:cp k X.A)(ho:QE X o F)(ha:QA X (e::es) L)(hn:n<=k:=by first|decide|omega) (hc:d.c=some c:=by rfl) (hx:d.x=m:=by rfl) {pl:Sem Bool} (bH:aH (e::es)=true:=by rfl) (ht:eval (.Call (.Attribute o m b6) (e::es) [] pos) X.env=rH pos b6 o m (e::es) X.env pl:=by rfl):QE X (.Call (.Attribute o m b6) (e::es) [] pos) (fun Y=>gL c m h (F Y) (L Y)):=
 RG (C.ma hc hx) (C.ok.mono hn) hr ho ha bH ht
theorem pj(hr:cp k X.A)(ho:QE X o F)(hn:n<=k:=by first|decide|omega) (hc:d.c=some c:=by rfl) (hx:d.x=m:=by rfl) {pl:Sem Bool} (ht:eval (.Call (.Attribute o m b6) [] [] pos) X.env=rH pos b6 o m [] X.env pl:=by rfl):QE X (.Call (.Attribute o m b6) [] [] pos) (fun Y=>gL c m h (F Y) (.ok [])):=
 MU (C.ma hc hx) (C.ok.mono hn) hr ho ht
theorem JX(Bn:yK X.K (d.adr X.K))(hr:cp (k+1) X.A)(hm:X.mg "min"=none)(hl:QE X l F)(ho:QE X o O)(hn:n<=k:=by first|decide|omega) (hc:d.c=some c:=by rfl) (hx:d.x=m:=by rfl) (ca:X.calm=true:=by rfl) (hg:Gl X "min":=by rfl) (bH:aH [l]=true:=by rfl) (hb:isCall o=false:=by rfl) (Rx:PySem.W.copiedNames.contains m=false:=by decide+kernel):
  QE X (.Call (.Name "min" p) [l] [⟨some "key",.Attribute o m b6,kp⟩] pos) (fun Y=>E2 c m h (F Y) (O Y)):=
 JO (C.ma hc hx) Bn (C.ok.mono hn) hr hm hl ho ca hg bH hb Rx
end
section
variable {F:aQ->Ab->Rz Tr}{L:aQ->Ab->Rz (List Tr)}{h:List Tr->Ab->Rz Tr}(C:wQ X.prog X.w X.K X.mg X.base (tw X.prog X.w) n d (um X.K h))
include C
theorem iA(hr:cp k X.A)(ha:ZL X (e::es) L)(hn:n<=k:=by first|decide|omega) (hc:d.c=none:=by rfl) (hx:d.x=x:=by rfl) (hq:d.q=x:=by rfl) (he:X.ex=[]:=by rfl) (hg:Gl X x:=by rfl) (dZ:Db x:=by decide) (bH:aH (e::es)=true:=by rfl):ZE X (.Call (.Name x p) (e::es) [] pos) (fun Y A=>(L Y A).bind h):=
 Wm (C.da hc hx hq) (C.ok.mono hn) hr ha he hg dZ bH
theorem dW(hr:cp k X.A)(ho:ZE X o F)(ha:ZL X (e::es) L)(hn:n<=k:=by first|decide|omega) (hc:d.c=some c:=by rfl) (hx:d.x=m:=by rfl) {pl:Sem Bool} (he:X.ex=[]:=by rfl) (bH:aH (e::es)=true:=by rfl) (ht:eval (.Call (.Attribute o m b6) (e::es) [] pos) X.env=rH pos b6 o m (e::es) X.env pl:=by rfl):ZE X (.Call (.Attribute o m b6) (e::es) [] pos) (fun Y A=>mQ c m h (F Y A) (L Y)):=
 RK (C.ma hc hx) (C.ok.mono hn) hr ho ha he bH ht
theorem E_(hr:cp k X.A)(ho:ZE X o F)(hn:n<=k:=by first|decide|omega) (hc:d.c=some c:=by rfl) (hx:d.x=m:=by rfl) {pl:Sem Bool} (he:X.ex=[]:=by rfl) (ht:eval (.Call (.Attribute o m b6) [] [] pos) X.env=rH pos b6 o m [] X.env pl:=by rfl):ZE X (.Call (.Attribute o m b6) [] [] pos) (fun Y A=>mQ c m h (F Y A) fun A=>.ok [] A):=
 MW (C.ma hc hx) (C.ok.mono hn) hr ho he ht
theorem RS(M:GU X.K X.mg c)(hr:cp (k+1) X.A)(ha:ZL X (e::es) L)(hn:n<=k:=by first|decide|omega) (hc:d.c=some c:=by rfl) (hx:d.x="__init__":=by rfl) (he:X.ex=[]:=by rfl) (hg:Gl X c:=by rfl) (dZ:Db c:=by decide) (bH:aH (e::es)=true:=by rfl):ZE X (.Call (.Name c p) (e::es) [] pos) (fun Y A=>wB c h (L Y A)):=
 RM (C.mk' M hc hx) (C.ok.mono hn) hr ha he hg dZ bH
theorem M3(M:GU X.K X.mg c)(hr:cp (k+1) X.A)(hn:n<=k:=by first|decide|omega) (hc:d.c=some c:=by rfl) (hx:d.x="__init__":=by rfl) (he:X.ex=[]:=by rfl) (hg:Gl X c:=by rfl) (dZ:Db c:=by decide):ZE X (.Call (.Name c p) [] [] pos) (fun _ A=>wB c h (.ok [] A)):=
 MX (C.mk' M hc hx) (C.ok.mono hn) hr he hg dZ
end
end
theorem RT(nn:Nat){c n:Str}{tp hp:Pos}{xs:List Str}{i:Nat}{body ou:List Stmt}{wD:Stmt}{G G2:aQ->Ab->Rz Out}(Tc:pf X.K X.mg c xs)(hb:∀pn E',ZB (X.jE pn E') body G)(hs:∀pn e,ZB (X.oq pn e) (wD::ou) G2)(hN:X.N.Nodup)(hi:X.N[i]?=some n:=by rfl) (hl:X.env.scope.names.lookup n=some .local:=by rfl)
  (bH:X.stack=X.env::X.outer:=by rfl) (hf:X.env.frame=some X.env.locals:=by rfl) (hx:X.ex=[]:=by rfl) (Le:xu X n:=by exact .inl rfl) (hg:Gl X c:=by rfl) (hnn:X.N.length=nn:=by rfl) (dZ:Db c:=by decide):
  ZS X (.Try body [.ExceptHandler (some (.Name c tp)) (some n) (wD::ou) hp] [] [] pos) (fun Y A=>Dv nn i xs (G Y A) G2):=by
 subst hnn;exact MY Tc hb hs hN hi hl bH hf hx Le hg dZ
section
variable {A A':Ab}{n:Nat}{Y:aQ}{t:Tr}
theorem JY:aj n A (.tup ts)=.tup ts:=by cases n<;>rfl
theorem qw{z:Str}:aj n A (.str z)=.str z:=by cases n<;>rfl
theorem JZ{z:Int}:aj n A (.int z)=.int z:=by cases n<;>rfl
theorem J0{z:Bool}:aj n A (.bl z)=.bl z:=by cases n<;>rfl
theorem RU:aj n A .bK=.bK:=by cases n<;>rfl
theorem RV{ns:List Int}:aj n A (.mY ns)=.mY ns:=by cases n<;>rfl
theorem fu{c:Str}{fs:List (Str×Tr)}(h:A[i]?=some (.ins c fs)):aj (n+1) A (.at i)=.ob c (fs.map fun p=>(p.1,aj n A p.2)):=by simp only[aj,h]
theorem kH(h:A[i]?=some (.lst ts)):aj (n+1) A (.at i)=.lst (ts.map (aj n A)):=by simp only[aj,h]
theorem fw{aG:List (Key×Tr)}(h:A[i]?=some (.bo aG)):aj (n+1) A (.at i)=.bo (aG.map fun p=>(p.1,aj n A p.2)):=by simp only[aj,h]
def mS(ts:List Tr):Prop:=∀t∈ts,∃us,t=.tup us
theorem uT(h:mS ts):ts.map (aj n A)=ts:=by
 conv=>rhs;rw[<-jw ts]
 exact fE fun t ht=>by obtain⟨us,rfl⟩:=h t ht;exact JY
def fk(aG:List (Key×Tr)):Prop:=∀p∈aG,∀n A,aj n A p.2=p.2
theorem gw{aG:List (Key×Tr)}(h:fk aG):(aG.map fun p=>(p.1,aj n A p.2))=aG:=by
 conv=>rhs;rw[<-jw aG]
 exact fE fun p hp=>by rw[h p hp];rfl
structure Ext(A A':Ab)(pins:List (Nat×Ao)):Prop where
 le:A.length<=A'.length
 at':∀k o,A[k]?=some o->A'[k]?=some ((pins.lookup k).getD o)
theorem Ext.refl:Ext A A []:=⟨aN _,fun k o e=>e⟩
theorem Ext.trans {A2:Ab}{pins V:List (Nat×Ao)}(a:Ext A A' pins)(b:Ext A' A2 V):Ext A A2 (V++pins):=⟨bJ a.le b.le,fun k o e=>by
 rw[b.at' k _ (a.at' k o e),List.lookup_append];cases V.lookup k<;>rfl⟩
theorem Ext.put {o o':Ao}(h:A[i]?=some o'):Ext A (A.set i o) [(i,o)]:=⟨by rw[ju];exact aN _,fun k x e=>by
 by_cases hk:k=i
 ·subst hk;rw[m9 (eR.mp e).1];simp only[List.lookup,bA,Option.getD]
 ·rw[kQ (Ne.symm hk),e];have:(k==i)=false:=by simpa using hk
  simp only[List.lookup,this,Option.getD]⟩
theorem Ext.push {o:Ao}:Ext A (A++[o]) []:=⟨by simp,fun k x e=>by rw[m7 (eR.mp e).1,e];rfl⟩
theorem pk{o:Ao}:(A++[o])[A.length]?=some o:=by simp
end
section
variable {α β:Type}{A:Ab}{Y:aQ}{x y t u:Tr}{c:Tr}{a:α}
theorem cN:(∀(a:α) (f:α->Rs β),(Rs.ok a).bind f=f a)/\(∀(a:α) (A:Ab) (f:α->Ab->Rz β),(Rz.ok a A).bind f=f a A)/\(∀(c:Tr) (A:Ab) (f:α->Ab->Rz β),(Rz.exc c A:Rz α).bind f=.exc c A):=⟨fun _ _=>rfl,fun _ _ _=>rfl,fun _ _ _=>rfl⟩
theorem iL(a:α)(A:Ab):fy (.ok a) A=.ok a A:=rfl
theorem ev:(∀Y A G,Bf (.ok (.nx Y) A) G=G Y A)/\(∀t A G,Bf (.ok (.ret t) A) G=.ok (.ret t) A)/\(∀c A G,Bf (.exc c A) G=.exc c A)
  /\(∀i t A Y,xK i (.ok t A) Y=.ok (.nx (Y.set i (.sh t))) A)/\(∀i c A Y,xK i (.exc c A) Y=.exc c A)
  /\(∀t A Y,yv (.ok t A) Y=.ok (.nx Y) A)/\(∀c A Y,yv (.exc c A) Y=.exc c A)/\(∀t A,Gd (.ok t A)=.ok (.ret t) A)/\(∀c A,Gd (.exc c A)=.exc c A)
  /\(∀Y A,cx (.ok (.nx Y) A)=.ok .bK A)/\(∀t A,cx (.ok (.ret t) A)=.ok t A)/\(∀c A,cx (.exc c A)=.exc c A)
  /\(∀x A l,EL (.ok x A) l=(l A).bind fun xs A=>.ok (x::xs) A)/\(∀x l,bt (.ok x) l=l.bind fun xs=>.ok (x::xs))
  /\(∀h x y,j7 h (.ok x) (.ok y)=h x y)/\(∀h l,bP h (.ok l)=h l)/\(∀b,SH (.ok (.bl b))=.ok b)
  /\(∀A a b,Xu (.ok true A) a b=a A)/\(∀A a b,Xu (.ok false A) a b=b A)/\(∀a b,F7 (.ok true) a b=a)/\(∀a b,F7 (.ok false) a b=b)
  /\(∀c Y n,cq (c::Y) (n+1)=cq Y n)/\(∀t Y,cq (.sh t::Y) 0=.ok t)/\(∀A t Y,cz A (.sh t::Y)=.sh (aj 5 A t)::cz A Y)/\(∀A Y,cz A (.no::Y)=.no::cz A Y)/\(∀A,cz A []=[])
  /\(pJ (.ok [])=.ok (.tup []))/\(∀a,pJ (.ok [a])=.ok (.tup [a]))/\(∀a b,pJ (.ok [a,b])=.ok (.tup [a,b]))/\(∀a b c,pJ (.ok [a,b,c])=.ok (.tup [a,b,c]))/\(∀a b c d,pJ (.ok [a,b,c,d])=.ok (.tup [a,b,c,d]))/\(∀a b c d e,pJ (.ok [a,b,c,d,e])=.ok (.tup [a,b,c,d,e]))
  /\(∀ts,yI [.lst ts]=.ok (.int ts.length))/\(∀ts,yI [.tup ts]=.ok (.int ts.length))/\(∀ts,yI [.bo ts]=.ok (.int ts.length))
  /\(∀i j,zk (.int i) (.int j)=.ok (.int (i+j)))/\(∀x t A,Dt x (.ok [t] A)=.exc (.str x) A)/\(∀i,Qe (.int i)=.ok (.int (-i)))
  /\(∀i A,pL (.ok (.int i)) A=.ok (.int i) A)/\(∀z A,pL (.ok (.str z)) A=.ok (.str z) A)/\(∀b A,pL (.ok (.bl b)) A=.ok (.bl b) A)/\(∀A,pL (.ok .bK) A=.ok .bK A)/\(∀i A,pL (.ok (.at i)) A=.ok (.at i) A)
  /\(∀b,Io (.ok true) b=b)/\(∀b,Io (.ok false) b=.ok false)/\(∀b,Xp (.ok true) b=.ok true)/\(∀b,Xp (.ok false) b=b)/\(∀b,uz (.ok b)=.ok (!b))/\(∀a b,Ip (.ok true) a b=a)/\(∀a b,Ip (.ok false) a b=b)
  /\(∀z aG,SK (.str z) (.bo aG)=.ok (.bl (dt aG (.inr z)).isSome))/\(∀z aG,L_ (.str z) (.bo aG)=.ok (.bl (!(dt aG (.inr z)).isSome)))/\(∀z,Mv (.str z)=.ok (.str z))/\(∀z y,YR (.str z) (.str y)=.ok (.bl (z==y)))/\(∀i j,YR (.int i) (.int j)=.ok (.bl (i==j)))/\(∀i j,YS (.int i) (.int j)=.ok (.bl (decide (j<i))))
  /\(∀Y,dn (.ok (.nx Y))=.ok .bK)/\(∀t,dn (.ok (.ret t))=.ok t)/\(∀t,qd (.ok t)=.ok (.ret t))/\(∀Y G,pK (.ok (.nx Y)) G=G Y)/\(∀t G,pK (.ok (.ret t)) G=.ok (.ret t))/\(∀i t Y,xG i (.ok t) Y=.ok (.nx (Y.set i (.sh t)))):=by
 refine⟨?_,?_,?_,?_,?_,?_,?_,?_,?_,?_,?_,?_,?_,?_,?_,?_,?_,?_,?_,?_,?_,?_,?_,?_,?_,?_,?_,?_,?_,?_,?_,?_,?_,?_,?_,?_,?_,?_,?_,?_,?_,?_,?_,?_,?_,?_,?_,?_,?_,?_,?_,?_,?_,?_,?_,?_,?_,?_,?_,?_,?_,?_⟩<;>intros<;>rfl
theorem jl:(∀n A ts,aj n A (.tup ts)=.tup ts)/\(∀n A z,aj n A (.str z)=.str z)/\(∀n A i,aj n A (.int i)=.int i)/\(∀n A b,aj n A (.bl b)=.bl b)/\(∀n A,aj n A .bK=.bK)/\(∀n A ns,aj n A (.mY ns)=.mY ns):=⟨fun _ _ _=>JY,fun _ _ _=>qw,fun _ _ _=>JZ,fun _ _ _=>J0,fun _ _=>RU,fun _ _ _=>RV⟩
variable {z:Str}{aG:List (Key×Tr)}
theorem zP{F:Nat->List Tr->Ab->Rz Tr}{l:Ab->Rz (List Tr)}(h:A[i]?=some (.lst ts)):Y7 F (.ok (.at i) A) l=(l A).bind fun us A=>F i us A:=by
 show(if U4 A i=true then(l A).bind fun us A=>F i us A else .bad)=_;exact ag (by unfold U4;rw[h])
theorem zQ(h:A[i]?=some (.lst ts))(hl:ts.length<d7):Qy i [t] A=.ok .bK (A.set i (.lst (ts++[t]))):=by
 show(match A[i]? with|some (.lst ts)=>if ts.length<d7 then Rz.ok Tr.bK (A.set i (.lst (ts++[t])))else .bad|_=>.bad)=_;rw[h];exact ag hl
def putD(A:Ab)(t tk tv:Tr)(Y:aQ):Rz Out:=match BB A t tk tv with
 |some A'=>.ok (.nx Y) A'
 |none=>.bad
theorem qA{o k:Ab->Rz Tr}:Ra (.ok t A) o k Y=(o A).bind fun u A=>(k A).bind fun tk A=>putD A u tk t Y:=rfl
theorem oG(h:A[i]?=some (.bo aG))(hl:aG.length<d7):putD A (.at i) (.str z) t Y=.ok (.nx Y) (A.set i (.bo (kz aG (.inr z) t))):=by
 have:BB A (.at i) (.str z) t=some (A.set i (.bo (kz aG (.inr z) t))):=by
  show(match A[i]? with|some (.bo aG)=>if aG.length<d7 then some (A.set i (.bo (kz aG (.inr z) t)))else none|_=>none)=_;rw[h];exact ag hl
 unfold putD;rw[this]
def Fb(i:Nat)(tk:Tr)(A:Ab):Rz Tr:=match i7 tk with
 |some key=>if lI A i=true then match dt (mZ A i) key with
  |some v=>.ok v (A.set i (.bo (gv (mZ A i) key)))
  |none=>.bad
  else .bad
 |none=>.bad
theorem Fc{k:Ab->Rz Tr}(h:A[i]?=some (.bo aG)):Jm (.ok (.at i) A) k=(k A).bind fun tk A=>Fb i tk A:=by
 have e:lI A i=true:=by unfold lI;rw[h]
 show(if lI A i=true then(k A).bind fun tk A=>Fb i tk A else .bad)=_;exact ag e
theorem Fd{v:Tr}(h:A[i]?=some (.bo aG))(hv:dt aG (.inr z)=some v):Fb i (.str z) A=.ok v (A.set i (.bo (gv aG (.inr z)))):=by
 have e:lI A i=true:=by unfold lI;rw[h]
 have g:mZ A i=aG:=by unfold mZ;rw[h]
 unfold Fb;simp only[e,bB,i7,g,hv]
def Fe(x:Ab->Rz Tr)(i:Nat)(tk:Tr)(A:Ab):Rz Tr:=match i7 tk with
 |some key=>(x A).bind fun tx A=>if lI A i=true then match dt (mZ A i) key with
  |some v=>.ok v (A.set i (.bo (gv (mZ A i) key)))
  |none=>.ok tx A
  else .bad
 |none=>.bad
theorem M4{k x:Ab->Rz Tr}(h:A[i]?=some (.bo aG)):Jo (.ok (.at i) A) k x=(k A).bind fun tk A=>Fe x i tk A:=by
 have e:lI A i=true:=by unfold lI;rw[h]
 show(if lI A i=true then(k A).bind fun tk A=>Fe x i tk A else .bad)=_;exact ag e
theorem GV(hv:dt aG (.inr z)=none):gv aG (.inr z)=aG:=nh.mpr fun p hp=>by
 unfold dt at hv;rw[Option.map_eq_none_iff,List.find?_eq_none]at hv;simpa using hv p hp
theorem RW{o:Ao}(h:A[i]?=some o):A.set i o=A:=by
 apply nk;intro k;by_cases hk:i=k
 ·subst hk;rw[m9 (eR.mp h).1,h]
 ·rw[kQ hk]
theorem M5{x:Ab->Rz Tr}(hx:x A=.ok .bK A)(h:A[i]?=some (.bo aG)):Fe x i (.str z) A=.ok ((dt aG (.inr z)).getD .bK) (A.set i (.bo (gv aG (.inr z)))):=by
 have e:lI A i=true:=by unfold lI;rw[h]
 have g:mZ A i=aG:=by unfold mZ;rw[h]
 unfold Fe;simp only[i7,hx,Rz.bind,e,bB,g];cases hv:dt aG (.inr z)with
 |some v=>rfl
 |none=>rw[GV hv,RW h];rfl
theorem GW{y:Str}(h:z.length<=1000)(hy:y.length<=1000):(fun acc=>om (.ok (.str z)) (fun acc=>om (.ok (.str y)) (fun acc=>zA acc) acc) acc) Str.empty=.ok (.str (Str.empty++z++y)):=by
 have l1:(Str.empty++z).length<=bV:=by rw[g7];show 0+z.length<=1000000;omega
 have l2:(Str.empty++z++y).length<=bV:=by rw[g7,g7];show 0+z.length+y.length<=1000000;omega
 show(if(Str.empty++z).length<=bV then om (.ok (.str y)) (fun acc=>zA acc) (Str.empty++z)else .bad)=_;rw[ag l1];show(if(Str.empty++z++y).length<=bV then zA (Str.empty++z++y)else .bad)=_;rw[ag l2];exact ag l2
end
def roomF(i:Nat):List (Str×Tr):=[("log",.at (i+1)),("ranks",.at (i+2)),("entries",.at (i+3)),("chosen",.at (i+4)),("banned",.at (i+5)),("invited",.at (i+6)),("read_marks",.at (i+7)),("said_by_key",.at (i+8))]
structure aM(A:Ab)(i:Nat)(rows:List Tr)(rk en ch bn iv:List (Key×Tr)):Prop where
 o:A[i]?=some (.ins "Room" (roomF i))
 lg:A[i+1]?=some (.lst rows)
 rk:A[i+2]?=some (.bo rk)
 en:A[i+3]?=some (.bo en)
 ch:A[i+4]?=some (.bo ch)
 bn:A[i+5]?=some (.bo bn)
 iv:A[i+6]?=some (.bo iv)
structure di(rows:List Tr)(rk en ch bn iv:List (Key×Tr)):Prop where
 lg:mS rows
 rk:fk rk
 en:fk en
 ch:fk ch
 bn:fk bn
 iv:fk iv
section
variable {A:Ab}{rows:List Tr}{rk en ch bn iv:List (Key×Tr)}
theorem aM.Z9 (h:aM A i rows rk en ch bn iv)(f:di rows rk en ch bn iv):iO ["Room"] "log" (aj 5 A (.at i))=.ok (.lst rows):=by
 rw[fu h.o];show Rs.ok (aj 4 A (.at (i+1)))=_;rw[kH h.lg,uT f.lg]
theorem aM.xR (h:aM A i rows rk en ch bn iv)(f:di rows rk en ch bn iv):iO ["Room"] "ranks" (aj 5 A (.at i))=.ok (.bo rk):=by
 rw[fu h.o];show Rs.ok (aj 4 A (.at (i+2)))=_;rw[fw h.rk,gw f.rk]
theorem aM.Z_ (h:aM A i rows rk en ch bn iv)(f:di rows rk en ch bn iv):iO ["Room"] "entries" (aj 5 A (.at i))=.ok (.bo en):=by
 rw[fu h.o];show Rs.ok (aj 4 A (.at (i+3)))=_;rw[fw h.en,gw f.en]
theorem aM.Wx (h:aM A i rows rk en ch bn iv)(f:di rows rk en ch bn iv):iO ["Room"] "chosen" (aj 5 A (.at i))=.ok (.bo ch):=by
 rw[fu h.o];show Rs.ok (aj 4 A (.at (i+4)))=_;rw[fw h.ch,gw f.ch]
theorem aM.RX (h:aM A i rows rk en ch bn iv)(f:di rows rk en ch bn iv):iO ["Room"] "banned" (aj 5 A (.at i))=.ok (.bo bn):=by
 rw[fu h.o];show Rs.ok (aj 4 A (.at (i+5)))=_;rw[fw h.bn,gw f.bn]
theorem aM.Wy (h:aM A i rows rk en ch bn iv)(f:di rows rk en ch bn iv):iO ["Room"] "invited" (aj 5 A (.at i))=.ok (.bo iv):=by
 rw[fu h.o];show Rs.ok (aj 4 A (.at (i+6)))=_;rw[fw h.iv,gw f.iv]
theorem aM.Z' (h:aM A i rows rk en ch bn iv):sy ["Room"] "log" (.ok (.at i) A)=.ok (.at (i+1)) A:=by unfold sy Rz.bind;simp only[h.o];rfl
theorem aM.RY (h:aM A i rows rk en ch bn iv):sy ["Room"] "ranks" (.ok (.at i) A)=.ok (.at (i+2)) A:=by unfold sy Rz.bind;simp only[h.o];rfl
theorem aM.aaa (h:aM A i rows rk en ch bn iv):sy ["Room"] "entries" (.ok (.at i) A)=.ok (.at (i+3)) A:=by unfold sy Rz.bind;simp only[h.o];rfl
theorem aM.aac (h:aM A i rows rk en ch bn iv):sy ["Room"] "invited" (.ok (.at i) A)=.ok (.at (i+6)) A:=by unfold sy Rz.bind;simp only[h.o];rfl
theorem aM.call (h:aM A i rows rk en ch bn iv){m:Str}(hm:Cu (roomF i) m=true)(F:List Tr->Ab->Rz Tr)(l:Ab->Rz (List Tr)):mQ "Room" m F (.ok (.at i) A) l=(l A).bind fun ts A=>F (.at i::ts) A:=by
 show(match A[i]? with|some (.ins x fs)=>if x="Room"/\Cu fs m=true then(l A).bind fun ts A=>F (.at i::ts) A else .bad|_=>.bad)=_;rw[h.o];exact ag ⟨rfl,hm⟩
theorem Ext.same {A':Ab}{pins:List (Nat×Ao)}{k:Nat}{o:Ao}(e:Ext A A' pins)(h:A[k]?=some o)(n:pins.lookup k=none):A'[k]?=some o:=by rw[e.at' k o h,n];rfl
theorem Ext.new {A':Ab}{pins:List (Nat×Ao)}{k:Nat}{o o':Ao}(e:Ext A A' pins)(h:A[k]?=some o)(n:pins.lookup k=some o'):A'[k]?=some o':=by rw[e.at' k o h,n];rfl
variable {A':Ab}{bN:List Tr}{d':List (Key×Tr)}
theorem gQ{k j:Nat}{o:Ao}(h:k≠j):[(j,o)].lookup k=none:=by
 have:(k==j)=false:=by simpa using h
 simp only[List.lookup,this]
theorem J4{k:Nat}{o:Ao}:[(k,o)].lookup k=some o:=by simp only[List.lookup,bA]
theorem aM.GX (h:aM A i rows rk en ch bn iv)(e:Ext A A' []):aM A' i rows rk en ch bn iv:=⟨e.same h.o rfl,e.same h.lg rfl,e.same h.rk rfl,e.same h.en rfl,e.same h.ch rfl,e.same h.bn rfl,e.same h.iv rfl⟩
theorem aM.RZ (h:aM A i rows rk en ch bn iv)(e:Ext A A' [(i+1,.lst bN)]):aM A' i bN rk en ch bn iv:=⟨e.same h.o (gQ (by omega)),e.new h.lg J4,e.same h.rk (gQ (by omega)),e.same h.en (gQ (by omega)),e.same h.ch (gQ (by omega)),e.same h.bn (gQ (by omega)),e.same h.iv (gQ (by omega))⟩
theorem aM.R0 (h:aM A i rows rk en ch bn iv)(e:Ext A A' [(i+2,.bo d')]):aM A' i rows d' en ch bn iv:=⟨e.same h.o (gQ (by omega)),e.same h.lg (gQ (by omega)),e.new h.rk J4,e.same h.en (gQ (by omega)),e.same h.ch (gQ (by omega)),e.same h.bn (gQ (by omega)),e.same h.iv (gQ (by omega))⟩
theorem aM.aad (h:aM A i rows rk en ch bn iv)(e:Ext A A' [(i+3,.bo d')]):aM A' i rows rk d' ch bn iv:=⟨e.same h.o (gQ (by omega)),e.same h.lg (gQ (by omega)),e.same h.rk (gQ (by omega)),e.new h.en J4,e.same h.ch (gQ (by omega)),e.same h.bn (gQ (by omega)),e.same h.iv (gQ (by omega))⟩
theorem aM.aae (h:aM A i rows rk en ch bn iv)(e:Ext A A' [(i+6,.bo d')]):aM A' i rows rk en ch bn d':=⟨e.same h.o (gQ (by omega)),e.same h.lg (gQ (by omega)),e.same h.rk (gQ (by omega)),e.same h.en (gQ (by omega)),e.same h.ch (gQ (by omega)),e.same h.bn (gQ (by omega)),e.new h.iv J4⟩
theorem jI{us:List Tr}(h:mS rows):mS (rows++[.tup us]):=fun t ht=>by
 rcases dC.mp ht with ht|ht
 ·exact h t ht
 ·exact⟨us,cF.mp ht⟩
theorem GY{aG:List (Key×Tr)}{k:Key}(h:fk aG):fk (gv aG k):=fun p hp=>h p ((gj.mp hp).1)
end
section
variable {α:Type}{f:α->Tr}{l:List (Str×α)}{z:Str}{a:α}
def dP(f:α->Tr)(l:List (Str×α)):List (Key×Tr):=l.map fun p=>(Sum.inr p.1,f p.2)
def eE(l:List (Str×α))(z:Str)(a:α):List (Str×α):=if(l.any fun p=>decide (p.1=z))=true then l.map (fun p=>if p.1=z then(p.1,a)else p)else l++[(z,a)]
def kc(l:List (Str×α))(z:Str):List (Str×α):=l.filter fun p=>decide (p.1≠z)
theorem Ff{y:Str}:((Sum.inr y:Key)=.inr z)↔y=z:=⟨fun h=>by injection h,fun h=>by rw[h]⟩
theorem Fg{y:Str}:(decide ((Sum.inr y:Key)=.inr z))=decide (y=z):=vn.mpr Ff
theorem du:∀{l:List (Str×α)},dt (dP f l) (.inr z)=(l.lookup z).map f
 |[]=>rfl
 |(y,b)::l=>by
  have ih:=du (l:=l);unfold dt at ih⊢;show Option.map _ (List.find? _ ((Sum.inr y,f b)::dP f l))=_;rw[iV,bS];by_cases h:y=z
  ·subst h;simp
  ·have h2:(z==y)=false:=by simpa using Ne.symm h
   simp only[Fg,h,decide_false,h2];exact ih
theorem oH:kz (dP f l) (.inr z) (f a)=dP f (eE l z a):=by
 unfold kz eE;have e:((dP f l).any fun kv=>decide (kv.1=(.inr z:Key)))=l.any fun p=>decide (p.1=z):=by
  unfold dP;rw[List.any_map];congr 1;funext p;exact Fg
 rw[e];split
 ·unfold dP;rw[bT,bT];apply fE;intro p hp;by_cases h:p.1=z
  ·simp[h]
  ·simp[h]
 ·unfold dP;rw[cP];rfl
theorem zR:gv (dP f l) (.inr z)=dP f (kc l z):=by
 unfold gv kc dP;rw[nA];congr 1;apply qY;intro p hp;show decide ((Sum.inr p.1:Key)≠ .inr z)=decide (p.1≠z);simp[Ff]
theorem mq:(dP f l).length=l.length:=aC _
theorem sD(h:∀a n A,aj n A (f a)=f a):fk (dP f l):=fun p hp n A=>by
 obtain⟨q,_,rfl⟩:=cc.mp hp;exact h q.2 n A
theorem Fh(h:∀p∈l,p.1.length<=bV):Bi (dP f l)=.ok (l.map fun p=>.str p.1):=by
 unfold Bi;rw[ag]
 ·unfold dP;rw[bT];rfl
 ·unfold dP;rw[nG,cO];intro p hp;exact g_ (h p hp)
end
section
variable {o:Tr}{k:Str->Int×Int}
theorem yT:∀{ns:List Str},(∀z∈ns,h [o,.str z]=.ok (.tup [.int (k z).1,.int (k z).2]))->keysOf h o (ns.map .str)=some (ns.map k)
 |[],_=>rfl
 |z::ns,q=>by
  show((keyOf (h [o,.str z])).bind fun k=>(keysOf h o (ns.map .str)).map fun ks=>k::ks)=_;rw[q z (bR ..),yT fun y hy=>q y (bI _ hy)]
  rfl
theorem tT{kf:Nat->Int×Int}:∀j,cA kf j<=j
 |0=>aN _
 |j+1=>by
  unfold cA;split
  ·exact aN _
  ·exact Nat.le_succ_of_le (tT j)
theorem sE{kf:Nat->Int×Int}:∀j,(∀a b,a<b->b<=j->(kf a).2<(kf b).2)->(∀a,a<=j->(kf (cA kf j)).1<=(kf a).1)/\(∀a,a<cA kf j->(kf (cA kf j)).1<(kf a).1)
 |0,_=>⟨fun a ha=>by cases Nat.le_zero.mp ha;exact Int.le_refl _,fun a ha=>absurd ha (vp _)⟩
 |j+1,hk=>by
  obtain⟨h1,h2⟩:=sE (kf:=kf) j fun a b C6 hb=>hk a b C6 (Nat.le_succ_of_le hb);have hb:=tT (kf:=kf) j;have fR:=hk (cA kf j) (j+1) (Nat.lt_succ_of_le hb) (aN _);have e:iK (kf (j+1)) (kf (cA kf j))=decide ((kf (j+1)).1<(kf (cA kf j)).1):=by
   unfold iK;by_cases q:(kf (j+1)).1<(kf (cA kf j)).1
   ·simp[q]
   ·simp[q];intros;omega
  unfold cA;rw[e];by_cases q:(kf (j+1)).1<(kf (cA kf j)).1
  ·rw[ag (g_ q)];refine⟨fun a ha=>?_,fun a ha=>Int.lt_of_lt_of_le q (h1 a (vk ha))⟩;rcases Nat.lt_or_eq_of_le ha with ha|rfl
   ·exact Int.le_of_lt (Int.lt_of_lt_of_le q (h1 a (vk ha)))
   ·exact Int.le_refl _
  ·rw[ak (by simpa using q)];refine⟨fun a ha=>?_,h2⟩;rcases Nat.lt_or_eq_of_le ha with ha|rfl
   ·exact h1 a (vk ha)
   ·exact Int.not_lt.mp q
end
section
variable {α:Type}{f:α->Tr}{l:List (Str×α)}{z:Str}{A:Ab}{n:Nat}
theorem dA:eJ (.bo (dP f l)) (.str z)=mM ((l.lookup z).map f):=by
 show(mM (i7 (.str z))).bind (fun k=>mM (dt (dP f l) k))=_;show mM (dt (dP f l) (.inr z))=_;rw[du]
theorem pq:∀{ns:List Str},mi (ns.map .str)=true
 |[]=>rfl
 |z::ns=>by rw[aO,mi,Hl,rA];exact pq
theorem pv{ns:List Str}:(ns.map Tr.str).map (aj n A)=ns.map .str:=by
 rw[bT];exact fE fun z _=>qw
theorem BQ{C:aQ->Rs Bool}{Y:aQ}{P:Str->Bool}(hF:∀z,F (.sh (.str z)::Y)=.ok (.str z)):∀{ns:List Str} {c:Cell},(∀z∈ns,C (.sh (.str z)::Y)=.ok (P z))->C0 (gN 0) C F (ns.map .str) (c::Y)=.ok ((ns.filter P).map .str)
 |[],_,_=>rfl
 |z::ns,c,hC=>by
  have ih:=BQ (Y:=Y) hF (ns:=ns) (c:=.sh (.str z)) fun y hy=>hC y (bI _ hy);show(LU (C (.sh (.str z)::Y))).bind (fun k=>if k then(LU (F (.sh (.str z)::Y))).bind fun y=>(C0 (gN 0) C F (ns.map .str) (.sh (.str z)::Y)).bind fun ys=>.ok (y::ys)else C0 (gN 0) C F (ns.map .str) (.sh (.str z)::Y))=_;rw[hC z (bR ..),hF z,ih];show(if P z then _ else _)=_;cases e:P z with
  |true=>rw[jS e];rfl
  |false=>rw[iS (by rw[e];exact d9)];rfl
theorem J5{c m:Str}{fs:List (Str×Tr)}{ks:List (Int×Int)}{t:Tr}(hn:Cu fs m=true)(Ry:0<ts.length)(hs:keysOf h (.ob c fs) ts=some ks)(ht:ts[cA (fun i=>ks.getD i (0,0)) (ts.length - 1)]?=some t):uo c m h (.lst ts) (.ob c fs)=.ok t:=by
 unfold uo;simp only[hn,Ry,and_self,bB,hs,ht]
 rfl
theorem tU{C:aQ->Rs Bool}{r:Rs (List Tr)}{ix:List (Option Nat)}{Y BR:aQ}{c:Cell}(P:Str->Bool){ns:List Str}(hr:r=.ok (ns.map .str))(hl:ns.length<=d7)(hρ:r9 ix Y=c::BR)(hF:∀z,F (.sh (.str z)::BR)=.ok (.str z))(hC:∀z∈ns,C (.sh (.str z)::BR)=.ok (P z)):qF ix (gN 0) C F r Y=.ok (.lst ((ns.filter P).map .str)):=by
 unfold qF;rw[hr,hρ];show(if(ns.map Tr.str).length<=d7 then _ else _)=_;rw[ag (by rw[aC];exact hl),BQ hF hC]
 rfl
theorem uU(h:mi ts=true):wc (.ok (.lst ts)) A=.ok (.at A.length) (A++[.lst ts]):=ag h
theorem uV(h:∀p∈l,p.1.length<=1000):IQ (.ok (.bo (dP f l)))=.ok (l.map fun p=>.str p.1):=Fh fun p hp=>bJ (h p hp) (by decide)
theorem map_fst:(l.map fun p=>Tr.str p.1)=(l.map (·.1)).map .str:=by rw[bT];rfl
theorem Ext.idem {A':Ab}{pins:List (Nat×Ao)}{k:Nat}{o:Ao}(e:Ext A A' pins)(h:A[k]?=some o)(hu:pins.lookup k=none):Ext A A' ((k,o)::pins):=⟨e.le,fun j x q=>by
 rw[bS];by_cases hj:j=k
 ·subst hj;rw[h]at q;cases q;rw[e.at' j o h,hu];simp
 ·have:(j==k)=false:=by simpa using hj
  rw[this];exact e.at' j x q⟩
theorem Ext.cons {A' A2:Ab}{pins:List (Nat×Ao)}{k:Nat}{o:Ao}(a:Ext A A' pins)(b:Ext A' A2 [(k,o)]):Ext A A2 ((k,o)::pins):=a.trans b
theorem Ext.past {A' A2:Ab}{pins:List (Nat×Ao)}(a:Ext A A' [])(b:Ext A' A2 pins):Ext A A2 pins:=by have:=a.trans b;rwa[iU]at this
end
structure bG(A:Ab)(aA:List (Str×Bool))(a9:List (Str×Nat)):Prop where
 o:A[0]?=some (.ins "Hall" [("persons",.at 1),("places",.at 2),("hands",.at 3)])
 ps:A[1]?=some (.bo (dP .bl aA))
 pl:A[2]?=some (.bo (dP .at a9))
section
variable {A A':Ab}{aA:List (Str×Bool)}{a9:List (Str×Nat)}
theorem flB{l:List (Str×Bool)}:fk (dP .bl l):=sD fun _ _ _=>J0
theorem bG.M6 (h:bG A aA a9):iO ["Hall"] "persons" (aj 5 A (.at 0))=.ok (.bo (dP .bl aA)):=by
 rw[fu h.o];show Rs.ok (aj 4 A (.at 1))=_;rw[fw h.ps,gw flB]
theorem bG.M7 (h:bG A aA a9):iO ["Hall"] "places" (aj 5 A (.at 0))=.ok (.bo (dP (fun j=>aj 3 A (.at j)) a9)):=by
 rw[fu h.o];show Rs.ok (aj 4 A (.at 2))=_;rw[fw h.pl];unfold dP;rw[bT];rfl
theorem bG.aaf (h:bG A aA a9):sy ["Hall"] "persons" (.ok (.at 0) A)=.ok (.at 1) A:=by unfold sy Rz.bind;simp only[h.o];rfl
theorem bG.aag (h:bG A aA a9):sy ["Hall"] "places" (.ok (.at 0) A)=.ok (.at 2) A:=by unfold sy Rz.bind;simp only[h.o];rfl
theorem bG.call (h:bG A aA a9){m:Str}(hm:Cu [("persons",.at 1),("places",.at 2),("hands",.at 3)] m=true)(F:List Tr->Ab->Rz Tr)(l:Ab->Rz (List Tr)):mQ "Hall" m F (.ok (.at 0) A) l=(l A).bind fun ts A=>F (.at 0::ts) A:=by
 show(match A[0]? with|some (.ins x fs)=>if x="Hall"/\Cu fs m=true then(l A).bind fun ts A=>F (.at 0::ts) A else .bad|_=>.bad)=_;rw[h.o];exact ag ⟨rfl,hm⟩
theorem bG.GX (h:bG A aA a9){pins:List (Nat×Ao)}(e:Ext A A' pins)(h0:pins.lookup 0=none)(h1:pins.lookup 1=none)(h2:pins.lookup 2=none):bG A' aA a9:=⟨e.same h.o h0,e.same h.ps h1,e.same h.pl h2⟩
theorem ke{h:Tr->Tr->Rs Tr}{x:Tr}{b:Ab->Rz Tr}:MH h (.ok x A) b=(b A).bind fun y A=>pL (h (aj 1 A x) (aj 1 A y)) A:=rfl
theorem zS{α:Type}{f:α->Tr}{l:List (Str×α)}(h:A[i]?=some (.bo (dP f l))):aj 1 A (.at i)=.bo (dP f l):=by
 rw[fw h];unfold dP;rw[bT];rfl
theorem J7:(∀T G Y A,tB T G [] Y A=.ok (.nx Y) A)/\(∀T G t ts Y A,tB T G (t::ts) Y A=(fy (T t Y) A).bind fun qE A=>(G qE A).bind fun o A=>match o with
  |.nx iH=>tB T G ts iH A
  |.ct iH=>tB T G ts iH A
  |.bk iH=>.ok (.nx iH) A
  |.ret t=>.ok (.ret t) A)/\(∀T G ts A Y,IK T G (.ok ts A) Y=tB T G ts Y A)/\(∀i t Y,gN i t Y=.ok (Y.set i (.sh t)))/\(∀ts,xI (.ok (.tup ts))=.ok ts)/\(∀ts,xI (.ok (.lst ts))=.ok ts):=by
 refine⟨?_,?_,?_,?_,?_,?_⟩<;>intros<;>rfl
end
def BS(j ks kb ka:Nat)(d v p:Str):List (Str×Tr):=[("rows",.at (j+1)),("roles",.at (j+2)),("stays",.at ks),("barred",.at kb),("asked",.at ka),("door",.str d),("voice",.str v),("past",.str p)]
abbrev lJ:=Str×Int×Int×Option Int
def DH:Option Int->Tr
 |none=>.bK
 |some n=>.int n
def uu(s:lJ):Tr:=.tup [.str s.1,.int s.2.1,.int s.2.2.1,DH s.2.2.2]
structure bF(A:Ab)(j ks kb ka:Nat)(rows:List Tr)(aW:List (Str×Str))(stays:List lJ)(aZ asked:List Str)(d v p:Str):Prop where
 o:A[j]?=some (.bo (dP id (BS j ks kb ka d v p)))
 rw:A[j+1]?=some (.lst rows)
 rl:A[j+2]?=some (.bo (dP .str aW))
 st:A[ks]?=some (.lst (stays.map uu))
 br:A[kb]?=some (.lst (aZ.map .str))
 as:A[ka]?=some (.lst (asked.map .str))
 nd:[j,j+1,j+2,ks,kb,ka].Nodup
section
variable {A A':Ab}{j ks kb ka n:Nat}{rows:List Tr}{aW:List (Str×Str)}{stays:List lJ}{aZ asked:List Str}{d v p:Str}
theorem gx{l:List (Str×Tr)}(h:A[j]?=some (.bo (dP id l))):aj (n+1) A (.at j)=.bo (dP (aj n A) l):=by
 rw[fw h];unfold dP;rw[bT];rfl
theorem wR{l:List (Str×Tr)}(h:A[j]?=some (.bo (dP id l))):aj 1 A (.at j)=.bo (dP id l):=by
 rw[fw h];unfold dP;rw[bT];rfl
theorem J8:(stays.map uu).map (aj n A)=stays.map uu:=uT fun t ht=>by obtain⟨s,_,rfl⟩:=cc.mp ht;exact⟨_,rfl⟩
theorem bF.R3 (h:bF A j ks kb ka rows aW stays aZ asked d v p)(f:mS rows):eJ (aj (n+2) A (.at j)) (.str "rows")=.ok (.lst rows):=by
 rw[gx h.o,dA];show Rs.ok (aj (n+1) A (.at (j+1)))=_;rw[kH h.rw,uT f]
theorem bF.J9 (h:bF A j ks kb ka rows aW stays aZ asked d v p):eJ (aj (n+2) A (.at j)) (.str "roles")=.ok (.bo (dP .str aW)):=by
 rw[gx h.o,dA];show Rs.ok (aj (n+1) A (.at (j+2)))=_;rw[fw h.rl,gw (sD fun _ _ _=>qw)]
theorem bF.Wz (h:bF A j ks kb ka rows aW stays aZ asked d v p):eJ (aj (n+2) A (.at j)) (.str "stays")=.ok (.lst (stays.map uu)):=by
 rw[gx h.o,dA];show Rs.ok (aj (n+1) A (.at ks))=_;rw[kH h.st,J8]
theorem bF.WA (h:bF A j ks kb ka rows aW stays aZ asked d v p):eJ (aj (n+2) A (.at j)) (.str "barred")=.ok (.lst (aZ.map .str)):=by
 rw[gx h.o,dA];show Rs.ok (aj (n+1) A (.at kb))=_;rw[kH h.br,pv]
theorem bF.R4 (h:bF A j ks kb ka rows aW stays aZ asked d v p):eJ (aj (n+2) A (.at j)) (.str "asked")=.ok (.lst (asked.map .str)):=by
 rw[gx h.o,dA];show Rs.ok (aj (n+1) A (.at ka))=_;rw[kH h.as,pv]
theorem bF.a_d (h:bF A j ks kb ka rows aW stays aZ asked d v p):eJ (aj (n+1) A (.at j)) (.str "door")=.ok (.str d):=by
 rw[gx h.o,dA];show Rs.ok (aj n A (.str d))=_;rw[qw]
theorem bF.a_v (h:bF A j ks kb ka rows aW stays aZ asked d v p):eJ (aj (n+1) A (.at j)) (.str "voice")=.ok (.str v):=by
 rw[gx h.o,dA];show Rs.ok (aj n A (.str v))=_;rw[qw]
theorem bF.a_p (h:bF A j ks kb ka rows aW stays aZ asked d v p):eJ (aj (n+1) A (.at j)) (.str "past")=.ok (.str p):=by
 rw[gx h.o,dA];show Rs.ok (aj n A (.str p))=_;rw[qw]
theorem bF.aah (h:bF A j ks kb ka rows aW stays aZ asked d v p):eJ (aj 1 A (.at j)) (.str "rows")=.ok (.at (j+1)):=by rw[wR h.o,dA];rfl
theorem bF.R5 (h:bF A j ks kb ka rows aW stays aZ asked d v p):eJ (aj 1 A (.at j)) (.str "roles")=.ok (.at (j+2)):=by rw[wR h.o,dA];rfl
theorem bF.aai (h:bF A j ks kb ka rows aW stays aZ asked d v p):eJ (aj 1 A (.at j)) (.str "stays")=.ok (.at ks):=by rw[wR h.o,dA];rfl
theorem bF.ext {pins:List (Nat×Ao)}(h:bF A j ks kb ka rows aW stays aZ asked d v p)(e:Ext A A' pins)(q:∀k∈[j,j+1,j+2,ks,kb,ka],pins.lookup k=none):bF A' j ks kb ka rows aW stays aZ asked d v p:=
 ⟨e.same h.o (q _ (by simp)),e.same h.rw (q _ (by simp)),e.same h.rl (q _ (by simp)),e.same h.st (q _ (by simp)),e.same h.br (q _ (by simp)),e.same h.as (q _ (by simp)),h.nd⟩
variable {bN:List Tr}{kI:List (Str×Str)}{oJ:List lJ}{wU:List Str}
theorem bF.ne (h:bF A j ks kb ka rows aW stays aZ asked d v p):j≠ks/\j≠kb/\j≠ka/\j+1≠ks/\j+1≠kb/\j+1≠ka/\j+2≠ks/\j+2≠kb/\j+2≠ka/\ks≠kb/\ks≠ka/\kb≠ka:=by
 have:=h.nd;simp only[fH,aE,a_,ba,iq]at this;obtain⟨⟨_,_,a,b,c⟩,⟨_,d,e,f⟩,⟨g,i,k⟩,⟨l,m⟩,n,_⟩:=this;exact⟨a,b,c,d,e,f,g,i,k,l,m,n⟩
theorem bF.WB:j+2≠j+1/\j+2≠j:=⟨kZ _,cJ (Nat.lt_add_of_pos_right (Nat.succ_pos 1))⟩
theorem bF.M8 (h:bF A j ks kb ka rows aW stays aZ asked d v p)(e:Ext A A' [(j+1,.lst bN)]):bF A' j ks kb ka bN aW stays aZ asked d v p:=by
 obtain⟨_,_,_,b1,b2,b3,_⟩:=h.ne;exact⟨e.same h.o (gQ (kZ j).symm),e.new h.rw J4,e.same h.rl (gQ bF.WB.1),e.same h.st (gQ b1.symm),e.same h.br (gQ b2.symm),e.same h.as (gQ b3.symm),h.nd⟩
theorem bF.R6 (h:bF A j ks kb ka rows aW stays aZ asked d v p)(e:Ext A A' [(j+2,.bo (dP .str kI))]):bF A' j ks kb ka rows kI stays aZ asked d v p:=by
 obtain⟨_,_,_,_,_,_,b1,b2,b3,_⟩:=h.ne;exact⟨e.same h.o (gQ bF.WB.2.symm),e.same h.rw (gQ bF.WB.1.symm),e.new h.rl J4,e.same h.st (gQ b1.symm),e.same h.br (gQ b2.symm),e.same h.as (gQ b3.symm),h.nd⟩
theorem bF.aaj (h:bF A j ks kb ka rows aW stays aZ asked d v p)(e:Ext A A' [(ks,.lst (oJ.map uu))]):bF A' j ks kb ka rows aW oJ aZ asked d v p:=by
 obtain⟨a,_,_,b,_,_,c,_,_,d1,d2,_⟩:=h.ne;exact⟨e.same h.o (gQ a),e.same h.rw (gQ b),e.same h.rl (gQ c),e.new h.st J4,e.same h.br (gQ d1.symm),e.same h.as (gQ d2.symm),h.nd⟩
theorem dB{k:Nat}{o:Ao}(h:A[k]?=some o):k<A.length:=(eR.mp h).1
theorem J_{l1 l2:List Nat}{x y:Nat}(h:(l1++x::l2).Nodup)(hy:∀k∈l1++l2,k<y):(l1++y::l2).Nodup:=
 List.perm_middle.nodup_iff.mpr (fH.mpr ⟨fun m=>dm _ (hy _ m),(fH.mp (List.perm_middle.nodup_iff.mp h)).2⟩)
theorem bF.aak (h:bF A j ks kb ka rows aW stays aZ asked d v p):bF ((A++[Ao.lst (wU.map .str)]).set j (.bo (dP id (BS j ks kb A.length d v p)))) j ks kb A.length rows aW stays aZ wU d v p:=by
 obtain⟨a,b,_⟩:=h.ne;have e1:Ext A (A++[Ao.lst (wU.map .str)]) []:=Ext.push;have e2:Ext (A++[Ao.lst (wU.map .str)]) _ _:=Ext.put (o:=.bo (dP id (BS j ks kb A.length d v p))) (e1.same h.o rfl);refine⟨e2.new (e1.same h.o rfl) J4,e2.same (e1.same h.rw rfl) (gQ (kZ j)),e2.same (e1.same h.rl rfl) (gQ bF.WB.2),e2.same (e1.same h.st rfl) (gQ a.symm),e2.same (e1.same h.br rfl) (gQ b.symm),e2.same pk (gQ (cJ (dB h.o))),J_ (l1:=[j,j+1,j+2,ks,kb]) (l2:=[]) h.nd fun k m=>?_⟩;simp only[dC,aE,a_,ba]at m;rcases m with rfl|rfl|rfl|rfl|rfl
 ·exact dB h.o
 ·exact dB h.rw
 ·exact dB h.rl
 ·exact dB h.st
 ·exact dB h.br
theorem bF.aal (h:bF A j ks kb ka rows aW stays aZ asked d v p):bF ((A++[Ao.lst (oJ.map uu)]).set j (.bo (dP id (BS j A.length kb ka d v p)))) j A.length kb ka rows aW oJ aZ asked d v p:=by
 obtain⟨_,b,c,_⟩:=h.ne;have e1:Ext A (A++[Ao.lst (oJ.map uu)]) []:=Ext.push;have e2:Ext (A++[Ao.lst (oJ.map uu)]) _ _:=Ext.put (o:=.bo (dP id (BS j A.length kb ka d v p))) (e1.same h.o rfl);refine⟨e2.new (e1.same h.o rfl) J4,e2.same (e1.same h.rw rfl) (gQ (kZ j)),e2.same (e1.same h.rl rfl) (gQ bF.WB.2),e2.same pk (gQ (cJ (dB h.o))),e2.same (e1.same h.br rfl) (gQ b.symm),e2.same (e1.same h.as rfl) (gQ c.symm),J_ (l1:=[j,j+1,j+2]) (l2:=[kb,ka]) h.nd fun k m=>?_⟩;simp only[dC,aE,a_,ba,or_assoc]at m;rcases m with rfl|rfl|rfl|rfl|rfl
 ·exact dB h.o
 ·exact dB h.rw
 ·exact dB h.rl
 ·exact dB h.br
 ·exact dB h.as
theorem M9{a b:Str}:Hv (.str a) (.str b)=.ok (.bl (!(a==b))):=rfl
theorem wV:∀{stays:List lJ},mi (stays.map uu)=true
 |[]=>rfl
 |s::stays=>by
  rw[aO,mi,wV,Bool.and_true];obtain⟨a,b,c,e⟩:=s;cases e<;>rfl
theorem J'{α:Type}{C:aQ->Rs Bool}{F:aQ->Rs Tr}{Y:aQ}{P:α->Bool}{g h:α->Tr}:∀{xs:List α} {c:Cell},(∀x∈xs,C (.sh (g x)::Y)=.ok (P x))->(∀x∈xs,P x=true->F (.sh (g x)::Y)=.ok (h x))->C0 (gN 0) C F (xs.map g) (c::Y)=.ok ((xs.filter P).map h)
 |[],_,_,_=>rfl
 |x::xs,c,hC,hF=>by
  have ih:=J' (Y:=Y) (C:=C) (F:=F) (P:=P) (g:=g) (h:=h) (xs:=xs) (c:=.sh (g x)) (fun y hy=>hC y (bI _ hy)) fun y hy=>hF y (bI _ hy);show(LU (C (.sh (g x)::Y))).bind (fun k=>if k then(LU (F (.sh (g x)::Y))).bind fun y=>(C0 (gN 0) C F (xs.map g) (.sh (g x)::Y)).bind fun ys=>.ok (y::ys)else C0 (gN 0) C F (xs.map g) (.sh (g x)::Y))=_;rw[hC x (bR ..),ih];show(if P x then _ else _)=_;cases e:P x with
  |true=>rw[jS e,hF x (bR ..) e];rfl
  |false=>rw[iS (by rw[e];exact d9)];rfl
theorem mr{α:Type}{C:aQ->Rs Bool}{r:Rs (List Tr)}{ix:List (Option Nat)}{Y BR:aQ}{c:Cell}(P:α->Bool)(g h:α->Tr){xs:List α}(hr:r=.ok (xs.map g))(hl:xs.length<=d7)(hρ:r9 ix Y=c::BR)(hC:∀x∈xs,C (.sh (g x)::BR)=.ok (P x))(hF:∀x∈xs,P x=true->F (.sh (g x)::BR)=.ok (h x)):qF ix (gN 0) C F r Y=.ok (.lst ((xs.filter P).map h)):=by
 unfold qF;rw[hr,hρ];show(if(xs.map g).length<=d7 then _ else _)=_;rw[ag (by rw[aC];exact hl),J' hC hF]
 rfl
theorem G0:kz (dP id (BS j ks kb ka d v p)) (.inr "asked") (.at n)=dP id (BS j ks kb n d v p):=oH (f:=id) (a:=.at n)
theorem G1:kz (dP id (BS j ks kb ka d v p)) (.inr "stays") (.at n)=dP id (BS j n kb ka d v p):=oH (f:=id) (a:=.at n)
theorem bF.aam {x:Ao}{Y:aQ}(h:bF A j ks kb ka rows aW stays aZ asked d v p):putD (A++[x]) (.at j) (.str "asked") (.at A.length) Y=.ok (.nx Y) ((A++[x]).set j (.bo (dP id (BS j ks kb A.length d v p)))):=by
 rw[oG (Ext.push.same h.o rfl) (by rw[mq];show 8<d7;decide),G0]
theorem bF.aan {x:Ao}{Y:aQ}(h:bF A j ks kb ka rows aW stays aZ asked d v p):putD (A++[x]) (.at j) (.str "stays") (.at A.length) Y=.ok (.nx Y) ((A++[x]).set j (.bo (dP id (BS j A.length kb ka d v p)))):=by
 rw[oG (Ext.push.same h.o rfl) (by rw[mq];show 8<d7;decide),G1]
end
open PyProof
section
variable {A:Ab}
theorem DI{ns:List Int}(h:0<ns.length):pT ns∈ns/\∀x∈ns,x<=pT ns:=by
 obtain⟨h1,h2⟩:=argBest_gt (fun i=>ns.getD i 0) (ns.length - 1);have hl:argBest (fun i j=>decide (ns.getD i 0>ns.getD j 0)) (ns.length - 1)<ns.length:=by omega
 constructor
 ·unfold pT;rw[dg,bb hl];exact jt _
 ·intro x hx;obtain⟨a,ha,e⟩:=List.getElem_of_mem hx;have:=h2 a (by omega);have e2:ns.getD a 0=x:=by rw[dg,bb ha,e];rfl
  rw[<-e2];exact this
theorem ints_map{α:Type}{f:α->Int}:∀{l:List α},pS (l.map fun x=>.int (f x))=some (l.map f)
 |[]=>rfl
 |x::l=>by show(pS (l.map fun x=>.int (f x))).map (fun r=>f x::r)=_;rw[ints_map];rfl
theorem max_map{α:Type}{f:α->Int}{l:List α}(h:l≠[]):MO [.lst (l.map fun x=>.int (f x))]=.ok (.int (pT (l.map f))):=by
 show(match pS (l.map fun x=>Tr.int (f x))with|some ns=>if 0<ns.length then Rs.ok (Tr.int (pT ns))else .bad|none=>.bad)=_;rw[ints_map];exact ag (by rw[aC];exact qS.mpr h)
theorem uW{z:Str}{ns:List Str}:SK (.str z) (.lst (ns.map .str))=.ok (.bl (ns.contains z)):=by
 show PY (IE (.str z) (ns.map .str))=_;have:((ns.map Tr.str).all ym)=true:=by rw[nG];exact cO.mpr fun _ _=>rfl
 unfold IE;rw[ag ⟨rfl,this⟩,List.any_map];show Rs.ok (Tr.bl _)=_;congr 2;rw[List.contains_eq_any_beq];congr 1;funext y;show(y==z)=(z==y);exact Bool.beq_comm
theorem BU{z:Str}{ns:List Str}:L_ (.str z) (.lst (ns.map .str))=.ok (.bl (!ns.contains z)):=by
 show PY (uz (IE (.str z) (ns.map .str)))=_;have:PY (IE (.str z) (ns.map .str))=.ok (.bl (ns.contains z)):=uW;unfold IE at*;have h:((ns.map Tr.str).all ym)=true:=by rw[nG];exact cO.mpr fun _ _=>rfl
 rw[ag ⟨rfl,h⟩]at*;have e:Rs.ok (Tr.bl ((ns.map Tr.str).any fun y=>eqT y (.str z)))=.ok (.bl (ns.contains z)):=this;injection e with e;injection e with e
 show Rs.ok (Tr.bl (!_))=_;rw[e]
theorem R7{α:Type}{f:α->Tr}{l:List (Str×α)}:ky (.bo (dP f l))=.ok (!l.isEmpty):=by cases l<;>rfl
end
def nS(l:List Str):List (Key×Tr):=dP .bl (l.map fun z=>(z,true))
theorem Fj{z:Str}:∀{l:List Str},(l.map fun z=>(z,true)).lookup z=if l.contains z=true then some true else none
 |[]=>rfl
 |y::l=>by
  rw[aO,bS,List.contains_cons];cases e:(z==y)with
  |true=>rfl
  |false=>rw[Fj,lj]
theorem zT{z:Str}{l:List Str}:dt (nS l) (.inr z)=if l.contains z=true then some (.bl true)else none:=by
 unfold nS;rw[du,Fj];cases l.contains z<;>rfl
theorem M_{z:Str}{l:List Str}:gv (nS l) (.inr z)=nS (l.filter fun y=>!(y==z)):=by
 unfold nS;rw[zR];congr 1;unfold kc;rw[nA];congr 1;apply qY;intro y _;show decide (y≠z)=!(y==z);by_cases h:y=z
 ·subst h;simp
 ·simp[h]
theorem uX{l:List Str}:fk (nS l):=sD fun _ _ _=>J0
structure dJ(A:Ab)(aJ:List Str)(c6:List (Str×Nat)):Prop where
 o:A[4]?=some (.bo (dP id [("people",.at 5),("rooms",.at 6)]))
 pe:A[5]?=some (.lst (aJ.map .str))
 rs:A[6]?=some (.bo (dP .at c6))
section
variable {A A':Ab}{aJ:List Str}{c6:List (Str×Nat)}{n:Nat}
theorem dJ.R8 (h:dJ A aJ c6):eJ (aj (n+2) A (.at 4)) (.str "people")=.ok (.lst (aJ.map .str)):=by
 rw[gx h.o,dA];show Rs.ok (aj (n+1) A (.at 5))=_;rw[kH h.pe,pv]
theorem dJ.M' (h:dJ A aJ c6):eJ (aj (n+2) A (.at 4)) (.str "rooms")=.ok (.bo (dP (fun j=>aj n A (.at j)) c6)):=by
 rw[gx h.o,dA];show Rs.ok (aj (n+1) A (.at 6))=_;rw[fw h.rs];unfold dP;rw[bT];rfl
theorem dJ.aao (h:dJ A aJ c6):eJ (aj 1 A (.at 4)) (.str "people")=.ok (.at 5):=by rw[wR h.o,dA];rfl
theorem dJ.WC (h:dJ A aJ c6):eJ (aj 1 A (.at 4)) (.str "rooms")=.ok (.at 6):=by rw[wR h.o,dA];rfl
theorem dJ.GX (h:dJ A aJ c6){pins:List (Nat×Ao)}(e:Ext A A' pins)(h0:pins.lookup 4=none)(h1:pins.lookup 5=none)(h2:pins.lookup 6=none):dJ A' aJ c6:=⟨e.same h.o h0,e.same h.pe h1,e.same h.rs h2⟩
theorem Ka{α:Type}{f:α->Tr}{l:List (Str×α)}{z:Str}:IF (.ok (.bo (dP f l))) (.ok (.str z))=.ok (((l.lookup z).map f).getD .bK):=by
 show(mM (i7 (.str z))).bind (fun k=>Rs.ok ((dt (dP f l) k).getD .bK))=_;show Rs.ok ((dt (dP f l) (.inr z)).getD .bK)=_;rw[du]
theorem Na{k:List (Key×Tr)}:Ga (.bo k) .bK=.ok (.bl false):=rfl
end
def arr:Nat->List Str->List (List Str)
 |0,_=>[[]]
 |n+1,l=>[]::l.flatMap fun z=>(arr n (l.filter fun y=>!(y==z))).map (z::·)
theorem Fl:∀{n:Nat} {l ss:List Str},ss.length<=n->ss.Nodup->(∀z∈ss,z∈l)->ss∈arr n l
 |0,l,[],_,_,_=>cF.mpr rfl
 |n+1,l,[],_,_,_=>bR ..
 |n+1,l,z::ss,hl,hn,hs=>by
  rw[fH]at hn;refine bI _ (List.mem_flatMap.mpr ⟨z,hs z (bR ..),cc.mpr ⟨ss,Fl (u9 hl) hn.2 fun y hy=>gj.mpr ⟨hs y (bI _ hy),?_⟩,rfl⟩⟩);have:y≠z:=fun e=>hn.1 (e▸hy);simpa using this
def Nb(ss:List Str):Bool:=match fU ss with
 |some p=>(p.map fun i=>ss.getD i ("":Str)).isPerm ss&&sortedS (p.map fun i=>ss.getD i ("":Str))
 |none=>false
abbrev six:List Str:=["ann","bo","cy","dee","ed","zed"]
def ch5(z y:Str):Bool:=y==z||(((arr 4 ((six.filter fun x=>!(x==z)).filter fun x=>!(x==y))).map (y::·)).map (z::·)).all Nb
set_option maxHeartbeats 4000000 in
theorem aap:∀z∈six,∀y∈six,ch5 z y=true:=by
 intro z hz y hy;simp only[aE,a_,ba]at hz hy;rcases hz with rfl|rfl|rfl|rfl|rfl|rfl<;>rcases hy with rfl|rfl|rfl|rfl|rfl|rfl<;>decide+kernel
theorem aaq:(arr 6 six).all Nb=true:=by
 rw[arr,gn,List.all_flatMap,bf,cO];refine⟨rfl,fun z hz=>?_⟩;rw[arr,aO,gn,List.map_flatMap,List.all_flatMap,bf,cO];refine⟨(by decide+kernel:∀z∈six,Nb [z]=true) z hz,fun y hy=>?_⟩;have n:=gj.mp hy;have h:=aap z hz y n.1;rw[ch5,show(y==z)=false by simpa using n.2,lj]at h;exact h
theorem tV:∀{ss l:List Str},ss.Nodup->(∀z∈ss,z∈l)->ss.length<=l.length
 |[],_,_,_=>dh _
 |z::ss,l,hn,hs=>by
  rw[fH]at hn;have hz:=hs z (bR ..);have ih:=tV (l:=l.erase z) hn.2 fun y hy=>(List.mem_erase_of_ne (fun e:y=z=>hn.1 (by rw[<-e];exact hy))).mpr (hs y (bI _ hy));rw[List.length_erase_of_mem hz]at ih;have:=List.length_pos_of_mem hz;rw[cG];omega
theorem DJ{ss:List Str}(hn:ss.Nodup)(hs:∀z∈ss,z∈(["ann","bo","cy","dee","ed","zed"]:List Str)):∃p,fU ss=some p/\p.map (fun i=>ss.getD i ("":Str))=cB ss:=by
 have h:=cO.mp aaq ss (Fl (tV hn hs) hn hs);unfold Nb at h;cases e:fU ss with
 |none=>rw[e]at h;cases h
 |some p=>
  rw[e]at h;rw[bf]at h;exact⟨p,rfl,sq (List.isPerm_iff.mp h.1) h.2⟩
theorem BV{α:Type}{f:α->Tr}:∀{l:List (Str×α)},pV (dP f l)=some (l.map (·.1))
 |[]=>rfl
 |p::l=>by show(pV (dP f l)).map (fun s=>p.1::s)=_;rw[BV];rfl
theorem DK{ai:List (Str×Str)}(hn:(ai.map (·.1)).Nodup)(hs:∀z∈ai.map (·.1),z∈(["ann","bo","cy","dee","ed","zed"]:List Str))(hl:∀p∈ai,ai.lookup p.1=some p.2):
  uS (.bo (dP .str ai))=.ok (.lst ((cB (ai.map (·.1))).map fun z=>.tup [.str z,.str ((ai.lookup z).getD "")])):=by
 obtain⟨p,e1,e2⟩:=DJ hn hs;have b7:=tV hn hs;have XZ:((ai.map (·.1)).all fun z=>decide (z.length<=bV))=true:=cO.mpr fun z hz=>g_ (bJ ((by decide+kernel:∀z∈(["ann","bo","cy","dee","ed","zed"]:List Str),z.length<=10) z (hs z hz)) (by decide));show mM ((pV (dP .str ai)).bind fun ss=>if ss.length<64/\(ss.all fun z=>decide (z.length<=bV))=true then(fU ss).map fun p=>Tr.lst (p.map fun i=>.tup [.str (ss.getD i ("":Str)),((dP .str ai).map (·.2)).getD i .bK])else none)=_;rw[BV];show mM (if(ai.map (·.1)).length<64/\_ then _ else none)=_;rw[ag ⟨qT b7 (by decide),XZ⟩,e1];show Rs.ok (Tr.lst _)=_;congr 2;rw[<-e2,bT];apply fE;intro i hi;have fR:=yO e1 i hi;rw[aC]at fR;have g1:(ai.map (·.1)).getD i ("":Str)=ai[i].1:=by rw[dg,bg,bb fR];rfl
 have g2:((dP .str ai).map (·.2)).getD i .bK=.str ai[i].2:=by
  unfold dP;rw[bT,dg,bg,bb fR];rfl
 show Tr.tup [.str ((ai.map (·.1)).getD i ("":Str)),((dP .str ai).map (·.2)).getD i .bK]=Tr.tup [.str ((ai.map (·.1)).getD i ("":Str)),.str ((ai.lookup ((ai.map (·.1)).getD i ("":Str))).getD "")];rw[g1,g2,hl ai[i] (jt _)]
 rfl
section
variable {A:Ab}{n:Nat}{rows:List Tr}{rk en ch bn iv:List (Key×Tr)}
theorem aM.aar (h:aM A i rows rk en ch bn iv)(f:mS rows):iO ["Room"] "log" (aj (n+2) A (.at i))=.ok (.lst rows):=by
 rw[fu h.o];show Rs.ok (aj (n+1) A (.at (i+1)))=_;rw[kH h.lg,uT f]
theorem aM.aas (h:aM A i rows rk en ch bn iv)(f:fk rk):iO ["Room"] "ranks" (aj (n+2) A (.at i))=.ok (.bo rk):=by
 rw[fu h.o];show Rs.ok (aj (n+1) A (.at (i+2)))=_;rw[fw h.rk,gw f]
theorem aM.aat (h:aM A i rows rk en ch bn iv)(f:fk ch):iO ["Room"] "chosen" (aj (n+2) A (.at i))=.ok (.bo ch):=by
 rw[fu h.o];show Rs.ok (aj (n+1) A (.at (i+4)))=_;rw[fw h.ch,gw f]
theorem aM.aau (h:aM A i rows rk en ch bn iv)(f:fk bn):iO ["Room"] "banned" (aj (n+2) A (.at i))=.ok (.bo bn):=by
 rw[fu h.o];show Rs.ok (aj (n+1) A (.at (i+5)))=_;rw[fw h.bn,gw f]
theorem aM.aav (h:aM A i rows rk en ch bn iv)(f:fk iv):iO ["Room"] "invited" (aj (n+2) A (.at i))=.ok (.bo iv):=by
 rw[fu h.o];show Rs.ok (aj (n+1) A (.at (i+6)))=_;rw[fw h.iv,gw f]
theorem aM.bP (h:aM A i rows rk en ch bn iv){m:Str}(hm:Cu ((roomF i).map fun p=>(p.1,aj n A p.2)) m=true)(F:List Tr->Rs Tr)(l:Rs (List Tr)):gL "Room" m F (.ok (aj (n+1) A (.at i))) l=l.bind fun ts=>F (aj (n+1) A (.at i)::ts):=by
 rw[fu h.o];exact ag ⟨rfl,hm⟩
variable {aA:List (Str×Bool)}{a9:List (Str×Nat)}
theorem bG.bP (h:bG A aA a9){m:Str}(hm:Cu (([("persons",.at 1),("places",.at 2),("hands",.at 3)]:List (Str×Tr)).map fun p=>(p.1,aj n A p.2)) m=true)(F:List Tr->Rs Tr)(l:Rs (List Tr)):gL "Hall" m F (.ok (aj (n+1) A (.at 0))) l=l.bind fun ts=>F (aj (n+1) A (.at 0)::ts):=by
 rw[fu h.o];exact ag ⟨rfl,hm⟩
theorem BW{α:Type}{f:α->Tr}:∀{l:List (Str×α)},(∀p∈l,p.1.length<=1000)->uk (dP f l)=some (l.map (·.1))
 |[],_=>rfl
 |p::l,h=>by
  show(if p.1.length<=bV then(uk (dP f l)).map (fun r=>p.1::r)else none)=_;rw[ag (bJ (h p (bR ..)) (by decide)),BW fun q hq=>h q (bI _ hq)]
  rfl
theorem yU:∀{ss:List Str},oo (ss.map .str)=some ss
 |[]=>rfl
 |z::ss=>by show(oo (ss.map .str)).map (fun r=>z::r)=_;rw[yU];rfl
theorem pw{α:Type}{f:α->Tr}{l:List (Str×α)}(h:∀p∈l,p.1.length<=1000)(hl:l.length<64):fN [.bo (dP f l)]=.ok (.lst ((cB (l.map (·.1))).map .str)):=by
 show yD (uk (dP f l))=_;rw[BW h];exact ag (by rw[aC];exact hl)
theorem yV{ss:List Str}(hl:ss.length<64):fN [.lst (ss.map .str)]=.ok (.lst ((cB ss).map .str)):=by
 show yD (oo (ss.map .str))=_;rw[yU];exact ag hl
theorem Nc:(∀T G Y,xH T G [] Y=.ok (.nx Y))/\(∀T G t ts Y,xH T G (t::ts) Y=(T t Y).bind fun qE=>(G qE).bind fun o=>match o with
  |.nx iH=>xH T G ts iH
  |.ct iH=>xH T G ts iH
  |.bk iH=>.ok (.nx iH)
  |.ret t=>.ok (.ret t))/\(∀T G ts Y,Er T G (.ok ts) Y=xH T G ts Y)/\(∀ts,jB [.lst ts]=.ok (.tup ts)):=by
 refine⟨?_,?_,?_,?_⟩<;>intros<;>rfl
theorem Kb:∀{ts:List Tr},(∀t∈ts,t=.bl true)->Mi [.lst ts]=.ok (.bl true):=fun{ts} h=>by
 have:Gb ts=.ok (ts.map fun _=>true):=by
  induction ts with
  |nil=>rfl
  |cons t ts ih=>
   rw[h t (bR ..)];show(Gb ts).bind (fun zs=>Rs.ok (true::zs))=_;rw[ih fun u hu=>h u (bI _ hu)]
   rfl
 show(Gb ts).bind (fun bs=>Rs.ok (Tr.bl (bs.all id)))=_;rw[this];show Rs.ok (Tr.bl ((ts.map fun _=>true).all id))=_;congr 2;rw[nG];exact cO.mpr fun _ _=>rfl
theorem BX:∀{ts:List Tr},Ou ts ts=ts.map fun t=>.tup [t,t]
 |[]=>rfl
 |t::ts=>by show Tr.tup [t,t]::Ou ts ts=_;rw[BX];rfl
end
structure S2 where
 bl:List Str
 own:List Str
 VO:List Str
 fl:List (Str×List Str)
 kd:List Df
 er:List Str
 xs:List (Str⊕String)
 cs:List Str
 rs:List Str
namespace S2
def val(K:Frag):Str⊕String->Value
 |.inl c=>.ref (clsAt K c)
 |.inr c=>.type c
def tab(er:List Str):Str⊕String->List (Str×Bool)
 |.inl c=>er.map fun x=>(x,x==c)
 |.inr _=>er.map fun x=>(x,true)
def OE(K:Frag)(o:S2):Bool:=o.bl.all (fun x=>decide (nsIn K mainGlobals x=some none))&&(o.own.all (fun c=>decide (nsIn K mainGlobals c=some (some (.ref (clsAt K c)))))&&(o.VO.all (fun c=>makesIn K (clsAt K c)&&(keepIn K (.ref (clsAt K c))&&decide (nsIn K mainGlobals c=some (some (.ref (clsAt K c))))))&&
 (o.fl.all (fun p=>M0 K (clsAt K p.1)&&Z2 K (clsAt K p.1) p.2)&&(o.kd.all (fun d=>decide (specialIn K (.ref (d.adr K)) "__get__"=some (some (.builtin "function.__get__")))&&decide (takesIn K (.ref (d.adr K))=some false))&&
 (Wr K o.er&&(o.xs.all (fun c=>Wq K (val K c) (tab o.er c))&&(o.cs.all (fun c=>Ws K c o.er)&&o.rs.all (fun c=>excIn K (clsAt K c) bmV "ValueError.__new__"))))))))
structure Ok(o:S2)(K:Frag)(mg:Str->Option Value):Prop where
 bl:∀{x},o.bl.contains x=true->mg x=none
 Fm:∀{c},o.own.contains c=true->mg c=some (.ref (clsAt K c))
 mk_:∀{c},o.VO.contains c=true->GU K mg c
 fl:∀{c f fs},o.fl.lookup c=some fs->fs.contains f=true->gM K [c] f
 bn:∀(i:Nat) {d:Df},o.kd[i]?=some d->yK K (d.adr K)
 xc:∀(i:Nat) {c},o.xs[i]?=some c->gO K (val K c) (tab o.er c)
 ca:∀{c},o.cs.contains c=true->o.own.contains c=true->pf K mg c o.er
 er:∀{c},o.rs.contains c=true->o.own.contains c=true->sx K mg c
theorem ok{o:S2}{K:Frag}{h:Heap}(X:K.In h)(G:h.Ns mainGlobals mg)(k:o.OE K=true):o.Ok K mg:=by
 unfold OE at k;simp only[bf,cO,jq]at k;obtain⟨k1,k2,k3,k4,k5,k6,k7,k8,k9⟩:=k;have Fm:∀{c},o.own.contains c=true->mg c=some (.ref (clsAt K c)):=fun m=>mg_of X G (k2 _ (eV.mp m));refine⟨fun m=>mg_none_of X G (k1 _ (eV.mp m)),Fm,fun m=>?_,fun{c f fs} l m=>?_,fun i d e=>?_,fun i c e=>?_,fun m n=>JT (Fm n) (k8 _ (eV.mp m)),fun m n=>⟨Fm n,k9 _ (eV.mp m)⟩⟩
 ·have q:=k3 _ (eV.mp m);exact⟨q.1,q.2.1,mg_of X G q.2.2⟩
 ·have q:=k4 _ (tR l);refine⟨fun x hx=>?_⟩;cases cF.mp hx;exact⟨JU q.1,(dk (cO.mp q.2 f (eV.mp m)):findIn K (.ref (clsAt K c)) f=some none)⟩
 ·have q:=k5 _ (cV e);exact⟨q.1,q.2⟩
 ·refine RQ (k7 _ (cV e)) k6 ?_
  cases c<;>simp[tab,Function.comp_def]
end S2
end L2
namespace M04
open PySem.W (Frag)
open PySem L2
variable {ai bQ:List (Str×Str)}{rows:List Tr}{aA:List (Str×Bool)}{a9 c6:List (Str×Nat)}{av:Str}{bn iv:List (Key×Tr)}
def top(i:Nat):Stmt:=PySem.Challenge.pw_talkhall_k04_people_and_rooms.main.body.getD i (.Pass ⟨0,0,0,0⟩)
def Nd:Stmt->List Stmt
 |.ClassDef _ _ _ b _ _ _ _ _ _ _=>b
 |_=>[]
def gy(i j:Nat):Stmt:=(Nd (top i)).getD j (.Pass ⟨0,0,0,0⟩)
def zU:Df:=⟨none,"level","level",top 23,["role"]⟩
def gz:Df:=⟨some "Room","claim","Room.claim",gy 24 4,["self","who"]⟩
def gW:Df:=⟨some "Room","write_row","Room.write_row",gy 24 1,["self","who","word","parts"]⟩
def kJ:Df:=⟨some "Room","let_in","Room.let_in",gy 24 2,["self","who","word","role"]⟩
def gX:Df:=⟨some "Room","give_role","Room.give_role",gy 24 3,["self","who","whom","role"]⟩
def jJ:Df:=⟨some "Room","need_in","Room.need_in",gy 24 6,["self","who"]⟩
def fV:Df:=⟨some "Hall","need_people","Hall.need_people",gy 26 1,["self","names"]⟩
def gA:Df:=⟨some "Hall","place","Hall.place",gy 26 2,["self","room"]⟩
def gY:Df:=⟨some "Hall","place_for","Hall.place_for",gy 26 3,["self","names","room"]⟩
def oK:Df:=⟨some "Hall","come","Hall.come",gy 26 5,["self","who"]⟩
def fO:Df:=⟨some "Room","__init__","Room.__init__",gy 24 0,["self","who"]⟩
def iM:Df:=⟨some "Hall","__init__","Hall.__init__",gy 26 0,["self"]⟩
def mv:Df:=⟨some "Hall","found","Hall.found",gy 26 8,["self","who","room"]⟩
def dE:Df:=⟨some "Room","see_to_owner","Room.see_to_owner",gy 24 5,["self"]⟩
def mw:Df:=⟨some "Room","enter","Room.enter",gy 24 14,["self","who"]⟩
def my:Df:=⟨some "Room","leave","Room.leave",gy 24 15,["self","who"]⟩
def mz:Df:=⟨some "Hall","enter","Hall.enter",gy 26 9,["self","who","room"]⟩
def mB:Df:=⟨some "Hall","leave","Hall.leave",gy 26 10,["self","who","room"]⟩
def kK:Df:=⟨some "Hall","people","Hall.people",gy 26 6,["self"]⟩
def mC:Df:=⟨some "Hall","rooms","Hall.rooms",gy 26 7,["self"]⟩
def mD:Df:=⟨some "Room","roles","Room.roles",gy 24 26,["self"]⟩
def oM:Df:=⟨some "Room","rows","Room.rows",gy 24 30,["self"]⟩
def kL:Df:=⟨some "Room","barred","Room.barred",gy 24 28,["self"]⟩
def mE:Df:=⟨some "Room","asked","Room.asked",gy 24 29,["self"]⟩
def jK:Df:=⟨some "Room","setting","Room.setting",gy 24 27,["self","what"]⟩
def mF:Df:=⟨some "Hall","roles","Hall.roles",gy 26 21,["self","room"]⟩
def oN:Df:=⟨some "Hall","rows","Hall.rows",gy 26 25,["self","room"]⟩
def kM:Df:=⟨some "Hall","barred","Hall.barred",gy 26 23,["self","room"]⟩
def mG:Df:=⟨some "Hall","asked","Hall.asked",gy 26 24,["self","room"]⟩
def jL:Df:=⟨some "Hall","setting","Hall.setting",gy 26 22,["self","room","what"]⟩
def wW:Df:=⟨none,"_law_rank","_law_rank",top 36,["_law_room","_law_who"]⟩
def wX:Df:=⟨none,"_law_word","_law_word",top 32,["_law_kept"]⟩
def tW:Df:=⟨none,"_law_begin","_law_begin",top 35,["_law_people"]⟩
def zV:Df:=⟨none,"_law_row","_law_row",top 42,["_law_room","_law_who","_law_parts"]⟩
def pz:Df:=⟨none,"_law_enter","_law_enter",top 43,["_law_room","_law_who","_law_word_here"]⟩
def sF:Df:=⟨none,"_law_quit","_law_quit",top 44,["_law_room","_law_who","_law_number"]⟩
def zW:Df:=⟨none,"_law_mix","_law_mix",top 29,["_law_cell_here","_law_prime","_law_many"]⟩
def wY:Df:=⟨none,"_law_cell","_law_cell",top 28,["_law_script","_law_k"]⟩
def jm:Df:=⟨none,"_law_owned","_law_owned",top 45,["_law_room"]⟩
def wZ:Df:=⟨none,"_law_done","_law_done",top 46,["_law_model","_law_deed_here"]⟩
def iB:Df:=⟨none,"_law_refused","_law_refused",top 39,["_law_model","_law_deed_here"]⟩
def sG:Df:=⟨none,"_law_deed","_law_deed",top 49,["_law_cell_here","_law_model","_law_words_here"]⟩
def w6:Df:=⟨none,"_law_call","_law_call",top 33,["_law_hall_here","_law_deed_here"]⟩
def w8:Df:=⟨none,"_law_told","_law_told",top 34,["_law_hall_here","_law_deed_here"]⟩
def sH:Df:=⟨none,"_law_same","_law_same",top 30,["_law_found","_law_due"]⟩
def w_:Df:=⟨none,"_law_both","_law_both",top 48,["_law_hall_here","_law_model","_law_deed_here"]⟩
def xa:Df:=⟨none,"_law_hall","_law_hall",top 50,["_law_hall_here","_law_model"]⟩
def lK:Df:=⟨none,"_law_is_as","_law_is_as",top 51,["_law_hall_here","_law_model"]⟩
def BY:Df:=⟨none,"law","law",top 52,["_law_script"]⟩
def DS:List Df:=[zU,gz,gW,kJ,gX,jJ,fV,gA,gY,oK,fO,iM,mv,dE,mw,my,mz,mB,kK,mC,mD,oM,kL,mE,jK,mF,oN,kM,mG,jL,wW,wX,tW,zV,pz,sF,zW,wY,jm,wZ,iB,sG,w6,w8,sH,w_,xa,lK,BY]
structure OF(K:Frag)(w:World)(mg:Str->Option Value):Prop where
 d:∀(i:Nat) {e:Df},DS[i]?=some e->e.Ok K mg
 ValueError:mg "ValueError"=none
 all:mg "all"=none
 bool:mg "bool"=none
 dict:mg "dict"=none
 int:mg "int"=none
 isinstance:mg "isinstance"=none
 len:mg "len"=none
 list:mg "list"=none
 max:mg "max"=none
 min:mg "min"=none
 range:mg "range"=none
 set:mg "set"=none
 sorted:mg "sorted"=none
 str:mg "str"=none
 tuple:mg "tuple"=none
 zip:mg "zip"=none
 zX:yK K (gz.adr K)
 R9:GU K mg "Hall"
 R_:GU K mg "Room"
 Nf:Jk K mg "ROLES" [.str "guest",.str "speaker",.str "keeper",.str "owner"]
 xf:gM K ["Room"] "banned"
 xg:gM K ["Room"] "chosen"
 tX:gM K ["Room"] "entries"
 Ng:gM K ["Hall"] "hands"
 pA:gM K ["Room"] "invited"
 Fo:gM K ["Room"] "log"
 lL:gM K ["Hall"] "persons"
 iC:gM K ["Hall"] "places"
 fP:gM K ["Room"] "ranks"
 zY:gM K ["Room"] "read_marks"
 xT:gM K ["Room"] "said_by_key"
 Kc:zp K w mg "SETTINGS" [("door",.tup [.str "open",.str "asked"]),("voice",.tup [.str "all",.str "some"]),("past",.tup [.str "shown",.str "hidden"])]
 DL:zH K w mg "SETTINGS" ["door","voice","past"]
 Kd:gO K (.ref (clsAt K "Barred")) [("Known",false),("NoPerson",false),("NoRoom",false),("NotIn",false),("NotAsked",false),("Barred",true),("NoRight",false),("NoRow",false),("NoHand",false),("NoLine",false)]
 Nh:gO K (.ref (clsAt K "Known")) [("Known",true),("NoPerson",false),("NoRoom",false),("NotIn",false),("NotAsked",false),("Barred",false),("NoRight",false),("NoRow",false),("NoHand",false),("NoLine",false)]
 Ke:gO K (.ref (clsAt K "NoHand")) [("Known",false),("NoPerson",false),("NoRoom",false),("NotIn",false),("NotAsked",false),("Barred",false),("NoRight",false),("NoRow",false),("NoHand",true),("NoLine",false)]
 Kf:gO K (.ref (clsAt K "NoLine")) [("Known",false),("NoPerson",false),("NoRoom",false),("NotIn",false),("NotAsked",false),("Barred",false),("NoRight",false),("NoRow",false),("NoHand",false),("NoLine",true)]
 DM:gO K (.ref (clsAt K "NoPerson")) [("Known",false),("NoPerson",true),("NoRoom",false),("NotIn",false),("NotAsked",false),("Barred",false),("NoRight",false),("NoRow",false),("NoHand",false),("NoLine",false)]
 G3:gO K (.ref (clsAt K "NoRight")) [("Known",false),("NoPerson",false),("NoRoom",false),("NotIn",false),("NotAsked",false),("Barred",false),("NoRight",true),("NoRow",false),("NoHand",false),("NoLine",false)]
 Kg:gO K (.ref (clsAt K "NoRoom")) [("Known",false),("NoPerson",false),("NoRoom",true),("NotIn",false),("NotAsked",false),("Barred",false),("NoRight",false),("NoRow",false),("NoHand",false),("NoLine",false)]
 Ni:gO K (.ref (clsAt K "NoRow")) [("Known",false),("NoPerson",false),("NoRoom",false),("NotIn",false),("NotAsked",false),("Barred",false),("NoRight",false),("NoRow",true),("NoHand",false),("NoLine",false)]
 DN:gO K (.ref (clsAt K "NotAsked")) [("Known",false),("NoPerson",false),("NoRoom",false),("NotIn",false),("NotAsked",true),("Barred",false),("NoRight",false),("NoRow",false),("NoHand",false),("NoLine",false)]
 Nj:gO K (.ref (clsAt K "NotIn")) [("Known",false),("NoPerson",false),("NoRoom",false),("NotIn",true),("NotAsked",false),("Barred",false),("NoRight",false),("NoRow",false),("NoHand",false),("NoLine",false)]
 zZ:gO K (.type "ValueError") [("Known",true),("NoPerson",true),("NoRoom",true),("NotIn",true),("NotAsked",true),("Barred",true),("NoRight",true),("NoRow",true),("NoHand",true),("NoLine",true)]
 G4:mg "Barred"=some (.ref (clsAt K "Barred"))
 Kh:mg "Known"=some (.ref (clsAt K "Known"))
 G5:mg "NoHand"=some (.ref (clsAt K "NoHand"))
 G6:mg "NoLine"=some (.ref (clsAt K "NoLine"))
 BZ:mg "NoPerson"=some (.ref (clsAt K "NoPerson"))
 DO:mg "NoRight"=some (.ref (clsAt K "NoRight"))
 G7:mg "NoRoom"=some (.ref (clsAt K "NoRoom"))
 Ki:mg "NoRow"=some (.ref (clsAt K "NoRow"))
 B5:mg "NotAsked"=some (.ref (clsAt K "NotAsked"))
 Kj:mg "NotIn"=some (.ref (clsAt K "NotIn"))
 B6:pf K mg "TalkError" ["Known","NoPerson","NoRoom","NotIn","NotAsked","Barred","NoRight","NoRow","NoHand","NoLine"]
 Kk:sx K mg "Barred"
 z5:sx K mg "Known"
 DP:sx K mg "NoPerson"
 Kl:sx K mg "NoRoom"
 DQ:sx K mg "NotAsked"
 Nk:sx K mg "NotIn"
abbrev CS(n:Nat)(d:Df)(a b:Nat):={F:aQ->Ab->Rz Out//∀{P:Program} {w:World} {K:Frag} {mg:Str->Option Value} {base:Heap},OF K w mg->wQ P w K mg base (tw P w) n d (um K (fq a b F))}
abbrev CP(n:Nat)(d:Df)(a b:Nat):={F:aQ->Rs Out//∀{P:Program} {w:World} {K:Frag} {mg:Str->Option Value} {base:Heap},OF K w mg->wQ P w K mg base kN n d (spT K (qG a b F))}
abbrev CZ(n:Nat)(d:Df)(a b:Nat):={F:aQ->Ab->Rz Out//∀{P:Program} {w:World} {K:Frag} {mg:Str->Option Value} {base:Heap},OF K w mg->wQ P w K mg base kN n d (spT K (Bh a b F))}
abbrev CR(n:Nat)(d:Df)(a b:Nat)(r:List Tr->Rs Tr):={F:aQ->Rs Out//∀{P:Program} {w:World} {K:Frag} {mg:Str->Option Value} {base:Heap} {k:Nat},OF K w mg->n<=k->wQ P w K mg base kN k d (spT K r)->wQ P w K mg base kN (k+1) d (spT K (qG a b F))}
abbrev KS(n:Nat)(d:Df)(m:List Tr->Ab->Rz Tr):Prop:=∀{P:Program} {w:World} {K:Frag} {mg:Str->Option Value} {base:Heap},OF K w mg->wQ P w K mg base (tw P w) n d (um K m)
abbrev KP(n:Nat)(d:Df)(m:List Tr->Rs Tr):Prop:=∀{P:Program} {w:World} {K:Frag} {mg:Str->Option Value} {base:Heap},OF K w mg->wQ P w K mg base kN n d (spT K m)
def Fp:CP 1 zU 1 1:=⟨_,fun T=>jG ["role"] (T.d 0 rfl) fun _ _ _ _ _ _ _ hr=>(bU (cg (Wi (aB hr) T.Nf (aa 0))))⟩
def Fq:=qG 1 1 Fp.1
theorem Nl:KP 1 zU Fq:=Fp.2
def i9:CP 2 gz 2 2:=⟨_,fun T=>jG ["self","who"] (T.d 1 rfl) fun _ _ _ _ _ _ _ hr=>(bU (cg (bM (ae (OC (eQ (Nl T) hr (ae (bO (aB hr) (cT T.fP (aa 0)) (aa 1)) aw))) (ae (bO (aB hr) (cT T.tX (aa 0)) (aa 1)) aw)))))⟩
def gB:=qG 2 2 i9.1
theorem z6:KP 2 gz gB:=i9.2
def ff:CS 1 gW 4 5:=⟨_,fun T=>iz ["self","who","word","parts","number"] (T.d 2 rfl) fun nd _ _ _ _ _ _ hr=>(aI (gP (i:=4) (aK (dN gJ (bY gV T.len (ae (cT T.Fo (aa 0)) aw)) bu)) nd) (aI (cE (E8 m8 qJ ly zq (ml T.Fo (aq (aa 0))) (ax (aK (dN gJ (bM (ae (aa 4) (ae (aa 1) (ae (aa 2) aw)))) (aa 3))) bC))) (bD (dI (aq (aa 4))))))⟩
def lM:=fq 4 5 ff.1
theorem gZ:KS 1 gW lM:=ff.2
def hX:CS 2 kJ 4 4:=⟨_,fun T=>iz ["self","who","word","role"] (T.d 3 rfl) fun _ _ _ _ _ _ _ hr=>(aI (jF (aB hr) (ml T.tX (aq (aa 0))) (aq (aa 1)) (dW (gZ T) hr (aq (aa 0)) (ax (aq (aa 1)) (ax (aq (aa 2)) (ax (aK (bM aw)) bC))))) (aI (jF (aB hr) (ml T.fP (aq (aa 0))) (aq (aa 1)) (aq (aa 3))) (bD (cE (RL (ml T.pA (aq (aa 0))) (aq (aa 1)) (aK fA))))))⟩
def pX:=fq 4 4 hX.1
theorem pY:KS 2 kJ pX:=hX.2
def fg:CS 2 gX 4 4:=⟨_,fun T=>iz ["self","who","whom","role"] (T.d 4 rfl) fun _ _ _ _ _ _ _ hr=>(aI (cE (dW (gZ T) hr (aq (aa 0)) (ax (aq (aa 1)) (ax (aK ah) (ax (aK (bM (ae (aa 2) (ae (aa 3) aw)))) bC))))) (bD (jF (aB hr) (ml T.fP (aq (aa 0))) (aq (aa 2)) (aq (aa 3)))))⟩
def lN:=fq 4 4 fg.1
theorem tY:KS 2 gX lN:=fg.2
def gC:CS 1 jJ 2 2:=⟨_,fun T=>iz ["self","who"] (T.d 5 rfl) fun _ _ _ _ _ _ _ hr=>(bD (gf (cf (bp (uh (aB hr)) (aa 1) (cT T.fP (aa 0)))) (bD (j_ T.Nk (ax (aK (oF (eP (oC (aa 1)) (eP ah ur)))) bC))) dz))⟩
def oO:=fq 2 2 gC.1
theorem xh:KS 1 jJ oO:=gC.2
def dX:CS 1 fV 2 3:=⟨_,fun T=>iz ["self","names","name"] (T.d 6 rfl) fun nd _ _ _ _ _ _ hr=>(bD (E7 (oB (aa 1)) (eO 2 nd) (fo 2) (bD (gf (cf (bp (uh (aB hr)) (aa 2) (cT T.lL (aa 0)))) (bD (j_ T.DP (ax (aK (oF (eP ah (eP (oC (aa 2)) ur)))) bC))) dz))))⟩
def jM:=fq 2 3 dX.1
theorem jN:KS 1 fV jM:=dX.2
def i_:CS 1 gA 2 2:=⟨_,fun T=>iz ["self","room"] (T.d 7 rfl) fun _ _ _ _ _ _ _ hr=>(aI (gf (cf (bp (uh (aB hr)) (aa 1) (cT T.iC (aa 0)))) (bD (j_ T.Kl (ax (aK (oF (eP ah (eP (oC (aa 1)) ur)))) bC))) dz) (bD (dI (wO (aB hr) (ml T.iC (aq (aa 0))) (aq (aa 1))))))⟩
def sI:=fq 2 2 i_.1
theorem z7:KS 1 gA sI:=i_.2
def fh:CS 2 gY 3 3:=⟨_,fun T=>iz ["self","names","room"] (T.d 8 rfl) fun _ _ _ _ _ _ _ hr=>(aI (cE (dW (jN T) hr (aq (aa 0)) (ax (aq (aa 1)) bC))) (bD (dI (dW (z7 T) hr (aq (aa 0)) (ax (aq (aa 2)) bC)))))⟩
def lO:=fq 3 3 fh.1
theorem lP:KS 2 gY lO:=fh.2
def f_:CS 1 oK 2 2:=⟨_,fun T=>iz ["self","who"] (T.d 9 rfl) fun _ _ _ _ _ _ _ hr=>(aI (gf (cf (bp (tq (aB hr)) (aa 1) (cT T.lL (aa 0)))) (bD (j_ T.z5 (ax (aK (oF (eP (oC (aa 1)) (eP ah ur)))) bC))) dz) (bD (jF (aB hr) (ml T.lL (aq (aa 0))) (aq (aa 1)) (aK zM))))⟩
def kg:=fq 2 2 f_.1
theorem uv:KS 1 oK kg:=f_.2
def mT:CS 3 fO 2 2:=⟨_,fun T=>iz ["self","who"] (T.d 10 rfl) fun _ _ _ _ _ _ _ hr=>(aI (oE T.Fo (aq (aa 0)) (f9 (yS aw))) (aI (oE T.fP (aq (aa 0)) (f9 kF)) (aI (oE T.tX (aq (aa 0)) (f9 kF)) (aI (oE T.xg (aq (aa 0)) (f9 (BO (MP rfl) T.dict (ae (GS (N':=["what"]) (ix:=[none]) (fS.of (N:=["self","who"]) (sc:=aP fO.st) rfl rfl (by decide+kernel)) (RI T.DL) ⟨fun s H ex=>⟨(eO 0 (by show List.Nodup (["what"]:List Str);decide+kernel)),yR,(bM (ae (aa 0) (ae (bO (aB hr) (Wf T.Kc (aa 0)) bu) aw)))⟩⟩ (fo 0)) aw)))) (aI (oE T.xf (aq (aa 0)) (f9 kF)) (aI (oE T.pA (aq (aa 0)) (f9 kF)) (aI (oE T.zY (aq (aa 0)) (f9 kF)) (aI (oE T.xT (aq (aa 0)) (f9 kF)) (bD (cE (dW (pY T) hr (aq (aa 0)) (ax (aq (aa 1)) (ax (aK ah) (ax (aK ah) bC))))))))))))))⟩
def uH:=fq 2 2 mT.1
theorem uI:KS 3 fO uH:=mT.2
def mU:CS 1 iM 1 1:=⟨_,fun T=>iz ["self"] (T.d 11 rfl) fun _ _ _ _ _ _ _ hr=>(aI (oE T.lL (aq (aa 0)) (f9 kF)) (aI (oE T.iC (aq (aa 0)) (f9 kF)) (bD (oE T.Ng (aq (aa 0)) (f9 (yS aw))))))⟩
def mV:=fq 1 1 mU.1
theorem uJ:KS 1 iM mV:=mU.2
def ja:CS 5 mv 3 3:=⟨_,fun T=>iz ["self","who","room"] (T.d 12 rfl) fun _ _ _ _ _ _ _ hr=>(aI (cE (dW (jN T) hr (aq (aa 0)) (ax (aK (bM (ae (aa 1) aw))) bC))) (aI (gf (cf (bp (tq (aB hr)) (aa 2) (cT T.iC (aa 0)))) (bD (j_ T.z5 (ax (aK (oF (eP ah (eP (oC (aa 2)) (eP ah ur))))) bC))) dz) (bD (jF (aB hr) (ml T.iC (aq (aa 0))) (aq (aa 2)) (RS (uI T) T.R_ hr (ax (aq (aa 1)) bC))))))⟩
def mH:=fq 3 3 ja.1
theorem z8:KS 5 mv mH:=ja.2
def dF:CS 4 dE 1 3:=⟨_,fun T=>iz ["self","owners","heir"] (T.d 13 rfl) fun nd _ _ _ _ _ _ hr=>(aI (JN (i:=1) (N':=["name","self"]) (ix:=[none,some 0]) (fS.of (N:=["self","owners","heir"]) (sc:=aP dE.st) rfl rfl (by decide+kernel)) (E6 (cT T.fP (aa 0))) ⟨fun s H ex=>⟨(eO 0 (by show List.Nodup (["name","self"]:List Str);decide+kernel)),(wL (bp (eD (dH hr)) (bO (aB hr) (cT T.fP (aa 1)) (aa 0)) ah)),(aa 0)⟩⟩ (fo 0) nd) (bD (gf (cf (kE (yQ (bp UK (bY gV T.len (ae (cT T.fP (aa 0)) aw)) bu) (tN (bp (eD (dH hr)) (bY gV T.len (ae (aa 1) aw)) bu))))) (aI (gP (i:=2) (aK (JX (z6 T) T.zX hr T.min (dq (Mx rfl) T.list (ae (cT T.fP (aa 0)) aw)) (aa 0))) nd) (bD (cE (dW (tY T) hr (aq (aa 0)) (ax (aq (aa 2)) (ax (aq (aa 2)) (ax (aK ah) bC))))))) dz)))⟩
def iP:=fq 1 3 dF.1
theorem iQ:KS 4 dE iP:=dF.2
def cK:CS 5 mw 2 2:=⟨_,fun T=>iz ["self","who"] (T.d 14 rfl) fun _ _ _ _ _ _ _ hr=>(aI (gf (cf (bp (tq (aB hr)) (aa 1) (cT T.fP (aa 0)))) (bD (j_ T.z5 (ax (aK (oF (eP (oC (aa 1)) (eP ah ur)))) bC))) dz) (aI (gf (cf (bp (tq (aB hr)) (aa 1) (cT T.xf (aa 0)))) (bD (j_ T.Kk (ax (aK (oF (eP (oC (aa 1)) (eP ah ur)))) bC))) dz) (aI (gf (cf (kE (yQ (bp (eD (dH hr)) (bO (aB hr) (cT T.xg (aa 0)) ah) ah) (tN (bp (uh (aB hr)) (aa 1) (cT T.pA (aa 0))))))) (bD (j_ T.DQ (ax (aK (oF (eP (oC (aa 1)) (eP ah ur)))) bC))) dz) (aI (cE (dW (pY T) hr (aq (aa 0)) (ax (aq (aa 1)) (ax (aK ah) (ax (aK ah) bC))))) (bD (cE (E_ (iQ T) hr (aq (aa 0)))))))))⟩
def cL:=fq 2 2 cK.1
theorem z9:KS 5 mw cL:=cK.2
def fi:CS 5 my 2 2:=⟨_,fun T=>iz ["self","who"] (T.d 15 rfl) fun _ _ _ _ _ _ _ hr=>(aI (cE (dW (xh T) hr (aq (aa 0)) (ax (aq (aa 1)) bC))) (aI (cE (dW (gZ T) hr (aq (aa 0)) (ax (aq (aa 1)) (ax (aK ah) (ax (aK (bM aw)) bC))))) (aI (cE (JM (ml T.fP (aq (aa 0))) (aq (aa 1)))) (bD (cE (E_ (iQ T) hr (aq (aa 0))))))))⟩
def dr:=fq 2 2 fi.1
theorem z_:KS 5 my dr:=fi.2
def jb:CS 6 mz 3 3:=⟨_,fun T=>iz ["self","who","room"] (T.d 16 rfl) fun _ _ _ _ _ _ _ hr=>(bD (cE (dW (z9 T) hr (dW (lP T) hr (aq (aa 0)) (ax (aK (bM (ae (aa 1) aw))) (ax (aq (aa 2)) bC))) (ax (aq (aa 1)) bC))))⟩
def mI:=fq 3 3 jb.1
theorem Aa:KS 6 mz mI:=jb.2
def jc:CS 6 mB 3 3:=⟨_,fun T=>iz ["self","who","room"] (T.d 17 rfl) fun _ _ _ _ _ _ _ hr=>(bD (cE (dW (z_ T) hr (dW (lP T) hr (aq (aa 0)) (ax (aK (bM (ae (aa 1) aw))) (ax (aq (aa 2)) bC))) (ax (aq (aa 1)) bC))))⟩
def mJ:=fq 3 3 jc.1
theorem Ac:KS 6 mB mJ:=jc.2
def hZ:CP 1 kK 1 1:=⟨_,fun T=>jG ["self"] (T.d 18 rfl) fun _ _ _ _ _ _ _ hr=>(bU (cg (dq fM T.tuple (ae (bY (iw rfl) T.sorted (ae (cT T.lL (aa 0)) aw)) aw))))⟩
def pZ:=qG 1 1 hZ.1
theorem xU:KP 1 kK pZ:=hZ.2
def jd:CP 1 mC 1 1:=⟨_,fun T=>jG ["self"] (T.d 19 rfl) fun _ _ _ _ _ _ _ hr=>(bU (cg (dq fM T.tuple (ae (bY (iw rfl) T.sorted (ae (cT T.iC (aa 0)) aw)) aw))))⟩
def sJ:=qG 1 1 jd.1
theorem Ad:KP 1 mC sJ:=jd.2
def fQ:CP 1 gA 2 2:=⟨_,fun T=>jG ["self","room"] (T.d 7 rfl) fun _ _ _ _ _ _ _ hr=>(bj (gH (bp (uh (aB hr)) (aa 1) (cT T.iC (aa 0))) (bU Wn) dw) (bU (cg (bO (aB hr) (cT T.iC (aa 0)) (aa 1)))))⟩
def mW:=qG 2 2 fQ.1
theorem d5:KP 1 gA mW:=fQ.2
def je:CP 1 mD 1 1:=⟨_,fun T=>jG ["self"] (T.d 20 rfl) fun _ _ _ _ _ _ _ hr=>(bU (cg (dq fM T.tuple (ae (JP T.sorted (cT T.fP (aa 0))) aw))))⟩
def sL:=qG 1 1 je.1
theorem Ae:KP 1 mD sL:=je.2
def kh:CP 1 oM 1 1:=⟨_,fun T=>jG ["self"] (T.d 21 rfl) fun _ _ _ _ _ _ _ hr=>(bU (cg (dq fM T.tuple (ae (cT T.Fo (aa 0)) aw))))⟩
def uw:=qG 1 1 kh.1
theorem B7:KP 1 oM uw:=kh.2
def h_:CP 1 kL 1 1:=⟨_,fun T=>jG ["self"] (T.d 22 rfl) fun _ _ _ _ _ _ _ hr=>(bU (cg (dq fM T.tuple (ae (bY (iw rfl) T.sorted (ae (cT T.xf (aa 0)) aw)) aw))))⟩
def p4:=qG 1 1 h_.1
theorem xV:KP 1 kL p4:=h_.2
def jf:CP 1 mE 1 1:=⟨_,fun T=>jG ["self"] (T.d 23 rfl) fun _ _ _ _ _ _ _ hr=>(bU (cg (dq fM T.tuple (ae (bY (iw rfl) T.sorted (ae (cT T.pA (aa 0)) aw)) aw))))⟩
def sM:=qG 1 1 jf.1
theorem Af:KP 1 mE sM:=jf.2
def gD:CP 1 jK 2 2:=⟨_,fun T=>jG ["self","what"] (T.d 24 rfl) fun _ _ _ _ _ _ _ hr=>(bU (cg (bO (aB hr) (cT T.xg (aa 0)) (aa 1))))⟩
def oP:=qG 2 2 gD.1
theorem xi:KP 1 jK oP:=gD.2
def jg:CP 2 mF 2 2:=⟨_,fun T=>jG ["self","room"] (T.d 25 rfl) fun _ _ _ _ _ _ _ hr=>(bU (cg (pj (Ae T) hr (jH (d5 T) hr (aa 0) (ae (aa 1) aw)))))⟩
def jh:=qG 2 2 jg.1
theorem Ag:KP 2 mF jh:=jg.2
def ki:CP 2 oN 2 2:=⟨_,fun T=>jG ["self","room"] (T.d 26 rfl) fun _ _ _ _ _ _ _ hr=>(bU (cg (pj (B7 T) hr (jH (d5 T) hr (aa 0) (ae (aa 1) aw)))))⟩
def kj:=qG 2 2 ki.1
theorem B8:KP 2 oN kj:=ki.2
def ib:CP 2 kM 2 2:=⟨_,fun T=>jG ["self","room"] (T.d 27 rfl) fun _ _ _ _ _ _ _ hr=>(bU (cg (pj (xV T) hr (jH (d5 T) hr (aa 0) (ae (aa 1) aw)))))⟩
def ig:=qG 2 2 ib.1
theorem xW:KP 2 kM ig:=ib.2
def ji:CP 2 mG 2 2:=⟨_,fun T=>jG ["self","room"] (T.d 28 rfl) fun _ _ _ _ _ _ _ hr=>(bU (cg (pj (Af T) hr (jH (d5 T) hr (aa 0) (ae (aa 1) aw)))))⟩
def jj:=qG 2 2 ji.1
theorem Ah:KP 2 mG jj:=ji.2
def gE:CP 2 jL 3 3:=⟨_,fun T=>jG ["self","room","what"] (T.d 29 rfl) fun _ _ _ _ _ _ _ hr=>(bU (cg (jH (xi T) hr (jH (d5 T) hr (aa 0) (ae (aa 1) aw)) (ae (aa 2) aw))))⟩
def gF:=qG 3 3 gE.1
theorem xj:KP 2 jL gF:=gE.2
def sN:CP 1 wW 2 2:=⟨_,fun T=>jG ["_law_room","_law_who"] (T.d 30 rfl) fun _ _ _ _ _ _ _ hr=>(bU (cg (DG (bp (tq (aB hr)) (aa 1) (bO (aB hr) (aa 0) ah)) (Wj (aB hr) (ae ah (ae ah (ae ah (ae ah aw)))) (bO (aB hr) (bO (aB hr) (aa 0) ah) (aa 1))) (OC bu))))⟩
def B9:=qG 2 2 sN.1
theorem B_:KP 1 wW B9:=sN.2
def Ca:CP 1 wX 1 3:=⟨_,fun T=>jG ["_law_kept","_law_kinds","_law_words_here"] (T.d 31 rfl) fun nd _ _ _ _ _ _ hr=>(bj (d4 (i:=1) (sC (ae (kG T.Nh T.Kh T.isinstance (aa 0)) (ae (kG T.DM T.BZ T.isinstance (aa 0)) aw))) nd) (bj (d4 (i:=1) (dN gJ (aa 1) (sC (ae (kG T.Kg T.G7 T.isinstance (aa 0)) (ae (kG T.Nj T.Kj T.isinstance (aa 0)) aw)))) nd) (bj (d4 (i:=1) (dN gJ (aa 1) (sC (ae (kG T.DN T.B5 T.isinstance (aa 0)) (ae (kG T.Kd T.G4 T.isinstance (aa 0)) aw)))) nd) (bj (d4 (i:=1) (dN gJ (aa 1) (sC (ae (kG T.G3 T.DO T.isinstance (aa 0)) aw))) nd) (bj (d4 (i:=1) (dN gJ (aa 1) (sC (ae (kG T.Ni T.Ki T.isinstance (aa 0)) (ae (kG T.Ke T.G5 T.isinstance (aa 0)) (ae (kG T.Kf T.G6 T.isinstance (aa 0)) aw))))) nd) (bj (d4 (i:=2) (bM (ae ah (ae ah (ae ah (ae ah (ae ah (ae ah aw))))))) nd) (bj (d4 (i:=2) (dN gJ (aa 2) (bM (ae ah (ae ah (ae ah (ae ah aw)))))) nd) (bj (gH (kE (MS (bp (ID (dH hr)) (Wh PySem.F.slot_list_count PySem.F.type_list_count (Q6 (aB hr)) (aa 1) zM) bu) (E5 (yP (mR (RP T.zZ T.ValueError T.isinstance (aa 0))))))) (bU (cg ah)) dw) (bU (cg (bO (aB hr) (aa 2) (Wh PySem.F.slot_list_index PySem.F.type_list_index (Q5 (aB hr)) (aa 1) zM))))))))))))⟩
def xk:=qG 1 3 Ca.1
theorem Km:KP 1 wX xk:=Ca.2
def yW:CS 1 tW 1 1:=⟨_,fun T=>iz ["_law_people"] (T.d 32 rfl) fun _ _ _ _ _ _ _ hr=>(bD (dI (JR (mn (aq ah) (f9 (BO Mn T.list (ae (aa 0) aw))) (mn (aq ah) (f9 kF) Jr)))))⟩
def t5:=fq 1 1 yW.1
theorem G8:KS 1 tW t5:=yW.2
def uY:CS 1 zV 3 3:=⟨_,fun T=>iz ["_law_room","_law_who","_law_parts"] (T.d 33 rfl) fun _ _ _ _ _ _ _ hr=>(aI (cE (E8 m8 qJ ly zq (wO (aB hr) (aq (aa 0)) (aK ah)) (ax (aK (dN gJ (bM (ae (dN gJ (bY gV T.len (ae (bO (aB hr) (aa 0) ah) aw)) bu) (ae (aa 1) aw))) (aa 2))) bC))) (bD (dI (aK (bY gV T.len (ae (bO (aB hr) (aa 0) ah) aw))))))⟩
def Ai:=fq 3 3 uY.1
theorem uZ:KS 1 zV Ai:=uY.2
def pB:CS 2 pz 3 5:=⟨_,fun T=>iz ["_law_room","_law_who","_law_word_here","_law_number","_law_first"] (T.d 34 rfl) fun nd _ _ _ _ _ _ hr=>(aI (gP (i:=3) (iA (uZ T) hr (ax (aq (aa 0)) (ax (aq (aa 1)) (ax (aK (bM (ae (aa 2) aw))) bC)))) nd) (aI (gP (i:=4) (aK (DG (bp (eD (dH hr)) (bO (aB hr) (aa 0) ah) ah) bu (aa 3))) nd) (aI (cE (E8 m8 qJ ly zq (wO (aB hr) (aq (aa 0)) (aK ah)) (ax (aK (bM (ae (aa 1) (ae (aa 4) (ae (aa 3) (ae fA aw)))))) bC))) (aI (jF (aB hr) (wO (aB hr) (aq (aa 0)) (aK ah)) (aq (aa 1)) (aK ah)) (bD (jF (aB hr) (aq (aa 0)) (aK ah) (f9 (Wl (N':=["_law_one","_law_who"]) (ix:=[none,some 1]) (fS.of (N:=["_law_room","_law_who","_law_word_here","_law_number","_law_first"]) (sc:=aP pz.st) rfl rfl (by decide+kernel)) (oB (bO (aB hr) (aa 0) ah)) ⟨fun s H ex=>⟨(eO 0 (by show List.Nodup (["_law_one","_law_who"]:List Str);decide+kernel)),(wL (bp (ID (dH hr)) (aa 0) (aa 1))),(aa 0)⟩⟩ (fo 0)))))))))⟩
def t6:=fq 3 5 pB.1
theorem yX:KS 2 pz t6:=pB.2
def sO:CS 1 sF 3 3:=⟨_,fun T=>iz ["_law_room","_law_who","_law_number"] (T.d 35 rfl) fun _ _ _ _ _ _ _ hr=>(aI (cE (JM (wO (aB hr) (aq (aa 0)) (aK ah)) (aq (aa 1)))) (bD (jF (aB hr) (aq (aa 0)) (aK ah) (f9 (Wl (N':=["_law_stay","_law_who","_law_number"]) (ix:=[none,some 1,some 2]) (fS.of (N:=["_law_room","_law_who","_law_number"]) (sc:=aP sF.st) rfl rfl (by decide+kernel)) (oB (bO (aB hr) (aa 0) ah)) ⟨fun s H ex=>⟨(eO 0 (by show List.Nodup (["_law_stay","_law_who","_law_number"]:List Str);decide+kernel)),yR,(DG (kE (yQ (bp (eD (dH hr)) (bO (aB hr) (aa 0) bu) (aa 1)) (tN (bp Ba (bO (aB hr) (aa 0) bu) fA)))) (dN gJ (BP (aa 0) wM (wN bu)) (bM (ae (aa 2) aw))) (aa 0))⟩⟩ (fo 0))))))⟩
def xl:=fq 3 3 sO.1
theorem Kn:KS 1 sF xl:=sO.2
def Fs:CP 1 zW 3 4:=⟨_,fun T=>jG ["_law_cell_here","_law_prime","_law_many","_law_blend"] (T.d 36 rfl) fun nd _ _ _ _ _ _ hr=>(bj (d4 (i:=3) (dN A7 (dN IB (aa 0) bu) (aa 1)) nd) (bU (cg (dN A7 (dN A7 (dN IB (aa 3) (dN gJ (aa 3) bu)) (aa 1)) (aa 2)))))⟩
def Ft:=qG 3 4 Fs.1
theorem ij:KP 1 zW Ft:=Fs.2
def Cb:CP 1 wY 2 2:=⟨_,fun T=>jG ["_law_script","_law_k"] (T.d 37 rfl) fun _ _ _ _ _ _ _ hr=>(bj (gH (bp YT (aa 1) (bY gV T.len (ae (aa 0) aw))) (bU (cg (bO (aB hr) (aa 0) (aa 1)))) dw) (bU (cg bu)))⟩
def xm:=qG 2 2 Cb.1
theorem Ko:KP 1 wY xm:=Cb.2
def pC:CS 2 jm 1 3:=⟨_,fun T=>iz ["_law_room","_law_most","_law_there"] (T.d 38 rfl) fun nd _ _ _ _ _ _ hr=>(aI (gf (cf (kE (MS (yP (mR (bO (aB hr) (aa 0) ah))) (E5 (bp (tq (aB hr)) ah (OD (N':=["_law_who","_law_room"]) (ix:=[none,some 0]) (fS.of (N:=["_law_room","_law_most","_law_there"]) (sc:=aP jm.st) rfl rfl (by decide+kernel)) (E6 (bO (aB hr) (aa 0) ah)) ⟨fun s H ex=>⟨(eO 0 (by show List.Nodup (["_law_who","_law_room"]:List Str);decide+kernel)),yR,(bO (aB hr) (bO (aB hr) (aa 1) ah) (aa 0))⟩⟩ (fo 0))))))) (bD RJ) dz) (aI (gP (i:=1) (aK (bY (VZ rfl) T.max (ae (OD (N':=["_law_who","_law_room"]) (ix:=[none,some 0]) (fS.of (N:=["_law_room","_law_most","_law_there"]) (sc:=aP jm.st) rfl rfl (by decide+kernel)) (E6 (bO (aB hr) (aa 0) ah)) ⟨fun s H ex=>⟨(eO 0 (by show List.Nodup (["_law_who","_law_room"]:List Str);decide+kernel)),yR,(eQ (B_ T) hr (ae (aa 1) (ae (aa 0) aw)))⟩⟩ (fo 0)) aw))) nd) (aI (MV (i:=2) (N':=["_law_stay","_law_most","_law_room"]) (ix:=[none,some 1,some 0]) (fS.of (N:=["_law_room","_law_most","_law_there"]) (sc:=aP jm.st) rfl rfl (by decide+kernel)) (oB (bO (aB hr) (aa 0) ah)) ⟨fun s H ex=>⟨(eO 0 (by show List.Nodup (["_law_stay","_law_most","_law_room"]:List Str);decide+kernel)),(wL (kE (yQ (bp Ba (bO (aB hr) (aa 0) bu) fA) (tN (bp (eD (dH hr)) (eQ (B_ T) hr (ae (aa 2) (ae (bO (aB hr) (aa 0) bu) aw))) (aa 1)))))),(bO (aB hr) (aa 0) bu)⟩⟩ (fo 0) nd) (aI (jF (aB hr) (wO (aB hr) (aq (aa 0)) (aK ah)) (aK (bO (aB hr) (aa 2) bu)) (aK ah)) (bD (cE (iA (uZ T) hr (ax (aq (aa 0)) (ax (aK (bO (aB hr) (aa 2) bu)) (ax (aK (bM (ae ah (ae (bO (aB hr) (aa 2) bu) (ae ah aw))))) bC))))))))))⟩
def pD:=fq 1 3 pC.1
theorem G9:KS 2 jm pD:=pC.2
def iD:CS 3 wZ 2 5:=⟨_,fun T=>iz ["_law_model","_law_deed_here","_law_word_here","_law_who","_law_room"] (T.d 39 rfl) fun nd _ _ _ _ _ _ hr=>(aI (Wk (OB (is:=[2,3]) (zN (i:=2) (zN (i:=3) OA nd) nd)) (Iz [2,3]) (aK (BP (aa 1) wM (wN bu)))) (aI (gf (cf (bp (eD (dH hr)) (aa 2) ah)) (aI (cE (E8 m8 qJ ly zq (wO (aB hr) (aq (aa 0)) (aK ah)) (ax (aq (aa 3)) bC))) (bD (dI (aK fA)))) dz) (aI (gf (cf (bp (eD (dH hr)) (aa 2) ah)) (aI (gP (i:=4) (JR (mn (aq ah) (f9 (yS aw)) (mn (aq ah) (f9 kF) (mn (aq ah) (f9 (yS aw)) (mn (aq ah) (f9 (yS aw)) (mn (aq ah) (f9 (yS aw)) Jr)))))) nd) (aI (cE (Wo (aq (aa 4)) (aq (JL (zO ah ah (zO ah ah (zO ah ah N7))))))) (aI (jF (aB hr) (wO (aB hr) (aq (aa 0)) (aK ah)) (aK (bO (aB hr) (aa 1) bu)) (aq (aa 4))) (aI (cE (iA (yX T) hr (ax (aq (aa 4)) (ax (aq (aa 3)) (ax (aK ah) bC))))) (aI (jF (aB hr) (wO (aB hr) (aq (aa 4)) (aK ah)) (aq (aa 3)) (aK ah)) (bD (dI (aK fA)))))))) dz) (aI (gP (i:=4) (wO (aB hr) (wO (aB hr) (aq (aa 0)) (aK ah)) (aK (bO (aB hr) (aa 1) bu))) nd) (aI (gf (cf (bp (eD (dH hr)) (aa 2) ah)) (bD (dI (iA (uZ T) hr (ax (aq (aa 4)) (ax (aq (aa 3)) (ax (aK (dN gJ (BP (aa 1) wM (wN bu)) (BP (aa 1) (wN bu) wM))) bC)))))) dz) (aI (gf (cf (bp (eD (dH hr)) (aa 2) ah)) (bD (cE (iA (yX T) hr (ax (aq (aa 4)) (ax (aq (aa 3)) (ax (aK ah) bC)))))) (bD (gf (cf (bp (eD (dH hr)) (aa 2) ah)) (bD (cE (iA (Kn T) hr (ax (aq (aa 4)) (ax (aq (aa 3)) (ax (iA (uZ T) hr (ax (aq (aa 4)) (ax (aq (aa 3)) (ax (aK (bM (ae ah aw))) bC)))) bC)))))) (bD (cE pW))))) (aI (cE (iA (G9 T) hr (ax (aq (aa 4)) bC))) (bD (dI (aK fA))))))))))⟩
def oQ:=fq 2 5 iD.1
theorem Cc:KS 3 wZ oQ:=iD.2
def f':CP 1 iB 2 5:=⟨_,fun T=>jG ["_law_model","_law_deed_here","_law_word_here","_law_some","_law_room"] (T.d 40 rfl) fun nd _ _ _ _ _ _ hr=>(bj (d4 (i:=2) (bO (aB hr) (aa 1) bu) nd) (bj (gH (bp (eD (dH hr)) (aa 2) ah) (bU (cg (DG (bp (tq (aB hr)) (bO (aB hr) (aa 1) bu) (bO (aB hr) (aa 0) ah)) ah fA))) dw) (bj (d4 (i:=3) (dN gJ (sC (ae (bO (aB hr) (aa 1) bu) aw)) (GS (N':=["_law_k","_law_deed_here","_law_word_here"]) (ix:=[none,some 1,some 2]) (fS.of (N:=["_law_model","_law_deed_here","_law_word_here","_law_some","_law_room"]) (sc:=aP iB.st) rfl rfl (by decide+kernel)) (oB (bM (ae bu aw))) ⟨fun s H ex=>⟨(eO 0 (by show List.Nodup (["_law_k","_law_deed_here","_law_word_here"]:List Str);decide+kernel)),(wL (bp (tq (aB hr)) (aa 2) (bM (ae ah (ae ah (ae ah (ae ah (ae ah aw)))))))),(bO (aB hr) (aa 1) (aa 0))⟩⟩ (fo 0))) nd) (bj (gH (mR (GS (N':=["_law_who","_law_model"]) (ix:=[none,some 0]) (fS.of (N:=["_law_model","_law_deed_here","_law_word_here","_law_some","_law_room"]) (sc:=aP iB.st) rfl rfl (by decide+kernel)) (oB (aa 3)) ⟨fun s H ex=>⟨(eO 0 (by show List.Nodup (["_law_who","_law_model"]:List Str);decide+kernel)),(wL (bp (uh (aB hr)) (aa 0) (bO (aB hr) (aa 1) ah))),(aa 0)⟩⟩ (fo 0))) (bU (cg ah)) dw) (bj (d4 (i:=4) (RD (aB hr) (bO (aB hr) (aa 0) ah) (bO (aB hr) (aa 1) bu)) nd) (bj (gH (bp (eD (dH hr)) (aa 2) ah) (bU (cg (DG (bp Ba (aa 4) fA) fA ah))) dw) (bj (gH (bp Ba (aa 4) fA) (bU (cg ah)) dw) (bj (gH (bp (eD (dH hr)) (aa 2) ah) (bj (gH (bp (tq (aB hr)) (bO (aB hr) (aa 1) bu) (bO (aB hr) (aa 4) ah)) (bU (cg ah)) dw) (bj (gH (bp (tq (aB hr)) (bO (aB hr) (aa 1) bu) (bO (aB hr) (aa 4) ah)) (bU (cg ah)) dw) (bU (cg (DG (kE (yQ (bp (eD (dH hr)) (bO (aB hr) (aa 4) ah) ah) (tN (bp (uh (aB hr)) (bO (aB hr) (aa 1) bu) (bO (aB hr) (aa 4) ah))))) ah fA))))) dw) (bj (gH (bp (uh (aB hr)) (bO (aB hr) (aa 1) bu) (bO (aB hr) (aa 4) ah)) (bU (cg ah)) dw) (bj (gH (bp (tq (aB hr)) (aa 2) (bM (ae ah (ae ah (ae ah aw))))) (bU (cg E9)) dw) (bU (cg (DG (bp (eD (dH hr)) (aa 2) ah) fA E9)))))))))))))⟩
def gb:=qG 2 5 f'.1
theorem Cd:KP 1 iB gb:=f'.2
def sP:CP 2 sG 3 12:=⟨_,fun T=>jG ["_law_cell_here","_law_model","_law_words_here","_law_names","_law_who","_law_whom","_law_room","_law_word_here","_law_some","_law_there","_law_number","_law_said_here"] (T.d 41 rfl) fun nd _ _ _ _ _ _ hr=>(bj (d4 (i:=3) (bM (ae ah (ae ah (ae ah (ae ah (ae ah aw)))))) nd) (bj (gH (bp (eD (dH hr)) (eQ (ij T) hr (ae (aa 0) (ae bu (ae bu aw)))) bu) (bU (d4 (i:=3) (bM (ae ah (ae ah (ae ah aw)))) nd)) dw) (bj (d4 (i:=4) (bO (aB hr) (aa 3) (eQ (ij T) hr (ae (aa 0) (ae bu (ae (bY gV T.len (ae (aa 3) aw)) aw))))) nd) (bj (d4 (i:=5) (bO (aB hr) (aa 3) (eQ (ij T) hr (ae (aa 0) (ae bu (ae (bY gV T.len (ae (aa 3) aw)) aw))))) nd) (bj (d4 (i:=6) (bO (aB hr) (bM (ae ah (ae ah (ae ah (ae ah aw))))) (eQ (ij T) hr (ae (aa 0) (ae bu (ae bu aw))))) nd) (bj (d4 (i:=7) (bO (aB hr) (aa 2) (eQ (ij T) hr (ae (aa 0) (ae bu (ae (bY gV T.len (ae (aa 2) aw)) aw))))) nd) (bj (gH (bp (tq (aB hr)) (aa 7) (bM (ae ah (ae ah (ae ah (ae ah aw)))))) (bU (cg (BP (bM (ae (aa 7) (ae (aa 4) (ae (aa 6) aw)))) wM (wN (dN gJ bu (dq VF T.int (ae (E4 (ID (dH hr)) (aa 7) ah) aw))))))) dw) (bj (gH (bp (eD (dH hr)) (aa 7) ah) (bj (d4 (i:=8) (sC (ae (bM (ae ah (ae ah aw))) (ae (bM (ae ah (ae ah aw))) (ae (bM (ae ah (ae ah aw))) aw)))) nd) (bj (d4 (i:=8) (dN gJ (aa 8) (sC (ae (bM (ae ah (ae ah aw))) (ae (bM (ae ah (ae ah aw))) (ae (bM (ae ah (ae ah aw))) aw))))) nd) (bU (cg (dN gJ (bM (ae (aa 7) (ae (aa 4) (ae (aa 6) aw)))) (bO (aB hr) (aa 8) (eQ (ij T) hr (ae (aa 0) (ae bu (ae bu aw)))))))))) dw) (bj (gH (bp (eD (dH hr)) (aa 7) ah) (bU (cg (bM (ae (aa 7) (ae (aa 4) (ae (aa 6) (ae (aa 5) (ae (bO (aB hr) (bM (ae ah (ae ah (ae ah (ae ah aw))))) (eQ (ij T) hr (ae (aa 0) (ae bu (ae bu aw))))) aw)))))))) dw) (bj (gH (bp (tq (aB hr)) (aa 7) (bM (ae ah (ae ah (ae ah (ae ah aw)))))) (bU (cg (bM (ae (aa 7) (ae (aa 4) (ae (aa 6) (ae (aa 5) aw))))))) dw) (bj (d4 (i:=9) (bO (aB hr) (RE (aB hr) (bO (aB hr) (aa 1) ah) (aa 6) (JL (zO ah (sC aw) N7))) ah) nd) (bj (d4 (i:=10) (eQ (ij T) hr (ae (aa 0) (ae bu (ae (dN gJ (bY gV T.len (ae (aa 9) aw)) bu) aw)))) nd) (bj (MT (i:=11) (N':=["_law_row_here"]) (ix:=[none]) (fS.of (N:=["_law_cell_here","_law_model","_law_words_here","_law_names","_law_who","_law_whom","_law_room","_law_word_here","_law_some","_law_there","_law_number","_law_said_here"]) (sc:=aP sG.st) rfl rfl (by decide+kernel)) (oB (aa 9)) ⟨fun s H ex=>⟨(eO 0 (by show List.Nodup (["_law_row_here"]:List Str);decide+kernel)),(wL (bp (eD (dH hr)) (bO (aB hr) (aa 0) bu) ah)),(bO (aB hr) (aa 0) bu)⟩⟩ (fo 0) nd) (bj (gH (kE (yQ (mR (aa 11)) (tN (bp UK (dN A7 (aa 0) bu) bu)))) (bU (d4 (i:=10) (bO (aB hr) (aa 11) (eQ (ij T) hr (ae (aa 0) (ae bu (ae (bY gV T.len (ae (aa 11) aw)) aw))))) nd)) dw) (bj (gH (bp (eD (dH hr)) (aa 7) ah) (bU (cg (bM (ae (aa 7) (ae (aa 4) (ae (aa 6) (ae E9 (ae (bO (aB hr) (bM (ae fA (ae fA (ae (aa 10) aw)))) (eQ (ij T) hr (ae (aa 0) (ae bu (ae bu aw))))) aw)))))))) dw) (bj (gH (bp (eD (dH hr)) (aa 7) ah) (bU (cg (bM (ae (aa 7) (ae (aa 4) (ae (aa 6) (ae (aa 10) (ae E9 aw)))))))) dw) (bU (cg (bM (ae (aa 7) (ae (aa 4) (ae (aa 6) (ae (aa 10) aw)))))))))))))))))))))))⟩
def sQ:=qG 3 12 sP.1
theorem Kp:KP 2 sG sQ:=sP.2
def fB:CS 7 w6 2 3:=⟨_,fun T=>iz ["_law_hall_here","_law_deed_here","_law_word_here"] (T.d 42 rfl) fun nd _ _ _ _ _ _ hr=>(aI (gP (i:=2) (aK (bO (aB hr) (aa 1) bu)) nd) (aI (gf (cf (bp (eD (dH hr)) (aa 2) ah)) (bD (dI (dW (uv T) hr (aq (aa 0)) (ax (aK (bO (aB hr) (aa 1) bu)) bC)))) dz) (aI (gf (cf (bp (eD (dH hr)) (aa 2) ah)) (bD (dI (dW (z8 T) hr (aq (aa 0)) (ax (aK (bO (aB hr) (aa 1) bu)) (ax (aK (bO (aB hr) (aa 1) bu)) bC))))) dz) (aI (gf (cf (bp (eD (dH hr)) (aa 2) ah)) (bD (dI (dW (Aa T) hr (aq (aa 0)) (ax (aK (bO (aB hr) (aa 1) bu)) (ax (aK (bO (aB hr) (aa 1) bu)) bC))))) dz) (aI (gf (cf (bp (eD (dH hr)) (aa 2) ah)) (bD (dI (dW (Ac T) hr (aq (aa 0)) (ax (aK (bO (aB hr) (aa 1) bu)) (ax (aK (bO (aB hr) (aa 1) bu)) bC))))) dz) (aI (gf (cf (bp (eD (dH hr)) (aa 2) ah)) (bD (dI pW)) dz) (aI (gf (cf (bp (eD (dH hr)) (aa 2) ah)) (bD (dI pW)) dz) (aI (gf (cf (bp (eD (dH hr)) (aa 2) ah)) (bD (dI pW)) dz) (aI (gf (cf (bp (eD (dH hr)) (aa 2) ah)) (bD (dI pW)) dz) (aI (gf (cf (bp (eD (dH hr)) (aa 2) ah)) (bD (dI pW)) dz) (aI (gf (cf (bp (eD (dH hr)) (aa 2) ah)) (bD (dI pW)) dz) (aI (gf (cf (bp (eD (dH hr)) (aa 2) ah)) (bD (dI pW)) dz) (aI (gf (cf (bp (eD (dH hr)) (aa 2) ah)) (bD (dI pW)) dz) (bD (dI pW)))))))))))))))⟩
def iE:=fq 2 3 fB.1
theorem Ce:KS 7 w6 iE:=fB.2
def lQ:CS 8 w8 2 5:=⟨_,fun T=>iz ["_law_hall_here","_law_deed_here","_law_kept","_law_answer","e"] (T.d 43 rfl) fun nd _ _ _ _ _ _ hr=>(aI (gP (i:=2) (aK fA) nd) (aI (gP (i:=3) (aK fA) nd) (aI (RT 5 (i:=4) T.B6 (fun pn E'=>(bD (gP (i:=3) (iA (Ce T) hr (ax (aq (aa 0)) (ax (aq (aa 1)) bC))) nd))) (fun pn e=>(bD (gP (i:=2) (aq (aa 4)) nd))) nd) (aI (gf (cf (bp Ba (aa 2) fA)) (bD (dI (aq (aa 3)))) dz) (bD (dI (aK (eQ (Km T) hr (ae (aa 2) aw)))))))))⟩
def oR:=fq 2 5 lQ.1
theorem Kq:KS 8 w8 oR:=lQ.2
def sR(r:List Tr->Rs Tr):CR 0 sH 2 2 r:=⟨_,fun T hk G=>jG ["_law_found","_law_due"] (T.d 44 rfl) fun _ _ _ _ _ _ _ hr=>(bj (gH (mR (bY yn T.isinstance (ae (aa 1) (ae (BN T.tuple) aw)))) (bj (gH (kE (MS (yP (mR (bY yn T.isinstance (ae (aa 0) (ae (BN T.tuple) aw))))) (E5 (bp (ID (dH hr)) (bY gV T.len (ae (aa 0) aw)) (bY gV T.len (ae (aa 1) aw)))))) (bU (cg zM)) dw) (bU (cg (bY (UR rfl) T.all (ae (GS (N':=["_law_one","_law_other"]) (ix:=[none,none]) (fS.of (N:=["_law_found","_law_due"]) (sc:=aP sH.st) rfl rfl (by decide+kernel)) (Wg T.zip (ae (aa 0) (ae (aa 1) aw))) ⟨fun s H ex=>⟨(OB (is:=[0,1]) (zN (i:=0) (zN (i:=1) OA (by show List.Nodup (["_law_one","_law_other"]:List Str);decide+kernel)) (by show List.Nodup (["_law_one","_law_other"]:List Str);decide+kernel))),yR,(eQ G hr (ae (aa 0) (ae (aa 1) aw)))⟩⟩ (Iz [0,1])) aw))))) dw) (bj (gH (bp Ba (aa 1) fA) (bU (cg (E4 Ba (aa 0) fA))) dw) (bj (gH (kE (MS (mR (bY yn T.isinstance (ae (aa 1) (ae (BN T.bool) aw)))) (E5 (mR (bY yn T.isinstance (ae (aa 0) (ae (BN T.bool) aw))))))) (bU (cg (JJ (bY yn T.isinstance (ae (aa 1) (ae (BN T.bool) aw))) (JJ (bY yn T.isinstance (ae (aa 0) (ae (BN T.bool) aw))) (Oz (E4 (eD (dH hr)) (aa 0) (aa 1))))))) dw) (bU (cg (JJ (bY Q1 T.isinstance (ae (aa 0) (ae (bM (ae (BN T.int) (ae (BN T.str) aw))) aw))) (Oz (E4 (eD (dH hr)) (aa 0) (aa 1)))))))))⟩
def cC:Nat->List Tr->Rs Tr
 |0=>fun _=>.bad
 |n+1=>qG 2 2 (sR (cC n)).1
theorem jn{P:Program}{w:World}{K:Frag}{mg:Str->Option Value}{base:Heap}(T:OF K w mg):∀n:Nat,wQ P w K mg base kN (0+n) sH (spT K (cC n))
 |0=>Z8 (T.d 44 rfl)
 |n+1=>(sR _).2 T (nu ..) (jn T n)
def lR:CS 9 w_ 3 4:=⟨_,fun T=>iz ["_law_hall_here","_law_model","_law_deed_here","_law_due"] (T.d 45 rfl) fun nd _ _ _ _ _ _ hr=>(aI (gP (i:=3) (aK (eQ (Cd T) hr (ae (aa 1) (ae (aa 2) aw)))) nd) (aI (gf (cf (bp Ba (aa 3) fA)) (bD (gP (i:=3) (iA (Cc T) hr (ax (aq (aa 1)) (ax (aq (aa 2)) bC))) nd)) dz) (bD (dI (iA (jn T 5).Zx hr (ax (iA (Kq T) hr (ax (aq (aa 0)) (ax (aq (aa 2)) bC))) (ax (aq (aa 3)) bC)))))))⟩
def dM:=fq 3 4 lR.1
theorem Kr:KS 9 w_ dM:=lR.2
def Cf:CS 8 xa 2 4:=⟨_,fun T=>iz ["_law_hall_here","_law_model","_law_who","_law_deed_here"] (T.d 46 rfl) fun nd _ _ _ _ _ _ hr=>(aI (E7 (oB (bM (ae ah (ae ah (ae ah (ae ah (ae ah aw))))))) (eO 2 nd) (fo 2) (bD (cE (dW (uv T) hr (aq (aa 0)) (ax (aq (aa 2)) bC))))) (bD (E7 (oB (bM (ae (bM (ae ah (ae ah (ae ah aw)))) (ae (bM (ae ah (ae ah (ae ah aw)))) (ae (bM (ae ah (ae ah (ae ah aw)))) (ae (bM (ae ah (ae ah (ae ah aw)))) aw)))))) (eO 3 nd) (fo 3) (aI (cE (iA (Ce T) hr (ax (aq (aa 0)) (ax (aq (aa 3)) bC)))) (bD (cE (iA (Cc T) hr (ax (aq (aa 1)) (ax (aq (aa 3)) bC)))))))))⟩
def Cg:=fq 2 4 Cf.1
theorem Ks:KS 8 xa Cg:=Cf.2
def pE:CP 6 lK 2 6:=⟨_,fun T=>jG ["_law_hall_here","_law_model","_law_name","_law_room","_law_roles","_law_due"] (T.d 47 rfl) fun nd _ _ _ _ _ _ hr=>(bj (RF (E6 (bO (aB hr) (aa 1) ah)) (eO 2 nd) (bj (d4 (i:=3) (bO (aB hr) (bO (aB hr) (aa 1) ah) (aa 2)) nd) (bj (d4 (i:=4) (dq fM T.tuple (ae (GS (N':=["_law_who","_law_room"]) (ix:=[none,some 3]) (fS.of (N:=["_law_hall_here","_law_model","_law_name","_law_room","_law_roles","_law_due"]) (sc:=aP lK.st) rfl rfl (by decide+kernel)) (oB (bY (iw rfl) T.sorted (ae (bO (aB hr) (aa 3) ah) aw))) ⟨fun s H ex=>⟨(eO 0 (by show List.Nodup (["_law_who","_law_room"]:List Str);decide+kernel)),yR,(bM (ae (aa 0) (ae (bO (aB hr) (bO (aB hr) (aa 1) ah) (aa 0)) aw)))⟩⟩ (fo 0)) aw)) nd) (bj (gH (yP (mR (eQ (jn T 5) hr (ae (bM (ae (jH (B8 T) hr (aa 0) (ae (aa 2) aw)) (ae (jH (Ag T) hr (aa 0) (ae (aa 2) aw)) aw))) (ae (bM (ae (dq fM T.tuple (ae (bO (aB hr) (aa 3) ah) aw)) (ae (aa 4) aw))) aw))))) (bU (cg zM)) dw) (bj (gH (yP (mR (eQ (jn T 5) hr (ae (jH (xW T) hr (aa 0) (ae (aa 2) aw)) (ae (dq fM T.tuple (ae (bY (iw rfl) T.sorted (ae (bO (aB hr) (aa 3) ah) aw)) aw)) aw))))) (bU (cg zM)) dw) (bj (gH (yP (mR (eQ (jn T 5) hr (ae (jH (Ah T) hr (aa 0) (ae (aa 2) aw)) (ae (dq fM T.tuple (ae (RH T.sorted T.set (bO (aB hr) (aa 3) ah)) aw)) aw))))) (bU (cg zM)) dw) (bU (gH (mR (GS (N':=["_law_what","_law_name","_law_room","_law_hall_here"]) (ix:=[none,some 2,some 3,some 0]) (fS.of (N:=["_law_hall_here","_law_model","_law_name","_law_room","_law_roles","_law_due"]) (sc:=aP lK.st) rfl rfl (by decide+kernel)) (oB (bM (ae ah (ae ah (ae ah aw))))) ⟨fun s H ex=>⟨(eO 0 (by show List.Nodup (["_law_what","_law_name","_law_room","_law_hall_here"]:List Str);decide+kernel)),(wL (bp (ID (dH hr)) (jH (xj T) hr (aa 3) (ae (aa 1) (ae (aa 0) aw))) (bO (aB hr) (aa 2) (aa 0)))),bu⟩⟩ (fo 0))) (bU (cg zM)) dw)))))))) (bj (d4 (i:=5) (bM (ae (dq fM T.tuple (ae (bY (iw rfl) T.sorted (ae (bO (aB hr) (aa 1) ah) aw)) aw)) (ae (dq fM T.tuple (ae (bY (iw rfl) T.sorted (ae (bO (aB hr) (aa 1) ah) aw)) aw)) aw))) nd) (bU (cg (eQ (jn T 5) hr (ae (bM (ae (pj (Ad T) hr (aa 0)) (ae (pj (xU T) hr (aa 0)) aw))) (ae (aa 5) aw)))))))⟩
def t7:=qG 2 6 pE.1
theorem G_:KP 6 lK t7:=pE.2
def Kt:CZ 10 BY 1 6:=⟨_,fun T=>Z7 ["_law_script","_law_hall_here","_law_model","_law_words_here","_law_k","_law_deed_here"] (T.d 48 rfl) fun nd _ _ _ _ _ _ hr=>(aI (gP (i:=1) (M3 (uJ T) T.R9 hr) nd) (aI (gP (i:=2) (iA (G8 T) hr (ax (aK (bM (ae ah (ae ah (ae ah (ae ah (ae ah aw))))))) bC)) nd) (aI (cE (iA (Ks T) hr (ax (aq (aa 1)) (ax (aq (aa 2)) bC)))) (aI (gP (i:=3) (aK (bM (ae ah (ae ah (ae ah (ae ah aw)))))) nd) (aI (E7 (JK T.range (ae bu aw)) (eO 4 nd) (fo 4) (aI (gP (i:=5) (aK (eQ (Kp T) hr (ae (dN gJ (eQ (Ko T) hr (ae (aa 0) (ae (dN A7 (aa 4) bu) aw))) (dN IB bu (aa 4))) (ae (aa 2) (ae (aa 3) aw))))) nd) (bD (gf (RO (RN (iA (Kr T) hr (ax (aq (aa 1)) (ax (aq (aa 2)) (ax (aq (aa 5)) bC)))))) (bD (dI (aK zM))) dz)))) (bD (dI (aK (eQ (G_ T) hr (ae (aa 1) (ae (aa 2) aw)))))))))))⟩
def xn:=Bh 1 6 Kt.1
theorem WD:KP 10 BY xn:=Kt.2
section
variable {A:Ab}{i:Nat}{rk en ch:List (Key×Tr)}
theorem Aj{av c0:Str}{ps:List Tr}(h:aM A i rows rk en ch bn iv)(f:di rows rk en ch bn iv)(hl:rows.length<d7)(hp:3+ps.length<=d7)(ht:mi ps=true):
  lM [.at i,.str av,.str c0,.tup ps] A=.ok (.int (rows.length+1)) (A.set (i+1) (.lst (rows++[.tup (.int (rows.length+1):: .str av:: .str c0::ps)]))):=by
 show cx (ff.1 [.sh (.at i),.sh (.str av),.sh (.str c0),.sh (.tup ps),.no] A)=_;unfold ff;have e3:zk (.tup [.int (rows.length+1),.str av,.str c0]) (.tup ps)=.ok (.tup (.int (rows.length+1):: .str av:: .str c0::ps)):=ag hp;have ef:∀A,pL (.ok (.tup (.int (rows.length+1):: .str av:: .str c0::ps))) A=.ok (.tup (.int (rows.length+1):: .str av:: .str c0::ps)) A:=fun A=>ag (by simpa only[Hl,mi,rA]using ht);simp only[ev,cN,iL,jl,h.Z9 f,h.Z',bW,bX,zP h.lg,zQ h.lg hl,e3,ef]
abbrev mK(rows:List Tr)(av c0:Str)(ps:List Tr):Tr:=.tup (.int (rows.length+1):: .str av:: .str c0::ps)
theorem Nm{av c0 role:Str}(h:aM A i rows rk en ch bn iv)(f:di rows rk en ch bn iv)(hl:rows.length<d7)(hr:rk.length<d7)(he:en.length<d7):
  ∃A',pX [.at i,.str av,.str c0,.str role] A=.ok .bK A'/\Ext A A' [(i+6,.bo (gv iv (.inr av))),(i+2,.bo (kz rk (.inr av) (.str role))),(i+3,.bo (kz en (.inr av) (.int (rows.length+1)))),(i+1,.lst (rows++[mK rows av c0 []]))]/\aM A' i (rows++[mK rows av c0 []]) (kz rk (.inr av) (.str role)) (kz en (.inr av) (.int (rows.length+1))) ch bn (gv iv (.inr av)):=by
 have h1:=h.RZ (Ext.put (o:=.lst (rows++[mK rows av c0 []])) h.lg);have h2:=h1.aad (Ext.put (o:=.bo (kz en (.inr av) (.int (rows.length+1)))) h1.en);have h3:=h2.R0 (Ext.put (o:=.bo (kz rk (.inr av) (.str role))) h2.rk);refine⟨_,?_,((Ext.put h.lg).trans (Ext.put h1.en)).trans ((Ext.put h2.rk).trans (Ext.put h3.iv)),h3.aae (Ext.put h3.iv)⟩;show cx (hX.1 [.sh (.at i),.sh (.str av),.sh (.str c0),.sh (.str role)] A)=_;unfold hX;have ef:∀A,pL (.ok (.tup [])) A=.ok (.tup []) A:=fun A=>rfl;have w:=Aj (av:=av) (c0:=c0) (ps:=[]) h f hl (by decide) rfl;simp only[ev,cN,iL,jl,h.call (m:="write_row") rfl,ef,w,qA,h1.aaa,oG h1.en he,h2.RY,oG h2.rk hr,h3.aac,M4 h3.iv,M5 _ h3.iv]
theorem R'{av c8 role:Str}(h:aM A i rows rk en ch bn iv)(f:di rows rk en ch bn iv)(hl:rows.length<d7)(hr:rk.length<d7):
  ∃A',lN [.at i,.str av,.str c8,.str role] A=.ok .bK A'/\Ext A A' [(i+2,.bo (kz rk (.inr c8) (.str role))),(i+1,.lst (rows++[mK rows av "role" [.str c8,.str role]]))]/\aM A' i (rows++[mK rows av "role" [.str c8,.str role]]) (kz rk (.inr c8) (.str role)) en ch bn iv:=by
 have h1:=h.RZ (Ext.put (o:=.lst (rows++[mK rows av "role" [.str c8,.str role]])) h.lg);refine⟨_,?_,(Ext.put h.lg).trans (Ext.put h1.rk),h1.R0 (Ext.put h1.rk)⟩;show cx (fg.1 [.sh (.at i),.sh (.str av),.sh (.str c8),.sh (.str role)] A)=_;unfold fg;have ef:∀A,pL (.ok (.tup [.str c8,.str role])) A=.ok (.tup [.str c8,.str role]) A:=fun A=>rfl;have w:=Aj (av:=av) (c0:="role") (ps:=[.str c8,.str role]) h f hl (by show 3+2<=d7;decide) rfl;simp only[ev,cN,iL,jl,h.call (m:="write_row") rfl,ef,w,qA,h1.RY,oG h1.rk hr]
theorem Ci(h:aM A i rows rk en ch bn iv)(f:di rows rk en ch bn iv)(hw:av.length<=1000):
  oO [.at i,.str av] A=if(dt rk (.inr av)).isSome=true then .ok .bK A else .exc (.str "NotIn") A:=by
 show cx (gC.1 [.sh (.at i),.sh (.str av)] A)=_;unfold gC;simp only[ev,cN,iL,jl,h.xR f];cases e:(dt rk (.inr av)).isSome with
 |true=>simp only[eX,ev,bB]
 |false=>
  have s:=GW (z:=av) (y:=" is not in the room") hw (by decide+kernel);simp only[iX,ev,cN,iL,jl,s,cu,bw]
end
abbrev xo:List Str:=["guest","speaker","keeper","owner"]
def lvl(r:Str):Int:=if r="owner"then 3 else if r="keeper"then 2 else if r="speaker"then 1 else 0
theorem Nn{r:Str}(h:r∈xo):Fq [.str r]=.ok (.int (lvl r)):=by
 have:r="guest"\/r="speaker"\/r="keeper"\/r="owner":=by simpa using h
 rcases this with rfl|rfl|rfl|rfl<;>rfl
structure Ha(ai:List (Str×Str))(z:Str):Prop where
 ex:∃j r,ai[j]?=some (z,r)/\(∀p∈ai,lvl p.2<=lvl r)/\∀(a:Nat) (p:Str×Str),a<j->ai[a]?=some p->lvl p.2<lvl r
theorem Ha.one {y z:Str}(a:Ha ai y)(b:Ha ai z):y=z:=by
 obtain⟨j,r,h1,h2,h3⟩:=a.ex;obtain⟨k,s,g1,g2,g3⟩:=b.ex;have e1:=h2 _ (cV g1);have e2:=g2 _ (cV h1);rcases Nat.lt_trichotomy j k with q|q|q
 ·have:=g3 j _ q h1;simp only at e1 e2 this;omega
 ·subst q;rw[h1]at g1;cases g1;rfl
 ·have:=h3 k _ q g1;simp only at e1 e2 this;omega
section
variable {A:Ab}{i:Nat}{ents:List (Str×Int)}{ch:List (Key×Tr)}{ent:Str->Int}
structure d8(ai:List (Str×Str))(ents:List (Str×Int))(ent:Str->Int):Prop where
 rl:∀p∈ai,p.2∈xo
 nd:(ai.map (·.1)).Nodup
 sh:∀p∈ai,p.1.length<=1000
 en:∀p∈ai,ents.lookup p.1=some (ent p.1)
 up:(ai.map fun p=>ent p.1).Pairwise (· <·)
theorem gG:∀{ai:List (Str×Str)},(ai.map (·.1)).Nodup->∀p∈ai,ai.lookup p.1=some p.2
 |q::ai,nd,p,hp=>by
  rw[aO,fH]at nd;rw[bS];rcases aE.mp hp with rfl|hp
  ·simp
  ·have:(p.1==q.1)=false:=by
    simp only[jU];intro e;exact nd.1 (e▸fF hp)
   rw[this];exact gG nd.2 p hp
theorem Np{p:Str×Str}(h:aM A i rows (dP .str ai) (dP .int ents) ch bn iv)(f:di rows (dP .str ai) (dP .int ents) ch bn iv)(k:d8 ai ents ent)(hp:p∈ai):
  gB [aj 5 A (.at i),.str p.1]=.ok (.tup [.int (-(lvl p.2)),.int (ent p.1)]):=by
 show dn (i9.1 [.sh (aj 5 A (.at i)),.sh (.str p.1)])=_;unfold i9;simp only[ev,cN,h.xR f,h.Z_ f,dA,gG k.nd p hp,k.en p hp,cW,mM,Nn (k.rl p hp)]
theorem Sa(h:aM A i rows (dP .str ai) (dP .int ents) ch bn iv)(f:di rows (dP .str ai) (dP .int ents) ch bn iv)(k:d8 ai ents ent)(fT:ai≠[]):
  ∃z,Ha ai z/\E2 "Room" "claim" gB (.ok (.lst (ai.map fun p=>.str p.1))) (.ok (aj 5 A (.at i)))=.ok (.str z):=by
 have b7:0<ai.length:=qS.mpr fT
 let key:Str->Int×Int:=fun z=>(-(lvl ((ai.lookup z).getD "")),ent z)
 have hk:∀p∈ai,key p.1=(-(lvl p.2),ent p.1):=fun p hp=>by show(-(lvl ((ai.lookup p.1).getD "")),ent p.1)=_;rw[gG k.nd p hp];rfl
 have hs:keysOf gB (aj 5 A (.at i)) ((ai.map (·.1)).map .str)=some ((ai.map (·.1)).map key):=yT fun z hz=>by
  obtain⟨p,hp,rfl⟩:=cc.mp hz;rw[Np h f k hp,hk p hp]
 let kf:Nat->Int×Int:=fun a=>((ai.map (·.1)).map key).getD a (0,0)
 have S3:∀a p,ai[a]?=some p->kf a=(-(lvl p.2),ent p.1):=fun a p e=>by
  show((ai.map (·.1)).map key).getD a (0,0)=_;rw[dg,bg,bg,e];exact hk p (cV e)
 have hup:∀a b,a<b->b<=ai.length - 1->(kf a).2<(kf b).2:=fun a b C6 hb=>by
  have lb:b<ai.length:=by omega
  have la:a<ai.length:=by omega
  rw[S3 a _ (bb la),S3 b _ (bb lb)];have:=List.pairwise_iff_getElem.mp k.up a b (by simpa using la) (by simpa using lb) C6;simpa using this
 obtain⟨h1,h2⟩:=sE (kf:=kf) (ai.length - 1) hup;have hb:=tT (kf:=kf) (ai.length - 1);have lb:cA kf (ai.length - 1)<ai.length:=by omega
 refine⟨ai[cA kf (ai.length - 1)].1,⟨cA kf (ai.length - 1),ai[cA kf (ai.length - 1)].2,bb lb,fun p hp=>?_,fun a p ha e=>?_⟩,?_⟩
 ·obtain⟨a,ha,e⟩:=List.getElem_of_mem hp;have:=h1 a (by omega);rw[S3 _ _ (bb lb),S3 a p (by rw[bb ha,e])]at this;simp only at this;omega
 ·have:=h2 a ha;rw[S3 _ _ (bb lb),S3 a p e]at this;simp only at this;omega
 ·show uo "Room" "claim" gB (.lst (ai.map fun p=>.str p.1)) (aj 5 A (.at i))=_;rw[fu h.o]at hs⊢;rw[show(ai.map fun p=>Tr.str p.1)=(ai.map (·.1)).map .str by rw[bT];rfl];refine J5 rfl (by simpa using b7) hs ?_
  rw[show((ai.map (·.1)).map Tr.str).length=ai.length by simp];show((ai.map (·.1)).map Tr.str)[cA kf (ai.length - 1)]?=_
  rw[bg,bg,bb lb]
  rfl
inductive gc(rows:List Tr)(ai:List (Str×Str)):List Tr->List (Str×Str)->Prop
 |same:(ai=[]\/∃p∈ai,p.2="owner")->gc rows ai rows ai
 |xX (z:Str):Ha ai z->(∀p∈ai,p.2≠"owner")->ai≠[]->gc rows ai (rows++[mK rows z "role" [.str z,.str "owner"]]) (eE ai z "owner")
theorem gc.one {r1 r2:List Tr}{k1 k2:List (Str×Str)}(a:gc rows ai r1 k1)(b:gc rows ai r2 k2):r1=r2/\k1=k2:=by
 cases a with
 |same h=>
  cases b with
  |same _=>exact⟨rfl,rfl⟩
  |xX z _ h2 h3=>
   rcases h with h|⟨p,hp,e⟩
   ·exact absurd h h3
   ·exact absurd e (h2 p hp)
 |xX z g h2 h3=>
  cases b with
  |same h=>
   rcases h with h|⟨p,hp,e⟩
   ·exact absurd h h3
   ·exact absurd e (h2 p hp)
  |xX y g' _ _=>cases g.one g';exact⟨rfl,rfl⟩
theorem OG(h:aM A i rows (dP .str ai) (dP .int ents) ch bn iv)(f:di rows (dP .str ai) (dP .int ents) ch bn iv)(k:d8 ai ents ent)(hl:rows.length<d7)(hr:ai.length<d7):
  ∃A' bN bQ,iP [.at i] A=.ok .bK A'/\gc rows ai bN bQ/\Ext A A' [(i+2,.bo (dP .str bQ)),(i+1,.lst bN)]/\aM A' i bN (dP .str bQ) (dP .int ents) ch bn iv:=by
 let P:Str->Bool:=fun z=>ai.lookup z==some ("owner":Str)
 have h1:=h.GX (Ext.push (o:=.lst ((((ai.map (·.1)).filter P).map .str))));have e0:Ext A (A++[.lst ((((ai.map (·.1)).filter P).map .str))]) [(i+2,.bo (dP .str ai)),(i+1,.lst rows)]:=(Ext.push.idem h.lg rfl).idem h.rk (gQ (by omega));have hP:∀p∈ai,P p.1=(p.2==("owner":Str)):=fun p hp=>by show(ai.lookup p.1==some ("owner":Str))=_;rw[gG k.nd p hp];rfl
 have t1:aj 5 (A++[Ao.lst (((ai.map (·.1)).filter P).map .str)]) (.at A.length)=.lst (((ai.map (·.1)).filter P).map .str):=by rw[kH pk,pv]
 show∃A' bN bQ,cx (dF.1 [.sh (.at i),.no,.no] A)=.ok .bK A'/\_;unfold dF;simp only[ev,cN,iL,jl,h.xR f,uV k.sh,map_fst];rw[tU (BR:=[.sh (aj 5 A (.at i))]) P rfl (by simpa using cQ hr) rfl (fun _=>rfl) ?hC]
 case hC=>
  intro z hz;obtain⟨p,hp,rfl⟩:=cc.mp hz;simp only[ev,cN,h.xR f,dA,gG k.nd p hp,cW,mM,hP p hp]
 simp only[uU pq,ev,cN,iL,jl,bW,bX,h1.xR f,t1,mq,aC];by_cases fT:ai=[]
 ·subst fT;exact⟨_,_,_,rfl,.same (.inl rfl),e0,h1⟩
 have Zg:(decide ((0:Int)<(ai.length:Int)))=true:=g_ (by have:=qS.mpr fT;omega);simp only[Zg,ev,cN,iL];by_cases ho:∃p∈ai,p.2="owner"
 ·have:((((ai.map (·.1)).filter P).length:Int)==0)=false:=by
   obtain⟨p,hp,e⟩:=ho;have hm:p.1∈(ai.map (·.1)).filter P:=gj.mpr ⟨fF hp,by rw[hP p hp,e];exact bA _⟩;have:=List.length_pos_of_mem hm;simp only[jU];omega
  simp only[this,ev];exact⟨_,_,_,rfl,.same (.inr ho),e0,h1⟩
 ·have Hr:∀p∈ai,p.2≠"owner":=fun p hp e=>ho ⟨p,hp,e⟩;have:((ai.map (·.1)).filter P)=[]:=List.filter_eq_nil_iff.mpr fun z hz=>by
   obtain⟨p,hp,rfl⟩:=cc.mp hz;rw[hP p hp];simpa using Hr p hp
  obtain⟨z,hz,ez⟩:=Sa h1 f k fT;obtain⟨A',q1,q2,q3⟩:=R' (av:=z) (c8:=z) (role:="owner") h1 f hl (by rw[mq];exact hr);rw[map_fst]at ez;have el:Dr [.bo (dP .str ai)]=.ok (.lst ((ai.map (·.1)).map .str)):=by
   show(Bi (dP .str ai)).bind (fun ts=>Rs.ok (Tr.lst ts))=_;rw[Fh fun p hp=>bJ (k.sh p hp) (by decide),map_fst];rfl
  have e9:((((ai.map (·.1)).filter P).length:Int)==0)=true:=by rw[this];rfl
  simp only[e9,ev,cN,iL,jl,h1.xR f,el,ez,bW,bX,h1.call (m:="give_role") rfl,q1];rw[oH]at q2 q3;exact⟨_,_,_,rfl,.xX z hz Hr fT,Ext.past Ext.push q2,q3⟩
end
section
variable {A:Ab}{i:Nat}{ents:List (Str×Int)}{Ak:List (Str×Str)}{ent:Str->Int}{d:Str}
theorem lookup_none{α:Type}{z:Str}:∀{l:List (Str×α)},l.lookup z=none->∀p∈l,p.1≠z
 |q::l,h,p,hp=>by
  rw[bS]at h;cases e:(z==q.1)with
  |true=>rw[e]at h;cases h
  |false=>
   rw[e]at h;rcases aE.mp hp with rfl|hp
   ·intro q;rw[q,bA]at e;cases e
   ·exact lookup_none h p hp
theorem oS{α:Type}{l:List (Str×α)}{z:Str}{a:α}(h:l.lookup z=none):eE l z a=l++[(z,a)]:=by
 unfold eE;rw[ak];intro q;obtain⟨p,hp,e⟩:=List.any_eq_true.mp q;exact lookup_none h p hp (dk e)
theorem DR{α:Type}{z y:Str}{a:α}:∀{l:List (Str×α)},(eE l z a).lookup y=if y=z then some a else l.lookup y:=by
 intro l;unfold eE;split
 ·rename_i h
  induction l with
  |nil=>cases h
  |cons p l ih=>
   rw[aO,bS,bS];by_cases hz:p.1=z
   ·rw[ag hz];by_cases hy:y=z
    ·subst hy;rw[ag rfl,hz];simp
    ·have e1:(y==p.1)=false:=by simpa[hz]using hy
     rw[ak hy];simp only[e1]
     clear ih h
     induction l with
     |nil=>rfl
     |cons q l ih=>
      rw[aO,bS,bS];by_cases hq:q.1=z
      ·rw[ag hq];have e2:(y==q.1)=false:=by simpa[hq]using hy
       simp only[e2];exact ih
      ·rw[ak hq];split
       ·rfl
       ·exact ih
   ·rw[ak hz];have h2:(l.any fun p=>decide (p.1=z))=true:=by
     rw[hJ]at h;simpa[hz]using h
    cases e:(y==p.1)with
    |true=>
     have:y=p.1:=by simpa using e
     rw[ak (by rw[this];exact hz)]
    |false=>exact ih h2
 ·rename_i h;rw[List.lookup_append];have hn:l.lookup z=none:=by
   cases e:l.lookup z with
   |none=>rfl
   |some b=>
    exfalso;apply h
    clear h
    induction l with
    |nil=>cases e
    |cons p l ih=>
     rw[bS]at e;rw[hJ];cases e2:(z==p.1)with
     |true=>have:z=p.1:=by simpa using e2
            simp[this]
     |false=>rw[e2]at e;simp[ih e]
  by_cases hy:y=z
  ·subst hy;rw[hn,ag rfl];simp
  ·rw[ak hy];have:(y==z)=false:=by simpa using hy
   simp[List.lookup,this]
theorem d8.enter {n:Int}{r:Str}(k:d8 ai ents ent)(hn:ai.lookup av=none)(fR:∀p∈ai,ent p.1<n)(hw:av.length<=1000)(hr:r∈xo):d8 (eE ai av r) (eE ents av n) fun z=>if z=av then n else ent z:=by
 rw[oS hn];have fT:=lookup_none hn;refine⟨fun p hp=>?_,?_,fun p hp=>?_,fun p hp=>?_,?_⟩
 ·rcases dC.mp hp with hp|hp
  ·exact k.rl p hp
  ·cases cF.mp hp;exact hr
 ·rw[cP,List.nodup_append];refine⟨k.nd,by simp,fun a ha b hb=>?_⟩;obtain⟨p,hp,rfl⟩:=cc.mp ha;cases(cF.mp hb);exact fT p hp
 ·rcases dC.mp hp with hp|hp
  ·exact k.sh p hp
  ·cases cF.mp hp;exact hw
 ·rw[DR];rcases dC.mp hp with hp|hp
  ·rw[ak (fT p hp),ak (fT p hp)];exact k.en p hp
  ·cases cF.mp hp;rw[ag rfl,ag rfl]
 ·rw[cP,List.pairwise_append];refine⟨?_,by simp,fun a ha b hb=>?_⟩
  ·have:(ai.map fun p=>if p.1=av then n else ent p.1)=ai.map fun p=>ent p.1:=fE fun p hp=>ak (fT p hp);rw[this];exact k.up
  ·obtain⟨p,hp,rfl⟩:=cc.mp ha;simp at hb;subst hb;rw[ak (fT p hp)];exact fR p hp
theorem d8.leave (k:d8 ai ents ent):d8 (kc ai av) ents ent:=by
 have s:(kc ai av).Sublist ai:=List.filter_sublist;exact⟨fun p hp=>k.rl p (s.subset hp),k.nd.sublist (s.map _),fun p hp=>k.sh p (s.subset hp),fun p hp=>k.en p (s.subset hp),k.up.sublist (s.map _)⟩
theorem Cj{α:Type}{l:List (Str×α)}{z:Str}{a:α}(h:z∈l.map (·.1)):(eE l z a).map (·.1)=l.map (·.1):=by
 unfold eE;obtain⟨p,hp,e⟩:=cc.mp h;rw[ag (List.any_eq_true.mpr ⟨p,hp,g_ e⟩),bT];exact fE fun q _=>by show(if q.1=z then(q.1,a)else q).1=q.1;split<;>rfl
theorem Nq{α:Type}{l:List (Str×α)}{z:Str}{a:α}{p:Str×α}(h:p∈eE l z a):p=(z,a)\/p∈l:=by
 unfold eE at h;split at h
 ·obtain⟨q,hq,e⟩:=cc.mp h;split at e
  ·rename_i hz;left;rw[<-e,hz]
  ·right;rw[<-e];exact hq
 ·rcases dC.mp h with h|h
  ·exact .inr h
  ·exact .inl (cF.mp h)
theorem d8.role {r:Str}(k:d8 ai ents ent)(h:av∈ai.map (·.1))(hr:r∈xo):d8 (eE ai av r) ents ent:=by
 have hk:=Cj (a:=r) h;have hm:∀p∈eE ai av r,∃q∈ai,q.1=p.1:=fun p hp=>by
  have:p.1∈ai.map (·.1):=by rw[<-hk];exact fF hp
  obtain⟨q,hq,e⟩:=cc.mp this;exact⟨q,hq,e⟩
 refine⟨fun p hp=>?_,by rw[hk];exact k.nd,fun p hp=>?_,fun p hp=>?_,?_⟩
 ·rcases Nq hp with rfl|hp
  ·exact hr
  ·exact k.rl p hp
 ·obtain⟨q,hq,e⟩:=hm p hp;rw[<-e];exact k.sh q hq
 ·obtain⟨q,hq,e⟩:=hm p hp;rw[<-e];exact k.en q hq
 ·have:((eE ai av r).map fun p=>ent p.1)=ai.map fun p=>ent p.1:=by
   have e1:∀l:List (Str×Str),(l.map fun p=>ent p.1)=(l.map (·.1)).map ent:=fun l=>by rw[bT];rfl
   rw[e1,e1,hk]
  rw[this];exact k.up
theorem gc.Ku {bN:List Tr}(o:gc rows ai bN bQ)(k:d8 ai ents ent):d8 bQ ents ent:=by
 cases o with
 |same _=>exact k
 |xX z g _ _=>
  obtain⟨j,r,e,_⟩:=g.ex;exact k.role (cc.mpr ⟨_,cV e,rfl⟩) (by decide+kernel)
end
section
variable {A:Ab}{i:Nat}{ents:List (Str×Int)}{Ak:List (Str×Str)}{ent:Str->Int}{d:Str}
theorem Fu{us:List Tr}{rk en ch rk' en' ch' bn' iv':List (Key×Tr)}(f:di rows rk en ch bn iv)(h1:fk rk')(h2:fk en')(h3:fk ch')(h4:fk bn')(h5:fk iv'):di (rows++[.tup us]) rk' en' ch' bn' iv':=⟨jI f.lg,h1,h2,h3,h4,h5⟩
theorem S4{l:List (Str×Str)}:fk (dP .str l):=sD fun _ _ _=>qw
theorem flI{l:List (Str×Int)}:fk (dP .int l):=sD fun _ _ _=>JZ
theorem Kv{r:Str}(h:aM A i rows (dP .str ai) (dP .int ents) (dP .str Ak) bn iv)(f:di rows (dP .str ai) (dP .int ents) (dP .str Ak) bn iv)(hw:av.length<=1000)(hr:ai.lookup av=some r):
  cL [.at i,.str av] A=.exc (.str "Known") A:=by
 show cx (cK.1 [.sh (.at i),.sh (.str av)] A)=_;unfold cK;have s:=GW (z:=av) (y:=" is in the room") hw (by decide+kernel);simp only[ev,cN,iL,jl,h.xR f,du,hr,cW,gi,s]
theorem Kw{r:Tr}(h:aM A i rows (dP .str ai) (dP .int ents) (dP .str Ak) bn iv)(f:di rows (dP .str ai) (dP .int ents) (dP .str Ak) bn iv)(hw:av.length<=1000)(hr:ai.lookup av=none)(hb:dt bn (.inr av)=some r):
  cL [.at i,.str av] A=.exc (.str "Barred") A:=by
 show cx (cK.1 [.sh (.at i),.sh (.str av)] A)=_;unfold cK;have s:=GW (z:=av) (y:=" is barred") hw (by decide+kernel);simp only[ev,cN,iL,jl,h.xR f,du,hr,nC,l0,h.RX f,hb,gi,s]
theorem Kx(h:aM A i rows (dP .str ai) (dP .int ents) (dP .str Ak) bn iv)(f:di rows (dP .str ai) (dP .int ents) (dP .str Ak) bn iv)(hw:av.length<=1000)(hr:ai.lookup av=none)(hb:dt bn (.inr av)=none)(hd:Ak.lookup ("door":Str)=some ("asked":Str))(hv:dt iv (.inr av)=none):
  cL [.at i,.str av] A=.exc (.str "NotAsked") A:=by
 show cx (cK.1 [.sh (.at i),.sh (.str av)] A)=_;unfold cK;have s:=GW (z:=av) (y:=" is not asked") hw (by decide+kernel);have Ld:Ak.lookup (Str.ofString "door")=some (Str.ofString "asked"):=hd;simp only[ev,cN,iL,jl,h.xR f,du,hr,nC,l0,h.RX f,hb,h.Wx f,dA,Ld,cW,mM,bA,h.Wy f,hv,iX,s]
theorem Nr(h:aM A i rows (dP .str ai) (dP .int ents) (dP .str Ak) bn iv)(f:di rows (dP .str ai) (dP .int ents) (dP .str Ak) bn iv)(k:d8 ai ents ent)(fR:∀p∈ai,ent p.1<rows.length+1)(hl:rows.length+1<d7)(WE:ai.length+1<d7)(he:ents.length<d7)(hw:av.length<=1000)
  (hr:ai.lookup av=none) (hb:dt bn (.inr av)=none) (hd:Ak.lookup ("door":Str)=some d) (hv:d≠"asked"\/(dt iv (.inr av)).isSome=true):
  ∃A' bN bQ,cL [.at i,.str av] A=.ok .bK A'/\gc (rows++[mK rows av "enter" []]) (eE ai av "guest") bN bQ/\Ext A A' ([(i+2,.bo (dP .str bQ)),(i+1,.lst bN)]++[(i+6,.bo (gv iv (.inr av))),(i+2,.bo (dP .str (eE ai av "guest"))),(i+3,.bo (dP .int (eE ents av (rows.length+1)))),(i+1,.lst (rows++[mK rows av "enter" []]))])
   /\aM A' i bN (dP .str bQ) (dP .int (eE ents av (rows.length+1))) (dP .str Ak) bn (gv iv (.inr av)):=by
 obtain⟨A1,q1,q2,q3⟩:=Nm (av:=av) (c0:="enter") (role:="guest") h f (by omega) (by rw[mq];omega) (by rw[mq];exact he);rw[oH,oH]at q2 q3;have hs:(eE ai av "guest").length<d7:=by rw[oS hr,cD];exact WE
 obtain⟨A2,bN,bQ,s1,s2,s3,s4⟩:=OG q3 (Fu f S4 flI f.ch f.bn (GY f.iv)) (k.enter (n:=rows.length+1) hr fR hw (by decide+kernel)) (by rw[cD];exact hl) hs;refine⟨A2,bN,bQ,?_,s2,q2.trans s3,s4⟩;show cx (cK.1 [.sh (.at i),.sh (.str av)] A)=_;unfold cK;have Ld:Ak.lookup (Str.ofString "door")=some d:=hd;have hc:Io (.ok (d==("asked":Str))) (.ok (!(dt iv (.inr av)).isSome))=.ok false:=by
  rcases hv with hv|hv
  ·rw[show(d==("asked":Str))=false by simpa using hv];rfl
  ·rw[hv];cases(d==("asked":Str))<;>rfl
 simp only[ev,cN,iL,jl,h.xR f,du,hr,nC,l0,h.RX f,hb,h.Wx f,dA,Ld,cW,mM,h.Wy f,hc,h.call (m:="let_in") rfl,q1,q3.call (m:="see_to_owner") rfl,s1]
theorem Ky(h:aM A i rows (dP .str ai) (dP .int ents) (dP .str Ak) bn iv)(f:di rows (dP .str ai) (dP .int ents) (dP .str Ak) bn iv)(hw:av.length<=1000)(hr:ai.lookup av=none):
  dr [.at i,.str av] A=.exc (.str "NotIn") A:=by
 show cx (fi.1 [.sh (.at i),.sh (.str av)] A)=_;unfold fi;have n:=Ci h f hw;rw[du,hr]at n;simp only[ev,cN,iL,jl,h.call (m:="need_in") rfl,n,nC,l0,cu,bw]
theorem Nt{r:Str}(h:aM A i rows (dP .str ai) (dP .int ents) (dP .str Ak) bn iv)(f:di rows (dP .str ai) (dP .int ents) (dP .str Ak) bn iv)(k:d8 ai ents ent)(hl:rows.length+1<d7)(WE:ai.length<d7)(hw:av.length<=1000)
  (hr:ai.lookup av=some r):
  ∃A' bN bQ,dr [.at i,.str av] A=.ok .bK A'/\gc (rows++[mK rows av "leave" []]) (kc ai av) bN bQ/\Ext A A' ([(i+2,.bo (dP .str bQ)),(i+1,.lst bN)]++[(i+2,.bo (dP .str (kc ai av))),(i+1,.lst (rows++[mK rows av "leave" []]))])
   /\aM A' i bN (dP .str bQ) (dP .int ents) (dP .str Ak) bn iv:=by
 have w:=Aj (av:=av) (c0:="leave") (ps:=[]) h f (by omega) (by decide) rfl;have h1:=h.RZ (Ext.put (o:=.lst (rows++[mK rows av "leave" []])) h.lg);have h2:=h1.R0 (Ext.put (o:=.bo (dP .str (kc ai av))) h1.rk);obtain⟨A2,bN,bQ,s1,s2,s3,s4⟩:=OG h2 (Fu f S4 flI f.ch f.bn f.iv) (k.leave (av:=av)) (by rw[cD];exact hl) (qT (qO ..) WE);refine⟨A2,bN,bQ,?_,s2,((Ext.put h.lg).trans (Ext.put h1.rk)).trans s3,s4⟩;show cx (fi.1 [.sh (.at i),.sh (.str av)] A)=_;unfold fi;have n:=Ci h f hw;rw[du,hr]at n;have ef:∀A,pL (.ok (.tup [])) A=.ok (.tup []) A:=fun A=>rfl;have p:=Fd (z:=av) (v:=.str r) h1.rk (by rw[du,hr];rfl);rw[zR]at p;simp only[ev,cN,iL,jl,h.call (m:="need_in") rfl,n,cW,gi,bB,h.call (m:="write_row") rfl,ef,w,h1.RY,Fc h1.rk,p,h2.call (m:="see_to_owner") rfl,s1]
end
section
variable {A:Ab}{b9:Str}
theorem Fv(h:bG A aA a9)(hw:av.length<=1000):jM [.at 0,.tup [.str av]] A=if(aA.lookup av).isSome=true then .ok .bK A else .exc (.str "NoPerson") A:=by
 show cx (dX.1 [.sh (.at 0),.sh (.tup [.str av]),.no] A)=_;unfold dX;have s:=GW (z:="nobody is called ") (y:=av) (by decide+kernel) hw;simp only[ev,cN,iL,jl,J7,bW,bX,h.M6,du,kU];cases(aA.lookup av).isSome with
 |true=>simp only[eX,ev,cN,bB]
 |false=>simp only[iX,ev,cN,iL,jl,s,cu,bw]
theorem Nu{j:Nat}(h:bG A aA a9)(hj:a9.lookup b9=some j):sI [.at 0,.str b9] A=.ok (.at j) A:=by
 show cx (i_.1 [.sh (.at 0),.sh (.str b9)] A)=_;unfold i_;simp only[ev,cN,iL,jl,h.M7,du,hj,cW,gi,eX,h.aag,ke,zS h.pl,dA,mM]
theorem xp{j:Nat}(h:bG A aA a9)(hw:av.length<=1000)(hj:a9.lookup b9=some j):lO [.at 0,.tup [.str av],.str b9] A=if(aA.lookup av).isSome=true then .ok (.at j) A else .exc (.str "NoPerson") A:=by
 show cx (fh.1 [.sh (.at 0),.sh (.tup [.str av]),.sh (.str b9)] A)=_;unfold fh;simp only[ev,cN,iL,jl,h.call (m:="need_people") rfl,Fv h hw];cases(aA.lookup av).isSome with
 |true=>simp only[bB,ev,cN,iL,jl,h.call (m:="place") rfl,Nu h hj]
 |false=>simp only[cu,bw,ev]
theorem Nv{b:Bool}(h:bG A aA a9)(hw:av.length<=1000)(hp:aA.lookup av=some b):kg [.at 0,.str av] A=.exc (.str "Known") A:=by
 show cx (f_.1 [.sh (.at 0),.sh (.str av)] A)=_;unfold f_;have s:=GW (z:=av) (y:=" is there") hw (by decide+kernel);simp only[ev,cN,iL,jl,h.M6,du,hp,cW,gi,s]
theorem Sb(h:bG A aA a9)(hp:aA.lookup av=none)(hl:aA.length<d7):kg [.at 0,.str av] A=.ok .bK (A.set 1 (.bo (dP .bl (eE aA av true)))):=by
 show cx (f_.1 [.sh (.at 0),.sh (.str av)] A)=_;unfold f_;have q:=oG (z:=av) (t:=.bl true) (Y:=[.sh (.at 0),.sh (.str av)]) h.ps (by rw[mq];exact hl);rw[oH]at q;simp only[ev,cN,iL,jl,h.M6,du,hp,nC,l0,qA,h.aaf,q]
theorem aaw{x y z:Str}(h:z.length<=1000)(hy:y.length<=1000)(hx:x.length<=1000):(fun acc=>om (.ok (.str z)) (fun acc=>om (.ok (.str y)) (fun acc=>om (.ok (.str x)) (fun acc=>zA acc) acc) acc) acc) Str.empty=.ok (.str (Str.empty++z++y++x)):=by
 have l1:(Str.empty++z).length<=bV:=by rw[g7];show 0+z.length<=1000000;omega
 have l2:(Str.empty++z++y).length<=bV:=by rw[g7,g7];show 0+z.length+y.length<=1000000;omega
 have l3:(Str.empty++z++y++x).length<=bV:=by rw[g7,g7,g7];show 0+z.length+y.length+x.length<=1000000;omega
 show(if(Str.empty++z).length<=bV then om (.ok (.str y)) (fun acc=>om (.ok (.str x)) (fun acc=>zA acc) acc) (Str.empty++z)else .bad)=_;rw[ag l1];show(if(Str.empty++z++y).length<=bV then om (.ok (.str x)) (fun acc=>zA acc) (Str.empty++z++y)else .bad)=_;rw[ag l2];show(if(Str.empty++z++y++x).length<=bV then zA (Str.empty++z++y++x)else .bad)=_;rw[ag l3];exact ag l3
theorem Nw{j:Nat}(h:bG A aA a9)(hw:av.length<=1000)(hr:b9.length<=1000)(hj:a9.lookup b9=some j):mH [.at 0,.str av,.str b9] A=.exc (.str (if(aA.lookup av).isSome=true then"Known"else"NoPerson")) A:=by
 show cx (ja.1 [.sh (.at 0),.sh (.str av),.sh (.str b9)] A)=_;unfold ja;have s:=aaw (z:="the room ") (y:=b9) (x:=" is there") (by decide+kernel) hr (by decide+kernel);have ef:∀A,pL (.ok (.tup [.str av])) A=.ok (.tup [.str av]) A:=fun A=>rfl;simp only[ev,cN,iL,jl,h.call (m:="need_people") rfl,ef,Fv h hw];cases(aA.lookup av).isSome with
 |true=>simp only[bB,ev,cN,iL,jl,h.M7,du,hj,cW,gi,s]
 |false=>simp only[cu,bw,ev]
theorem Ck{j:Nat}(h:bG A aA a9)(hw:av.length<=1000)(hj:a9.lookup b9=some j)(hF:mQ "Room" "enter" cL (.ok (.at j) A) (fun A=>.ok [.str av] A)=cL [.at j,.str av] A):
  mI [.at 0,.str av,.str b9] A=if(aA.lookup av).isSome=true then cx (yv (cL [.at j,.str av] A) [.sh (.at 0),.sh (.str av),.sh (.str b9)])else .exc (.str "NoPerson") A:=by
 show cx (jb.1 [.sh (.at 0),.sh (.str av),.sh (.str b9)] A)=_;unfold jb;have ef:∀A,pL (.ok (.tup [.str av])) A=.ok (.tup [.str av]) A:=fun A=>rfl;simp only[ev,cN,iL,jl,h.call (m:="place_for") rfl,ef,xp h hw hj];cases(aA.lookup av).isSome with
 |true=>simp only[bB];rw[hF]
 |false=>simp only[cu,bw];rfl
theorem Cm{j:Nat}(h:bG A aA a9)(hw:av.length<=1000)(hj:a9.lookup b9=some j)(hF:mQ "Room" "leave" dr (.ok (.at j) A) (fun A=>.ok [.str av] A)=dr [.at j,.str av] A):
  mJ [.at 0,.str av,.str b9] A=if(aA.lookup av).isSome=true then cx (yv (dr [.at j,.str av] A) [.sh (.at 0),.sh (.str av),.sh (.str b9)])else .exc (.str "NoPerson") A:=by
 show cx (jc.1 [.sh (.at 0),.sh (.str av),.sh (.str b9)] A)=_;unfold jc;have ef:∀A,pL (.ok (.tup [.str av])) A=.ok (.tup [.str av]) A:=fun A=>rfl;simp only[ev,cN,iL,jl,h.call (m:="place_for") rfl,ef,xp h hw hj];cases(aA.lookup av).isSome with
 |true=>simp only[bB];rw[hF]
 |false=>simp only[cu,bw];rfl
end
section
variable {A:Ab}{j ks kb ka n:Nat}{aW:List (Str×Str)}{stays:List lJ}{aZ asked:List Str}{d v p c0:Str}
theorem DT{ps:List Tr}(h:bF A j ks kb ka rows aW stays aZ asked d v p)(f:mS rows)(hl:rows.length<d7)(hp:2+ps.length<=d7)(ht:mi ps=true):
  Ai [.at j,.str av,.tup ps] A=.ok (.int (rows.length+1)) (A.set (j+1) (.lst (rows++[.tup (.int (rows.length+1):: .str av::ps)]))):=by
 show cx (uY.1 [.sh (.at j),.sh (.str av),.sh (.tup ps)] A)=_;unfold uY;have h1:=h.M8 (Ext.put (o:=.lst (rows++[.tup (.int (rows.length+1):: .str av::ps)])) h.rw);have e3:zk (.tup [.int (rows.length+1),.str av]) (.tup ps)=.ok (.tup (.int (rows.length+1):: .str av::ps)):=ag hp;have ef:∀A,pL (.ok (.tup (.int (rows.length+1):: .str av::ps))) A=.ok (.tup (.int (rows.length+1):: .str av::ps)) A:=fun A=>ag (by simpa only[Hl,mi,rA]using ht);have el:((rows++[Tr.tup (.int (rows.length+1):: .str av::ps)]).length:Int)=rows.length+1:=by simp
 simp only[ev,cN,iL,jl,ke,h.aah,zP h.rw,h.R3 (n:=3) f,e3,ef,zQ h.rw hl,h1.R3 (n:=3) (jI f),el]
theorem Kz(h:bF A j ks kb ka rows aW stays aZ asked d v p)(f:mS rows)(hl:rows.length<d7)(hs:stays.length<d7)(hr:aW.length<d7)(ha:asked.length<=d7):
  ∃A' S5 f1,t6 [.at j,.str av,.str c0] A=.ok .bK A'/\A.length<=S5/\Ext A A' [(j,.bo (dP id (BS j ks kb S5 d v p))),(j+2,.bo (dP .str (eE aW av "guest"))),(ks,.lst ((stays++[(av,f1,(rows.length+1:Int),none)]).map uu)),(j+1,.lst (rows++[mK rows av c0 []]))]
   /\bF A' j ks kb S5 (rows++[mK rows av c0 []]) (eE aW av "guest") (stays++[(av,f1,(rows.length+1:Int),none)]) aZ (asked.filter fun z=>!(z==av)) d v p:=by
 have w:=DT (av:=av) (ps:=[.str c0]) h f hl (by show 2+1<=d7;decide) rfl;have h1:=h.M8 (Ext.put (o:=.lst (rows++[mK rows av c0 []])) h.rw)
 let f1:Int:=if p="shown"then 1 else rows.length+1
 have h2:=h1.aaj (oJ:=stays++[(av,f1,(rows.length+1:Int),none)]) (Ext.put h1.st);have h3:=h2.R6 (kI:=eE aW av "guest") (Ext.put h2.rl);have h4:=h3.aak (wU:=asked.filter fun z=>!(z==av));have x1:=((Ext.put (o:=.lst (rows++[mK rows av c0 []])) h.rw).trans (Ext.put (o:=.lst ((stays++[(av,f1,(rows.length+1:Int),none)]).map uu)) h1.st)).trans (Ext.put (o:=.bo (dP .str (eE aW av "guest"))) h2.rl);refine⟨_,_,f1,?_,x1.le,x1.cons (Ext.past Ext.push (Ext.put (Ext.push.same h3.o rfl))),h4⟩;show cx (pB.1 [.sh (.at j),.sh (.str av),.sh (.str c0),.no,.no] A)=_;unfold pB;have ef:∀A,pL (.ok (.tup [.str c0])) A=.ok (.tup [.str c0]) A:=fun A=>rfl;have eg:∀A,pL (.ok (.tup [.str av,.int f1,.int (rows.length+1),.bK])) A=.ok (.tup [.str av,.int f1,.int (rows.length+1),.bK]) A:=fun A=>rfl;have ei:Ip (.ok (p==("shown":Str))) (.ok (.int 1)) (.ok (.int (rows.length+1)))=.ok (.int f1):=by
  show(if(p==("shown":Str))then _ else _)=_;by_cases q:p="shown"
  ·subst q;rfl
  ·rw[show(p==("shown":Str))=false by simpa using q];show Rs.ok _=_;congr 2;exact(ak q).symm
 have ep:=oG (z:=av) (t:=.str "guest") (Y:=[.sh (.at j),.sh (.str av),.sh (.str c0),.sh (.int (rows.length+1)),.sh (.int f1)]) h2.rl (by rw[mq];exact hr);rw[oH]at ep;have ea:=zQ (t:=.tup [.str av,.int f1,.int (rows.length+1),.bK]) h1.st (by rw[aC];exact hs);rw[show stays.map uu++[.tup [.str av,.int f1,.int (rows.length+1),.bK]]=(stays++[(av,f1,(rows.length+1:Int),none)]).map uu by rw[cP];rfl]at ea;simp only[ev,cN,iL,jl,ef,w,bW,bX,h1.a_p (n:=4),ei,ke,h1.aai,zP h1.st,eg,ea,qA,h2.R5,ep,J7,h3.R4 (n:=3)];rw[tU (BR:=[.sh (.str av)]) (fun z=>!(z==av)) rfl ha rfl (fun _=>rfl) ?hC]
 case hC=>intro z hz;simp only[ev,M9]
 simp only[uU pq,qA,ev,cN,iL,jl,h3.aam]
def iR(av:Str)(n:Int)(s:lJ):lJ:=if s.1=av/\s.2.2.2=none then(s.1,s.2.1,s.2.2.1,some n)else s
theorem Nx{n:Int}{r:Str}(h:bF A j ks kb ka rows aW stays aZ asked d v p)(hs:stays.length<=d7)(hr:aW.lookup av=some r):
  ∃A' WG,xl [.at j,.str av,.int n] A=.ok .bK A'/\A.length<=WG/\Ext A A' [(j,.bo (dP id (BS j WG kb ka d v p))),(j+2,.bo (dP .str (kc aW av)))]
   /\bF A' j WG kb ka rows (kc aW av) (stays.map (iR av n)) aZ asked d v p:=by
 have h1:=h.R6 (kI:=kc aW av) (Ext.put h.rl);have h2:=h1.aal (oJ:=stays.map (iR av n));have x1:=Ext.put (o:=.bo (dP .str (kc aW av))) h.rl;refine⟨_,_,?_,x1.le,x1.cons (Ext.past Ext.push (Ext.put (Ext.push.same h1.o rfl))),h2⟩;show cx (sO.1 [.sh (.at j),.sh (.str av),.sh (.int n)] A)=_;unfold sO;have pp:=Fd (z:=av) (v:=.str r) h.rl (by rw[du,hr];rfl);rw[zR]at pp;simp only[ev,cN,iL,jl,ke,h.R5,Fc h.rl,pp,h1.Wz (n:=3),J7];rw[mr (BR:=[.sh (.str av),.sh (.int n)]) (fun _=>true) uu (fun s=>uu (iR av n s)) rfl hs rfl (fun _ _=>rfl) ?hF]
 case hF=>
  intro s _ _;obtain⟨a,b,c,e⟩:=s;have i0:eJ (uu (a,b,c,e)) (.int 0)=.ok (.str a):=rfl;have i3:eJ (uu (a,b,c,e)) (.int 3)=.ok (DH e):=rfl;have is:GR (.ok (uu (a,b,c,e))) (.ok none) (SM (.ok (.int 3)))=.ok (.tup [.str a,.int b,.int c]):=rfl;have ia:zk (.tup [.str a,.int b,.int c]) (.tup [.int n])=.ok (.tup [.str a,.int b,.int c,.int n]):=rfl;cases e with
  |none=>
   have ie:Ga (DH none) .bK=.ok (.bl true):=rfl;by_cases q:a=av
   ·subst q;simp only[ev,cN,i0,i3,is,ia,ie,bA,iR,and_self,bB]
    rfl
   ·have:(a==av)=false:=by simpa using q
    simp only[ev,cN,i0,this,iR,q,false_and,bw]
  |some m=>
   have ie:Ga (DH (some m)) .bK=.ok (.bl false):=rfl;simp only[ev,cN,i0,i3,ie,iR,reduceCtorEq,and_false,bw];cases(a==av)<;>rfl
 rw[show stays.filter (fun _=>true)=stays from nh.mpr fun _ _=>rfl,show(stays.map fun s=>uu (iR av n s))=(stays.map (iR av n)).map uu by rw[bT];rfl];simp only[uU wV,qA,ev,cN,iL,jl,h1.aan]
end
section
variable {A:Ab}{j ks kb ka n:Nat}{aW:List (Str×Str)}{stays:List lJ}{aZ asked:List Str}{d v p c0:Str}{ents:List (Str×Int)}{ent:Str->Int}
theorem KA{T:Tr}{r:Str}(hT:eJ T (.str "roles")=.ok (.bo (dP .str aW)))(hr:aW.lookup av=some r)(h4:r∈xo):B9 [T,.str av]=.ok (.int (lvl r)):=by
 show dn (sN.1 [.sh T,.sh (.str av)])=_;unfold sN;have e4:∀X:Rs Tr,(if([.str "guest",.str "speaker",.str "keeper",.str "owner"]:List Tr).length<=d7 then X else .bad)=X:=fun X=>ag (by show 4<=d7;decide);have ei:uF [.str "guest",.str "speaker",.str "keeper",.str "owner"] (.str r)=.ok (.int (lvl r)):=by
  have:r="guest"\/r="speaker"\/r="keeper"\/r="owner":=by simpa using h4
  rcases this with rfl|rfl|rfl|rfl<;>rfl
 simp only[ev,cN,hT,du,hr,cW,gi,e4,dA,mM,ei]
def lS(stays:List lJ):List Str:=(stays.filter fun s=>s.2.2.2.isNone).map (·.1)
theorem sS{α:Type}{Q:α->Bool}{x:α}:∀{l r:List α},l.filter Q=x::r->∃a:Nat,l[a]?=some x/\Q x=true/\∀(b:Nat) (y:α),b<a->l[b]?=some y->Q y=false
 |y::l,r,h=>by
  cases e:Q y with
  |true=>
   rw[jS e]at h;cases h;exact⟨0,rfl,e,fun b y hb=>absurd hb (vp _)⟩
  |false=>
   rw[iS (by rw[e];exact d9)]at h;obtain⟨a,h1,h2,h3⟩:=sS h;refine⟨a+1,h1,h2,fun b z hb hz=>?_⟩;cases b with
   |zero=>cases hz;exact e
   |succ b=>exact h3 b z (Nat.lt_of_succ_lt_succ hb) hz
theorem ix0{t:Tr}{ts:List Tr}:eJ (.lst (t::ts)) (.int 0)=.ok t:=by
 show mM (uy (t::ts) 0)=_;have:K1 (t::ts).length 0=some 0:=by unfold K1;simp
 unfold uy;rw[this]
 rfl
theorem Cn(h:bF A j ks kb ka rows aW stays aZ asked d v p)(f:mS rows)(k:d8 aW ents ent)(ho:lS stays=aW.map (·.1))(hl:rows.length<d7)(hs:stays.length<=d7)(hr:aW.length<d7):
  ∃A' bN kI,pD [.at j] A=.ok .bK A'/\gc rows aW bN kI/\Ext A A' [(j+1,.lst bN),(j+2,.bo (dP .str kI))]/\bF A' j ks kb ka bN kI stays aZ asked d v p:=by
 show∃A' bN kI,cx (pC.1 [.sh (.at j),.no,.no] A)=.ok .bK A'/\_;unfold pC;have x0:Ext A A [(j+1,.lst rows),(j+2,.bo (dP .str aW))]:=(Ext.refl.idem h.rl rfl).idem h.rw (gQ (by omega));have hT:=h.J9 (n:=3);simp only[ev,cN,iL,jl,hT,R7];by_cases fT:aW=[]
 ·subst fT;exact⟨_,_,_,rfl,.same (.inl rfl),x0,h⟩
 have he:aW.isEmpty=false:=by cases aW<;>first|exact absurd rfl fT|rfl
 simp only[he,iX,eX,ev,uV k.sh,map_fst];rw[mr (BR:=[.sh (aj 5 A (.at j))]) (fun _=>true) (fun p=>.str p.1) (fun p=>.str p.2) (xs:=aW) (by rw[bT];rfl) (cQ hr) rfl (fun _ _=>rfl) ?hF]
 case hF=>intro q hq _;simp only[ev,cN,hT,dA,gG k.nd q hq,cW,mM]
 rw[show aW.filter (fun _=>true)=aW from nh.mpr fun _ _=>rfl,show(aW.map fun p=>Tr.str p.2)=(aW.map (·.2)).map .str by rw[bT];rfl];simp only[ev,cN,iL,jl,uW];by_cases hw:∃p∈aW,p.2="owner"
 ·have:(aW.map (·.2)).contains (Str.ofString "owner")=true:=by
   obtain⟨q,hq,e⟩:=hw;exact eV.mpr (cc.mpr ⟨q,hq,e⟩)
  simp only[this,ev];exact⟨_,_,_,rfl,.same (.inr hw),x0,h⟩
 have Hr:∀p∈aW,p.2≠"owner":=fun p hp e=>hw ⟨p,hp,e⟩;have hc:(aW.map (·.2)).contains (Str.ofString "owner")=false:=by
  cases e:(aW.map (·.2)).contains (Str.ofString "owner")with
  |false=>rfl
  |true=>
   obtain⟨q,hq,e⟩:=cc.mp (eV.mp e);exact absurd e (Hr q hq)
 simp only[hc,ev,cN,iL,jl,hT,uV k.sh,map_fst];rw[mr (BR:=[.sh (aj 5 A (.at j))]) (fun _=>true) (fun p=>.str p.1) (fun p=>.int (lvl p.2)) (xs:=aW) (by rw[bT];rfl) (cQ hr) rfl (fun _ _=>rfl) ?hF]
 case hF=>intro q hq _;simp only[ev,cN,KA hT (gG k.nd q hq) (k.rl q hq)]
 rw[show aW.filter (fun _=>true)=aW from nh.mpr fun _ _=>rfl];have hmx:=max_map (f:=fun q:Str×Str=>lvl q.2) fT;obtain⟨m1,m2⟩:=DI (ns:=aW.map fun q=>lvl q.2) (by rw[aC];exact qS.mpr fT);generalize pT (aW.map fun q=>lvl q.2)=most at hmx m1 m2;simp only[ev,cN,iL,jl,hmx,bW,bX,h.Wz (n:=3),J7]
 let Q:Str->Bool:=fun z=>match aW.lookup z with|some r=>lvl r==most|none=>false
 have hQ:∀q∈aW,Q q.1=(lvl q.2==most):=fun q hq=>by show(match aW.lookup q.1 with|some r=>lvl r==most|none=>false)=_;rw[gG k.nd q hq]
 rw[mr (BR:=[.sh (.int most),.sh (aj 5 A (.at j))]) (fun s:lJ=>s.2.2.2.isNone&&Q s.1) uu (fun s=>.str s.1) rfl hs rfl ?hC ?hF]
 case hC=>
  intro s hs;obtain⟨a,b,c,e⟩:=s;have i0:eJ (uu (a,b,c,e)) (.int 0)=.ok (.str a):=rfl;have i3:eJ (uu (a,b,c,e)) (.int 3)=.ok (DH e):=rfl;cases e with
  |some m=>
   have ie:Ga (DH (some m)) .bK=.ok (.bl false):=rfl;simp only[ev,cN,i3,ie,Option.isNone_some,Bool.false_and]
  |none=>
   have ie:Ga (DH none) .bK=.ok (.bl true):=rfl;have hm:a∈lS stays:=cc.mpr ⟨_,gj.mpr ⟨hs,rfl⟩,rfl⟩;rw[ho]at hm;obtain⟨q,hq,e⟩:=cc.mp hm;subst e;simp only[ev,cN,i0,i3,ie,KA hT (gG k.nd q hq) (k.rl q hq),Option.isNone_none,rA,hQ q hq]
 case hF=>intro s _ _;obtain⟨a,b,c,e⟩:=s;rfl
 have ht:(stays.filter fun s:lJ=>s.2.2.2.isNone&&Q s.1).map (fun s=>Tr.str s.1)=((aW.filter fun q=>lvl q.2==most).map (·.1)).map .str:=by
  rw[show(fun s:lJ=>Tr.str s.1)=Tr.str∘(·.1)from rfl,<-bT];congr 1;have e1:(stays.filter fun s:lJ=>s.2.2.2.isNone&&Q s.1)=(stays.filter fun s=>s.2.2.2.isNone).filter fun s=>Q s.1:=by
   rw[List.filter_filter];congr 1;funext s;exact Bool.and_comm ..
  have e2:((stays.filter fun s=>s.2.2.2.isNone).filter fun s=>Q s.1).map (·.1)=(lS stays).filter Q:=by unfold lS;rw[nA];rfl
  rw[e1,e2,ho,nA];congr 1;exact qY fun q hq=>hQ q hq
 rw[ht];obtain⟨q0,hq0,e0⟩:=cc.mp m1;have hfe:(aW.filter fun q=>lvl q.2==most)≠[]:=List.ne_nil_of_mem (gj.mpr ⟨hq0,by simpa using e0⟩);obtain⟨⟨z,rz⟩,c7,hfz⟩:=List.exists_cons_of_ne_nil hfe;obtain⟨a,a1,a2,a3⟩:=sS hfz;have hz:Ha aW z:=⟨a,rz,a1,fun q hq=>by
  have:=m2 _ (fF hq);have e:lvl rz=most:=by simpa using a2
  rw[e];exact this,fun b q hb hq=>by
  have h1:=m2 _ (fF (f:=fun q:Str×Str=>lvl q.2) (cV hq));have h2:¬lvl q.2=most:=by simpa using a3 b q hb hq
  have e:lvl rz=most:=by simpa using a2
  omega⟩
 rw[hfz];have h1:=h.ext (Ext.push (o:=.lst ((((z,rz)::c7).map (·.1)).map .str))) fun _ _=>rfl;have h2:=h1.R6 (kI:=eE aW z "owner") (Ext.put h1.rl);have t1:aj 5 (A++[Ao.lst ((((z,rz)::c7).map (·.1)).map .str)]) (.at A.length)=.lst ((((z,rz)::c7).map (·.1)).map .str):=by rw[kH pk,pv]
 have t2:aj 5 ((A++[Ao.lst ((((z,rz)::c7).map (·.1)).map .str)]).set (j+2) (.bo (dP .str (eE aW z "owner")))) (.at A.length)=.lst ((((z,rz)::c7).map (·.1)).map .str):=by
  rw[kH (((Ext.put h1.rl).same pk (gQ (by have:=dB h.rl;omega)))),pv]
 have i0:eJ (.lst ((((z,rz)::c7).map (·.1)).map .str)) (.int 0)=.ok (.str z):=ix0;have ep:=oG (z:=z) (t:=.str "owner") (Y:=[.sh (.at j),.sh (.int most),.sh (.at A.length)]) h1.rl (by rw[mq];exact hr);rw[oH]at ep;have w:=DT (av:=z) (ps:=[.str "role",.str z,.str "owner"]) h2 f hl (by show 2+3<=d7;decide) rfl;have ef:∀A,pL (.ok (.tup [.str "role",.str z,.str "owner"])) A=.ok (.tup [.str "role",.str z,.str "owner"]) A:=fun A=>rfl;simp only[uU pq,ev,cN,iL,jl,bW,bX,qA,ke,h1.R5,t1,i0,ep,t2,ef,w];exact⟨_,_,_,rfl,.xX z hz Hr fT,(Ext.past Ext.push (Ext.put h1.rl)).cons (Ext.put h2.rw),h2.M8 (Ext.put h2.rw)⟩
end
section
variable {A:Ab}{aJ:List Str}{j ks kb ka n:Nat}{aW:List (Str×Str)}{stays:List lJ}{aZ asked:List Str}{d v p b9:Str}
theorem Ny(m:dJ A aJ c6):gb [aj 5 A (.at 4),.tup [.str "come",.str av]]=.ok (if aJ.contains av=true then .str "known"else .bK):=by
 show dn (f'.1 [.sh (aj 5 A (.at 4)),.sh (.tup [.str "come",.str av]),.no,.no,.no])=_;unfold f';have i0:eJ (.tup [.str "come",.str av]) (.int 0)=.ok (.str "come"):=rfl;have i1:eJ (.tup [.str "come",.str av]) (.int 1)=.ok (.str av):=rfl;simp only[ev,cN,i0,i1,bW,bX,bA,m.R8 (n:=3),uW];cases aJ.contains av<;>rfl
theorem Al{c0:Str}(m:dJ A aJ c6)(h:bF A j ks kb ka rows aW stays aZ asked d v p)(hj:c6.lookup b9=some j)(hw:c0="found"\/c0="enter"\/c0="leave"):
  gb [aj 5 A (.at 4),.tup [.str c0,.str av,.str b9]]=.ok (if aJ.contains av=false then .str "no person"else if c0="found"then .str "known"else if c0="enter"then(if(aW.lookup av).isSome=true then .str "known"else if aZ.contains av=true then .str "barred"else if d="asked"/\asked.contains av=false then .str "not asked"else .bK)else if(aW.lookup av).isSome=true then .bK else .str "not in"):=by
 show dn (f'.1 [.sh (aj 5 A (.at 4)),.sh (.tup [.str c0,.str av,.str b9]),.no,.no,.no])=_;unfold f';have i0:eJ (.tup [.str c0,.str av,.str b9]) (.int 0)=.ok (.str c0):=rfl;have i1:eJ (.tup [.str c0,.str av,.str b9]) (.int 1)=.ok (.str av):=rfl;have i2:eJ (.tup [.str c0,.str av,.str b9]) (.int 2)=.ok (.str b9):=rfl;have n1:(c0==Str.ofString "come")=false:=by rcases hw with rfl|rfl|rfl<;>decide+kernel
 have n2:SK (.str c0) (.tup [.str "ask",.str "role",.str "out",.str "bar",.str "unbar"])=.ok (.bl false):=by rcases hw with rfl|rfl|rfl<;>rfl
 have n3:SK (.str c0) (.tup [.str "say",.str "mend",.str "take_back"])=.ok (.bl false):=by rcases hw with rfl|rfl|rfl<;>rfl
 have l1:∀a,Iq (.ok [a])=.ok (.lst [a]):=fun _=>rfl;have a1:zk (.lst [.str av]) (.lst [])=.ok (.lst [.str av]):=rfl;have tr:∀x:Bool,ky (.lst (((if x then[av]else[]):List Str).map .str))=.ok x:=fun x=>by cases x<;>rfl
 have t3:aj 3 A (.at j)=.bo (dP (aj 2 A) (BS j ks kb ka d v p)):=gx h.o;simp only[ev,cN,i0,i1,i2,bW,bX,n1,l1,J7];rw[mr (BR:=[.sh (.tup [.str c0,.str av,.str b9]),.sh (.str c0)]) (fun _:Unit=>false) (fun _=>.int 3) (fun _=>.bK) (xs:=[()]) (by rfl) (by decide) rfl (fun _ _=>by simp only[ev,cN,n2]) (fun _ _ e=>by cases e)];simp only[qZ,List.filter_nil,cu,bw,dQ,a1,ev,cN,J7,bW,bX];rw[tU (ns:=[av]) (BR:=[.sh (aj 5 A (.at 4))]) (fun z=>!aJ.contains z) (by rfl) (by show 1<=d7;decide) rfl (fun _=>rfl) ?hC]
 case hC=>intro z _;simp only[ev,cN,m.R8 (n:=3),BU]
 have tf:ky (.lst ((List.filter (fun z=>!aJ.contains z) [av]).map .str))=.ok (!aJ.contains av):=by
  rw[qZ,List.filter_nil];exact tr _
 simp only[ev,cN,tf];cases hp:aJ.contains av with
 |false=>simp only[iX,ev,bB]
 |true=>
  simp only[eX,ev,cN,i1,i2,m.M' (n:=3),Ka,hj,cW,q_,bW,bX,qU,bw];rcases hw with rfl|rfl|rfl
  ·simp only[bA,ev,cN,t3,Na,bB]
  ·have s1:(Str.ofString "enter"==Str.ofString "found")=false:=by decide+kernel
   have s2:¬(Str.ofString "enter"=Str.ofString "found"):=by decide+kernel
   simp only[s1,s2,ev,cN,bw,bA,bB];rw[show Ga (aj 3 A (.at j)) .bK=.ok (.bl false) by rw[t3];rfl];simp only[ev,cN,i1,bA,h.J9 (n:=1),du,kU];cases(aW.lookup av).isSome with
   |true=>simp only[ev,cN,bB]
   |false=>
    simp only[ev,cN,i1,h.WA (n:=1),uW,cu,bw];cases aZ.contains av with
    |true=>simp only[ev,cN,bB]
    |false=>
     simp only[ev,cN,i1,h.R4 (n:=1),h.a_d (n:=2),BU,cu,bw];by_cases hd:d="asked"
     ·subst hd;simp only[bA,ev,cN,true_and];cases asked.contains av<;>rfl
     ·have:(d==Str.ofString "asked")=false:=by simpa using hd
      simp only[this,ev,cN,hd,false_and,bw]
  ·have s1:(Str.ofString "leave"==Str.ofString "found")=false:=by decide+kernel
   have s2:¬(Str.ofString "leave"=Str.ofString "found"):=by decide+kernel
   have s3:(Str.ofString "leave"==Str.ofString "enter")=false:=by decide+kernel
   have s4:¬(Str.ofString "leave"=Str.ofString "enter"):=by decide+kernel
   simp only[s1,s2,s3,s4,ev,cN,bw];rw[show Ga (aj 3 A (.at j)) .bK=.ok (.bl false) by rw[t3];rfl];simp only[ev,cN,i1,s3,h.J9 (n:=1),du,kU];cases(aW.lookup av).isSome with
   |true=>simp only[eX,ev,cN,n3,bA,bB]
   |false=>simp only[iX,ev,cN,cu,bw]
end
section
variable {A A0 A1 A2:Ab}{aJ:List Str}{j:Nat}{b9:Str}
theorem Nz(m:dJ A aJ c6)(hl:aJ.length<d7):oQ [.at 4,.tup [.str "come",.str av]] A=.ok .bK (A.set 5 (.lst ((aJ++[av]).map .str))):=by
 show cx (iD.1 [.sh (.at 4),.sh (.tup [.str "come",.str av]),.no,.no,.no] A)=_;unfold iD;have sl:GR (.ok (.tup [.str "come",.str av])) (.ok none) (SM (.ok (.int 2)))=.ok (.tup [.str "come",.str av]):=rfl;have ef:∀A,pL (.ok (.tup [.str "come",.str av])) A=.ok (.tup [.str "come",.str av]) A:=fun A=>rfl;have gt:∀A,IJ (gT [2,3]) (.ok (.tup [.str "come",.str av]) A) [.sh (.at 4),.sh (.tup [.str "come",.str av]),.no,.no,.no]=.ok (.nx [.sh (.at 4),.sh (.tup [.str "come",.str av]),.sh (.str "come"),.sh (.str av),.no]) A:=fun A=>rfl;have ea:=zQ (t:=.str av) m.pe (by rw[aC];exact hl);rw[show aJ.map Tr.str++[.str av]=(aJ++[av]).map .str by rw[cP];rfl]at ea;simp only[ev,cN,iL,jl,sl,ef,gt,bA,ke,m.aao,zP m.pe,ea]
theorem KC(m:dJ A aJ c6)(hj:c6.lookup b9=some j)(q1:t6 [.at j,.str av,.str "enter"] A=.ok .bK A1)(q2:pD [.at j] A1=.ok .bK A2):oQ [.at 4,.tup [.str "enter",.str av,.str b9]] A=.ok .bK A2:=by
 show cx (iD.1 [.sh (.at 4),.sh (.tup [.str "enter",.str av,.str b9]),.no,.no,.no] A)=_;unfold iD;have sl:GR (.ok (.tup [.str "enter",.str av,.str b9])) (.ok none) (SM (.ok (.int 2)))=.ok (.tup [.str "enter",.str av]):=rfl;have ef:∀A,pL (.ok (.tup [.str "enter",.str av])) A=.ok (.tup [.str "enter",.str av]) A:=fun A=>rfl;have gt:∀A,IJ (gT [2,3]) (.ok (.tup [.str "enter",.str av]) A) [.sh (.at 4),.sh (.tup [.str "enter",.str av,.str b9]),.no,.no,.no]=.ok (.nx [.sh (.at 4),.sh (.tup [.str "enter",.str av,.str b9]),.sh (.str "enter"),.sh (.str av),.no]) A:=fun A=>rfl;have i2:eJ (.tup [.str "enter",.str av,.str b9]) (.int 2)=.ok (.str b9):=rfl;have s1:(Str.ofString "enter"==Str.ofString "come")=false:=by decide+kernel
 have s2:(Str.ofString "enter"==Str.ofString "found")=false:=by decide+kernel
 have s3:(Str.ofString "enter"==Str.ofString "say")=false:=by decide+kernel
 simp only[ev,cN,iL,jl,sl,ef,gt,s1,s2,s3,i2,ke,m.WC,zS m.rs,dA,hj,cW,mM,bW,bX,bA,q1,q2]
theorem KD{n:Int}(m:dJ A aJ c6)(hj:c6.lookup b9=some j)(q0:Ai [.at j,.str av,.tup [.str "leave"]] A=.ok (.int n) A0)(q1:xl [.at j,.str av,.int n] A0=.ok .bK A1)(q2:pD [.at j] A1=.ok .bK A2):oQ [.at 4,.tup [.str "leave",.str av,.str b9]] A=.ok .bK A2:=by
 show cx (iD.1 [.sh (.at 4),.sh (.tup [.str "leave",.str av,.str b9]),.no,.no,.no] A)=_;unfold iD;have sl:GR (.ok (.tup [.str "leave",.str av,.str b9])) (.ok none) (SM (.ok (.int 2)))=.ok (.tup [.str "leave",.str av]):=rfl;have ef:∀A,pL (.ok (.tup [.str "leave",.str av])) A=.ok (.tup [.str "leave",.str av]) A:=fun A=>rfl;have eg:∀A,pL (.ok (.tup [.str "leave"])) A=.ok (.tup [.str "leave"]) A:=fun A=>rfl;have gt:∀A,IJ (gT [2,3]) (.ok (.tup [.str "leave",.str av]) A) [.sh (.at 4),.sh (.tup [.str "leave",.str av,.str b9]),.no,.no,.no]=.ok (.nx [.sh (.at 4),.sh (.tup [.str "leave",.str av,.str b9]),.sh (.str "leave"),.sh (.str av),.no]) A:=fun A=>rfl;have i2:eJ (.tup [.str "leave",.str av,.str b9]) (.int 2)=.ok (.str b9):=rfl;have s1:(Str.ofString "leave"==Str.ofString "come")=false:=by decide+kernel
 have s2:(Str.ofString "leave"==Str.ofString "found")=false:=by decide+kernel
 have s3:(Str.ofString "leave"==Str.ofString "say")=false:=by decide+kernel
 have s4:(Str.ofString "leave"==Str.ofString "enter")=false:=by decide+kernel
 simp only[ev,cN,iL,jl,sl,ef,eg,gt,s1,s2,s3,s4,i2,ke,m.WC,zS m.rs,dA,hj,cW,mM,bW,bX,bA,q0,q1,q2]
theorem XU{X:Rz Tr}{G:aQ->Ab->Rz Out}:cx (Bf (Gd X) G)=X:=by cases X<;>rfl
theorem Fw(h:bG A aA a9):iE [.at 0,.tup [.str "come",.str av]] A=kg [.at 0,.str av] A:=by
 show cx (fB.1 [.sh (.at 0),.sh (.tup [.str "come",.str av]),.no] A)=_;unfold fB;have i0:eJ (.tup [.str "come",.str av]) (.int 0)=.ok (.str "come"):=rfl;have i1:eJ (.tup [.str "come",.str av]) (.int 1)=.ok (.str av):=rfl;simp only[ev,cN,iL,jl,i0,i1,bW,bX,bA,h.call (m:="come") rfl,XU]
theorem KG(h:bG A aA a9):iE [.at 0,.tup [.str "found",.str av,.str b9]] A=mH [.at 0,.str av,.str b9] A:=by
 show cx (fB.1 [.sh (.at 0),.sh (.tup [.str "found",.str av,.str b9]),.no] A)=_;unfold fB;have i0:eJ (.tup [.str "found",.str av,.str b9]) (.int 0)=.ok (.str "found"):=rfl;have i1:eJ (.tup [.str "found",.str av,.str b9]) (.int 1)=.ok (.str av):=rfl;have i2:eJ (.tup [.str "found",.str av,.str b9]) (.int 2)=.ok (.str b9):=rfl;have s1:(Str.ofString "found"==Str.ofString "come")=false:=by decide+kernel
 simp only[ev,cN,iL,jl,i0,i1,i2,s1,bW,bX,bA,h.call (m:="found") rfl,XU]
theorem Co(h:bG A aA a9):iE [.at 0,.tup [.str "enter",.str av,.str b9]] A=mI [.at 0,.str av,.str b9] A:=by
 show cx (fB.1 [.sh (.at 0),.sh (.tup [.str "enter",.str av,.str b9]),.no] A)=_;unfold fB;have i0:eJ (.tup [.str "enter",.str av,.str b9]) (.int 0)=.ok (.str "enter"):=rfl;have i1:eJ (.tup [.str "enter",.str av,.str b9]) (.int 1)=.ok (.str av):=rfl;have i2:eJ (.tup [.str "enter",.str av,.str b9]) (.int 2)=.ok (.str b9):=rfl;have s1:(Str.ofString "enter"==Str.ofString "come")=false:=by decide+kernel
 have s2:(Str.ofString "enter"==Str.ofString "found")=false:=by decide+kernel
 simp only[ev,cN,iL,jl,i0,i1,i2,s1,s2,bW,bX,bA,h.call (m:="enter") rfl,XU]
theorem Cp(h:bG A aA a9):iE [.at 0,.tup [.str "leave",.str av,.str b9]] A=mJ [.at 0,.str av,.str b9] A:=by
 show cx (fB.1 [.sh (.at 0),.sh (.tup [.str "leave",.str av,.str b9]),.no] A)=_;unfold fB;have i0:eJ (.tup [.str "leave",.str av,.str b9]) (.int 0)=.ok (.str "leave"):=rfl;have i1:eJ (.tup [.str "leave",.str av,.str b9]) (.int 1)=.ok (.str av):=rfl;have i2:eJ (.tup [.str "leave",.str av,.str b9]) (.int 2)=.ok (.str b9):=rfl;have s1:(Str.ofString "leave"==Str.ofString "come")=false:=by decide+kernel
 have s2:(Str.ofString "leave"==Str.ofString "found")=false:=by decide+kernel
 have s3:(Str.ofString "leave"==Str.ofString "enter")=false:=by decide+kernel
 simp only[ev,cN,iL,jl,i0,i1,i2,s1,s2,s3,bW,bX,bA,h.call (m:="leave") rfl,XU]
variable {ts:List Tr}{x w:Str}
theorem DU(q:iE [.at 0,.tup ts] A=.ok .bK A1):oR [.at 0,.tup ts] A=.ok .bK A1:=by
 show cx (lQ.1 [.sh (.at 0),.sh (.tup ts),.no,.no,.no] A)=_;unfold lQ;have tz:∀o A G,Dv 5 4 ["Known","NoPerson","NoRoom","NotIn","NotAsked","Barred","NoRight","NoRow","NoHand","NoLine"] (.ok o A) G=.ok o A:=fun _ _ _=>rfl;have ic:Ga .bK .bK=.ok (.bl true):=rfl;simp only[ev,cN,iL,jl,bW,bX,q,tz,ic]
theorem NA(q:iE [.at 0,.tup ts] A=.exc (.str x) A)(hx:(["Known","NoPerson","NoRoom","NotIn","NotAsked","Barred","NoRight","NoRow","NoHand","NoLine"]:List Str).contains x=true)(hw:xk [.yf x]=.ok (.str w)):oR [.at 0,.tup ts] A=.ok (.str w) (A++[.Ar x]):=by
 show cx (lQ.1 [.sh (.at 0),.sh (.tup ts),.no,.no,.no] A)=_;unfold lQ;have tz:∀A:Ab,Dv 5 4 ["Known","NoPerson","NoRoom","NotIn","NotAsked","Barred","NoRight","NoRow","NoHand","NoLine"] (.exc (.str x) A) (fun Y A=>xK 2 (fy (cq Y 4) A) Y)=.ok (.nx [.no,.no,.sh (.at A.length),.no,.no]) (A++[.Ar x]):=fun A=>by
  unfold Dv VR;simp only[hx,bB]
  rfl
 have t1:aj 5 (A++[Ao.Ar x]) (.at A.length)=.yf x:=by simp only[aj,pk]
 have ic:Ga (.yf x) .bK=.ok (.bl false):=rfl;simp only[ev,cN,iL,jl,bW,bX,q,tz,t1,ic,hw]
theorem NB(hr:gb [aj 5 A (.at 4),.tup ts]=.ok (.str w))(ht:oR [.at 0,.tup ts] A=.ok (.str w) A1)(hs:cC 5 [.str w,.str w]=.ok (.bl true)):dM [.at 0,.at 4,.tup ts] A=.ok (.bl true) A1:=by
 show cx (lR.1 [.sh (.at 0),.sh (.at 4),.sh (.tup ts),.no] A)=_;unfold lR;have ic:Ga (.str w) .bK=.ok (.bl false):=rfl;simp only[ev,cN,iL,jl,bW,bX,hr,ic,ht,hs]
theorem Am(hr:gb [aj 5 A (.at 4),.tup ts]=.ok .bK)(hd:oQ [.at 4,.tup ts] A=.ok .bK A1)(ht:oR [.at 0,.tup ts] A1=.ok .bK A2):dM [.at 0,.at 4,.tup ts] A=.ok (.bl true) A2:=by
 show cx (lR.1 [.sh (.at 0),.sh (.at 4),.sh (.tup ts),.no] A)=_;unfold lR;have ic:Ga .bK .bK=.ok (.bl true):=rfl;have hs:cC 5 [.bK,.bK]=.ok (.bl true):=rfl;simp only[ev,cN,iL,jl,bW,bX,hr,ic,hd,ht,hs]
end
structure Dat where
 rows:List Tr
 ai:List (Str×Str)
 ents:List (Str×Int)
 ent:Str->Int
 stays:List lJ
 aZ:List Str
 inv:List Str
 asked:List Str
 d:Str
 v:Str
 p:Str
 ks:Nat
 kb:Nat
 ka:Nat
abbrev six:List Str:=["ann","bo","cy","dee","ed","zed"]
def oU(rows:List Tr):Prop:=∀t∈rows,∃us,t=.tup us/\us.all ym=true/\us.length<=10
structure Extra(D:Dat):Prop where
 fr:oU D.rows
 ns:∀z∈D.ai.map (·.1),z∈six
 na:D.asked=[]
 ni:D.inv=[]
 nb:D.aZ=[]
abbrev NC(D:Dat):List (Str×Str):=[("door",D.d),("voice",D.v),("past",D.p)]
structure Pr(A:Ab)(i j:Nat)(D:Dat)(t:Nat):Prop where
 r:aM A i D.rows (dP .str D.ai) (dP .int D.ents) (dP .str (NC D)) (nS D.aZ) (nS D.inv)
 m:bF A j D.ks D.kb D.ka D.rows D.ai D.stays D.aZ D.asked D.d D.v D.p
 tu:mS D.rows
 rk:d8 D.ai D.ents D.ent
 op:lS D.stays=D.ai.map (·.1)
 lt:∀p∈D.ai,D.ent p.1<D.rows.length+1
 ia:∀z,D.inv.contains z=D.asked.contains z
 b1:D.rows.length<=3+2*t
 b2:D.ai.length<=3+t
 b3:D.ents.length<=3+t
 b4:D.stays.length<=3+t
 b5:D.asked.length<=t
 dj:∀k∈[j,j+1,j+2,D.ks,D.kb,D.ka],6<k/\(k<i\/i+6<k)
 hi:6<i
 ex:Extra D
theorem Fx{k:Nat}:∀{pins:List (Nat×Ao)},k∉pins.map (·.1)->pins.lookup k=none
 |[],_=>rfl
 |p::pins,h=>by
  rw[aO,aE,iq]at h;rw[bS];have:(k==p.1)=false:=by simpa using h.1
  rw[this];exact Fx h.2
theorem aM.keep {A A':Ab}{i:Nat}{rk en ch:List (Key×Tr)}{pins:List (Nat×Ao)}(h:aM A i rows rk en ch bn iv)(e:Ext A A' pins)(q:∀k∈pins.map (·.1),k<i\/i+6<k):aM A' i rows rk en ch bn iv:=by
 have n:∀k,i<=k->k<=i+6->pins.lookup k=none:=fun k h1 h2=>Fx fun hk=>by have:=q k hk;omega
 exact⟨e.same h.o (n _ (by omega) (by omega)),e.same h.lg (n _ (by omega) (by omega)),e.same h.rk (n _ (by omega) (by omega)),e.same h.en (n _ (by omega) (by omega)),e.same h.ch (n _ (by omega) (by omega)),e.same h.bn (n _ (by omega) (by omega)),e.same h.iv (n _ (by omega) (by omega))⟩
section
variable {A:Ab}{i j t:Nat}{D:Dat}
theorem Pr.fl (P:Pr A i j D t):di D.rows (dP .str D.ai) (dP .int D.ents) (dP .str (NC D)) (nS D.aZ) (nS D.inv):=⟨P.tu,S4,flI,S4,uX,uX⟩
theorem eC{n:Nat}(h:n<10000):n<d7:=cn h (by decide)
theorem Fy{α:Type}{l:List (Str×α)}{z:Str}{a:α}:(eE l z a).length<=l.length+1:=by
 unfold eE;split
 ·rw[aC];omega
 ·rw[cD];exact aN _
theorem gc.g0 {bN:List Tr}(o:gc rows ai bN bQ):bQ.map (·.1)=ai.map (·.1):=by
 cases o with
 |same _=>rfl
 |xX z g _ _=>
  obtain⟨a,r,e,_⟩:=g.ex;exact Cj (cc.mpr ⟨_,cV e,rfl⟩)
theorem gc.len {bN:List Tr}(o:gc rows ai bN bQ):rows.length<=bN.length/\bN.length<=rows.length+1/\bQ.length=ai.length:=by
 have hn:bQ.length=ai.length:=by have:=cw List.length o.g0;simpa using this
 cases o with
 |same _=>omega
 |xX z g _ _=>rw[cD];exact⟨by omega,aN _,hn⟩
theorem gc.jy {bN:List Tr}(o:gc rows ai bN bQ)(h:mS rows):mS bN:=by
 cases o with
 |same _=>exact h
 |xX z g _ _=>exact jI h
theorem Cq{bN:List Tr}{ent:Str->Int}(o:gc rows ai bN bQ)(h:∀p∈ai,ent p.1<rows.length+1):∀p∈bQ,ent p.1<bN.length+1:=fun p hp=>by
 have:p.1∈ai.map (·.1):=by rw[<-o.g0];exact fF hp
 obtain⟨q,hq,e⟩:=cc.mp this;have h1:=h q hq;have h2:=o.len.1;rw[<-e];omega
theorem xq{stays:List lJ}{a b:Int}:lS (stays++[(av,a,b,none)])=lS stays++[av]:=by
 unfold lS;rw[List.filter_append,cP];rfl
theorem t8{av:Str}{n:Int}:∀{stays:List lJ},lS (stays.map (iR av n))=(lS stays).filter fun z=>!(z==av)
 |[]=>rfl
 |s::stays=>by
  obtain⟨a,b,c,e⟩:=s;have ih:=t8 (av:=av) (n:=n) (stays:=stays);unfold lS at ih⊢;rw[aO];cases e with
  |some m=>
   have:iR av n (a,b,c,some m)=(a,b,c,some m):=by simp[iR]
   rw[this,iS (by simp),iS (by simp)];exact ih
  |none=>
   rw[jS (a:=(a,b,c,none)) (by rfl),aO];by_cases q:a=av
   ·subst q;have:iR a n (a,b,c,none)=(a,b,c,some n):=by simp[iR]
    rw[this,iS (by simp),iS (by simp)];exact ih
   ·have:iR av n (a,b,c,none)=(a,b,c,none):=by simp[iR,q]
    rw[this,jS (by rfl),aO,jS (by simpa using q),ih]
theorem qB:(kc ai av).map (·.1)=(ai.map (·.1)).filter fun z=>!(z==av):=by
 unfold kc;rw[nA];congr 1;apply qY;intro q _;show decide (q.1≠av)=!(q.1==av);by_cases h:q.1=av
 ·simp[h]
 ·simp[h]
theorem contains_filter{l:List Str}{P:Str->Bool}{z:Str}:(l.filter P).contains z=(l.contains z&&P z):=by
 rw[Bool.eq_iff_iff,eV,gj,bf,eV]
theorem qC{us:List Tr}(h:oU rows)(hu:us.all ym=true)(hl:us.length<=10):oU (rows++[.tup us]):=fun t ht=>by
 rcases dC.mp ht with ht|ht
 ·exact h t ht
 ·exact⟨us,cF.mp ht,hu,hl⟩
theorem gc.oU {bN:List Tr}(o:gc rows ai bN bQ)(h:oU rows):oU bN:=by
 cases o with
 |same _=>exact h
 |xX z g _ _=>exact qC h rfl (by show 5<=10;decide)
end
section
variable {A A':Ab}{i j t:Nat}{D:Dat}{aJ:List Str}{b9 x w:Str}{ts:List Tr}
theorem Pr.push (P:Pr A i j D t)(e:Ext A A' []):Pr A' i j D (t+1):=
 ⟨P.r.GX e,P.m.ext e fun _ _=>rfl,P.tu,P.rk,P.op,P.lt,P.ia,by have:=P.b1;omega,by have:=P.b2;omega,by have:=P.b3;omega,by have:=P.b4;omega,by have:=P.b5;omega,P.dj,P.hi,P.ex⟩
theorem sT(hr:gb [aj 5 A (.at 4),.tup ts]=.ok (.str w))(hc:iE [.at 0,.tup ts] A=.exc (.str x) A)(hx:(["Known","NoPerson","NoRoom","NotIn","NotAsked","Barred","NoRight","NoRow","NoHand","NoLine"]:List Str).contains x=true)(hw:xk [.yf x]=.ok (.str w))(hs:cC 5 [.str w,.str w]=.ok (.bl true)):
  dM [.at 0,.at 4,.tup ts] A=.ok (.bl true) (A++[.Ar x]):=NB hr (NA hc hx hw) hs
def Kept(A:Ab)(D D':Dat):Prop:=∀k∈[D'.ks,D'.kb,D'.ka],k∈[D.ks,D.kb,D.ka]\/A.length<=k
theorem Kept.refl:Kept A D D:=fun _ h=>.inl h
abbrev touched(i j:Nat)(D:Dat):List Nat:=[i+1,i+2,i+3,i+6,j,j+1,j+2,D.ks]
theorem s_same(P:Pr A i j D t)(h:dM [.at 0,.at 4,.tup ts] A=.ok (.bl true) (A++[.Ar x])):
  ∃A' pins D',dM [.at 0,.at 4,.tup ts] A=.ok (.bl true) A'/\Ext A A' pins/\(∀k∈pins.map (·.1),k∈touched i j D)/\Pr A' i j D' (t+1)/\Kept A D D':=
 ⟨_,[],D,h,Ext.push,fun k hk=>by simp at hk,P.push Ext.push,Kept.refl⟩
theorem Fz(P:Pr A i j D t)(hH:bG A aA a9)(hM:dJ A aJ c6)(hi:a9.lookup b9=some i)(hj:c6.lookup b9=some j)(hp:(aA.lookup av).isSome=aJ.contains av)(hw:av.length<=1000)(h6:av∈six)(ht:t<=1000):
  ∃A' pins D',dM [.at 0,.at 4,.tup [.str "enter",.str av,.str b9]] A=.ok (.bl true) A'/\Ext A A' pins/\(∀k∈pins.map (·.1),k∈touched i j D)/\Pr A' i j D' (t+1)/\Kept A D D':=by
 have hr:=Al (av:=av) (c0:="enter") hM P.m hj (.inr (.inl rfl));have s2:¬(Str.ofString "enter"=Str.ofString "found"):=by decide+kernel
 have hF:∀{A:Ab} {rows rk en ch bn iv},aM A i rows rk en ch bn iv->mQ "Room" "enter" cL (.ok (.at i) A) (fun A=>.ok [.str av] A)=cL [.at i,.str av] A:=fun h=>by rw[h.call (m:="enter") rfl];rfl
 have hc:=(Co (av:=av) (b9:=b9) hH).trans (Ck hH hw hi (hF P.r));simp only[s2,bw,bB]at hr;cases Dk:aJ.contains av with
 |false=>
  rw[Dk]at hr hp;simp only[hp,cu,bw,bB]at hr hc;exact s_same P (sT hr hc (by decide+kernel) rfl rfl)
 |true=>
  rw[Dk]at hr hp;simp only[hp,qU,bw,bB]at hr hc;cases hk:D.ai.lookup av with
  |some r=>
   simp only[hk,gi,bB]at hr;rw[Kv P.r P.fl hw hk]at hc;exact s_same P (sT hr hc (by decide+kernel) rfl rfl)
  |none=>
   simp only[hk,l0,cu,bw]at hr;cases hb:D.aZ.contains av with
   |true=>
    simp only[hb,bB]at hr;rw[Kw (r:=.bl true) P.r P.fl hw hk (by rw[zT,hb];rfl)]at hc;exact s_same P (sT hr hc (by decide+kernel) rfl rfl)
   |false=>
    simp only[hb,cu,bw]at hr;have hbn:dt (nS D.aZ) (.inr av)=none:=by rw[zT,hb];rfl
    by_cases hd:D.d="asked"/\D.asked.contains av=false
    ·rw[ag hd]at hr;have hv:dt (nS D.inv) (.inr av)=none:=by rw[zT,P.ia,hd.2];rfl
     rw[Kx P.r P.fl hw hk hbn (show(NC D).lookup ("door":Str)=_ by show some D.d=_;rw[hd.1]) hv]at hc;exact s_same P (sT hr hc (by decide+kernel) rfl rfl)
    ·rw[ak hd]at hr
     clear hc
     have b1:=P.b1;have b2:=P.b2;have b3:=P.b3;have b4:=P.b4;have b5:=P.b5;obtain⟨A1,S5,f1,q1,le1,x1,m1⟩:=Kz (av:=av) (c0:="enter") P.m P.tu (eC (by omega)) (eC (by omega)) (eC (by omega)) (cQ (eC (by omega)));have WH:=P.rk.enter (av:=av) (n:=D.rows.length+1) (r:="guest") hk P.lt hw (by decide+kernel);have hnm:(eE D.ai av "guest").map (·.1)=D.ai.map (·.1)++[av]:=by rw[oS hk,cP];rfl
     have pl:=Fy (l:=D.ai) (z:=av) (a:=("guest":Str));obtain⟨A2,bN,bQ,q2,o2,x2,m2⟩:=Cn m1 (jI P.tu) WH (by rw[xq,P.op,hnm]) (by rw[cD];exact eC (by show D.rows.length+1<_;omega)) (by rw[cD];exact cQ (eC (by show D.stays.length+1<_;omega))) (eC (by omega));have Hb:=x1.trans x2;have dj:=P.dj;have hi6:=P.hi;have e1:=dj j (by simp);have e2:=dj (j+1) (by simp);have e3:=dj (j+2) (by simp);have e4:=dj D.ks (by simp);have e5:=dj D.kb (by simp);have e6:=dj D.ka (by simp);have r2:=aM.keep P.r Hb (by
      intro k hk;simp only[cP,aO,dQ,g9,gm,aE,a_,ba]at hk;omega)
     have lk:∀k,k<=6->List.lookup k ([(j+1,Ao.lst bN),(j+2,Ao.bo (dP .str bQ))]++[(j,.bo (dP id (BS j D.ks D.kb S5 D.d D.v D.p))),(j+2,.bo (dP .str (eE D.ai av "guest"))),(D.ks,.lst ((D.stays++[(av,f1,(D.rows.length+1:Int),none)]).map uu)),(j+1,.lst (D.rows++[mK D.rows av "enter" []]))])=none:=fun k hk=>Fx (by
      simp only[cP,aO,dQ,g9,gm,aE,a_,ba];omega)
     have WI:=hH.GX Hb (lk 0 (by omega)) (lk 1 (by omega)) (lk 2 (by omega));obtain⟨A3,WJ,Sd,q3,o3,x3,r3⟩:=Nr (av:=av) (d:=D.d) r2 P.fl P.rk P.lt (eC (by omega)) (eC (by omega)) (eC (by omega)) hw hk hbn rfl (by
      by_cases h9:D.d="asked"
      ·right;rw[zT,P.ia];cases h8:D.asked.contains av with
       |true=>rfl
       |false=>exact absurd ⟨h9,h8⟩ hd
      ·exact .inl h9)
     obtain⟨rfl,rfl⟩:=o2.one o3;have hc:=(Co (av:=av) (b9:=b9) WI).trans (Ck WI hw hi (hF r2));rw[hp,ag rfl,q3]at hc;have ol:=o2.len;rw[cD]at ol;have ol1:D.rows.length+1<=bN.length:=ol.1;have ol2:bN.length<=D.rows.length+1+1:=ol.2.1;have m3:=m2.ext x3 (fun k hk=>Fx (by
      simp only[cP,aO,dQ,g9,gm,aE,a_,ba]at hk⊢;have l1:=dB r2.o;have l2:=dB r2.iv;have l3:=dB P.r.iv;omega))
     rw[M_]at r3;refine⟨A3,_,⟨bN,bQ,eE D.ents av (D.rows.length+1),fun z=>if z=av then D.rows.length+1 else D.ent z,D.stays++[(av,f1,(D.rows.length+1:Int),none)],D.aZ,D.inv.filter fun z=>!(z==av),D.asked.filter fun z=>!(z==av),D.d,D.v,D.p,D.ks,D.kb,S5⟩,Am hr (KC hM hj q1 q2) (DU hc),Hb.trans x3,?_,⟨r3,m3,o2.jy (jI P.tu),o2.Ku WH,?_,?_,?_,?_,?_,?_,?_,?_,?_,hi6,o2.oU (qC P.ex.fr rfl (by show 3<=10;decide)),?_,by show D.asked.filter _=[];rw[P.ex.na];rfl,by show D.inv.filter _=[];rw[P.ex.ni];rfl,P.ex.nb⟩,?_⟩
     ·intro k hk;simp only[cP,aO,dQ,g9,gm,aE,a_,ba]at hk⊢;omega
     ·show lS (D.stays++[_])=bQ.map (·.1);rw[xq,P.op,o2.g0,hnm]
     ·refine Cq o2 fun q hq=>?_
      rw[oS hk]at hq;show(if q.1=av then(D.rows.length+1:Int)else D.ent q.1)<((D.rows++[mK D.rows av "enter" []]).length:Int)+1;rw[cD];rcases dC.mp hq with hq|hq
      ·rw[ak (lookup_none hk q hq)];have:=P.lt q hq;show D.ent q.1<((D.rows.length+1:Nat):Int)+1;omega
      ·cases cF.mp hq;rw[ag rfl];show(D.rows.length+1:Int)<((D.rows.length+1:Nat):Int)+1;omega
     ·intro z;show(D.inv.filter fun z=>!(z==av)).contains z=(D.asked.filter fun z=>!(z==av)).contains z;rw[contains_filter,contains_filter,P.ia]
     ·show bN.length<=3+2*(t+1);omega
     ·show bQ.length<=3+(t+1);have:=ol.2.2;omega
     ·show(eE D.ents av _).length<=3+(t+1);have:=Fy (l:=D.ents) (z:=av) (a:=(D.rows.length+1:Int));omega
     ·show(D.stays++[_]).length<=3+(t+1);rw[cD];show D.stays.length+1<=_;omega
     ·show(D.asked.filter _).length<=t+1;have:=qO (fun z=>!(z==av)) D.asked;omega
     ·intro k hk;have l3:=dB P.r.iv;have l4:=dB P.m.o;simp only[aE,a_,ba]at hk;omega
     ·intro z hz;have hz:z∈bQ.map (·.1):=hz;rw[o2.g0,hnm]at hz;rcases dC.mp hz with hz|hz
      ·exact P.ex.ns z hz
      ·rw[cF.mp hz];exact h6
     ·intro k hk;simp only[aE,a_,ba]at hk⊢;omega
end
section
variable {A A':Ab}{i j t:Nat}{D:Dat}{aJ:List Str}{b9 x w:Str}{ts:List Tr}
theorem FA(P:Pr A i j D t)(hH:bG A aA a9)(hM:dJ A aJ c6)(hi:a9.lookup b9=some i)(hj:c6.lookup b9=some j)(hp:(aA.lookup av).isSome=aJ.contains av)(hw:av.length<=1000)(ht:t<=1000):
  ∃A' pins D',dM [.at 0,.at 4,.tup [.str "leave",.str av,.str b9]] A=.ok (.bl true) A'/\Ext A A' pins/\(∀k∈pins.map (·.1),k∈touched i j D)/\Pr A' i j D' (t+1)/\Kept A D D':=by
 have hr:=Al (av:=av) (c0:="leave") hM P.m hj (.inr (.inr rfl));have s2:¬(Str.ofString "leave"=Str.ofString "found"):=by decide+kernel
 have s3:¬(Str.ofString "leave"=Str.ofString "enter"):=by decide+kernel
 have hF:∀{A:Ab} {rows rk en ch bn iv},aM A i rows rk en ch bn iv->mQ "Room" "leave" dr (.ok (.at i) A) (fun A=>.ok [.str av] A)=dr [.at i,.str av] A:=fun h=>by rw[h.call (m:="leave") rfl];rfl
 have hc:=(Cp (av:=av) (b9:=b9) hH).trans (Cm hH hw hi (hF P.r));simp only[s2,s3,bw]at hr;cases Dk:aJ.contains av with
 |false=>
  rw[Dk]at hr hp;simp only[hp,cu,bw,bB]at hr hc;exact s_same P (sT hr hc (by decide+kernel) rfl rfl)
 |true=>
  rw[Dk]at hr hp;simp only[hp,qU,bw,bB]at hr hc;cases hk:D.ai.lookup av with
  |none=>
   simp only[hk,l0,cu,bw]at hr;rw[Ky P.r P.fl hw hk]at hc;exact s_same P (sT hr hc (by decide+kernel) rfl rfl)
  |some r=>
   simp only[hk,gi,bB]at hr
   clear hc
   have b1:=P.b1;have b2:=P.b2;have b3:=P.b3;have b4:=P.b4;have b5:=P.b5;have q0:=DT (av:=av) (ps:=[.str "leave"]) P.m P.tu (eC (by omega)) (by show 2+1<=d7;decide) rfl;have x0:=Ext.put (o:=.lst (D.rows++[mK D.rows av "leave" []])) P.m.rw;have m0:=P.m.M8 x0;obtain⟨A1,WG,q1,le1,x1,m1⟩:=Nx (av:=av) (n:=D.rows.length+1) m0 (cQ (eC (by omega))) hk;have WH:=P.rk.leave (av:=av);have dl:=qO (fun p:Str×Str=>decide (p.1≠av)) D.ai;obtain⟨A2,bN,bQ,q2,o2,x2,m2⟩:=Cn m1 (jI P.tu) WH (by rw[t8,P.op,qB]) (by rw[cD];exact eC (by show D.rows.length+1<_;omega)) (by rw[aC];exact cQ (eC (by omega))) (eC (by show(D.ai.filter _).length<_;omega));have Hb:=(x0.trans x1).trans x2;have le0:=x0.le;have dj:=P.dj;have hi6:=P.hi;have e1:=dj j (by simp);have e2:=dj (j+1) (by simp);have e3:=dj (j+2) (by simp);have e4:=dj D.ks (by simp);have e5:=dj D.kb (by simp);have e6:=dj D.ka (by simp);have r2:=aM.keep P.r Hb (by
    intro k hk;simp only[cP,aO,dQ,g9,gm,aE,a_,ba]at hk;omega)
   have WI:=hH.GX Hb (Fx (by simp only[cP,aO,dQ,g9,gm,aE,a_,ba];omega)) (Fx (by simp only[cP,aO,dQ,g9,gm,aE,a_,ba];omega)) (Fx (by simp only[cP,aO,dQ,g9,gm,aE,a_,ba];omega));obtain⟨A3,WJ,Sd,q3,o3,x3,r3⟩:=Nt (av:=av) r2 P.fl P.rk (eC (by omega)) (eC (by omega)) hw hk;obtain⟨rfl,rfl⟩:=o2.one o3;have hc:=(Cp (av:=av) (b9:=b9) WI).trans (Cm WI hw hi (hF r2));rw[hp,ag rfl,q3]at hc;have ol:=o2.len;rw[cD]at ol;have ol1:D.rows.length+1<=bN.length:=ol.1;have ol2:bN.length<=D.rows.length+1+1:=ol.2.1;have ol3:bQ.length=(D.ai.filter fun p=>decide (p.1≠av)).length:=ol.2.2;have l3:=dB P.r.iv;have l4:=dB P.m.o;have m3:=m2.ext x3 (fun k hk=>Fx (by
    simp only[cP,aO,dQ,g9,gm,aE,a_,ba]at hk⊢;omega))
   refine⟨A3,_,⟨bN,bQ,D.ents,D.ent,D.stays.map (iR av (D.rows.length+1)),D.aZ,D.inv,D.asked,D.d,D.v,D.p,WG,D.kb,D.ka⟩,Am hr (KD hM hj q0 q1 q2) (DU hc),Hb.trans x3,?_,⟨r3,m3,o2.jy (jI P.tu),o2.Ku WH,?_,?_,P.ia,?_,?_,?_,?_,?_,?_,hi6,o2.oU (qC P.ex.fr rfl (by show 3<=10;decide)),?_,P.ex.na,P.ex.ni,P.ex.nb⟩,?_⟩
   ·intro k hk;simp only[cP,aO,dQ,g9,gm,aE,a_,ba]at hk⊢;omega
   ·show lS (D.stays.map _)=bQ.map (·.1);rw[t8,P.op,o2.g0,qB]
   ·refine Cq o2 fun q hq=>?_
    have:=P.lt q ((List.filter_sublist (l:=D.ai)).subset hq);rw[cD];show D.ent q.1<((D.rows.length+1:Nat):Int)+1;omega
   ·show bN.length<=3+2*(t+1);omega
   ·show bQ.length<=3+(t+1);omega
   ·show D.ents.length<=3+(t+1);omega
   ·show(D.stays.map _).length<=3+(t+1);rw[aC];omega
   ·show D.asked.length<=t+1;omega
   ·intro k hk;simp only[aE,a_,ba]at hk;omega
   ·intro z hz;have hz:z∈bQ.map (·.1):=hz;rw[o2.g0,qB]at hz;exact P.ex.ns z (gj.mp hz).1
   ·intro k hk;simp only[aE,a_,ba]at hk⊢;omega
theorem qD{α:Type}{z:Str}:∀{l:List (Str×α)},(l.lookup z).isSome=(l.map (·.1)).contains z
 |[]=>rfl
 |q::l=>by
  rw[bS,aO,List.contains_cons];cases e:(z==q.1)with
  |true=>rfl
  |false=>rw[lj];exact qD
theorem FC(hH:bG A aA a9)(hM:dJ A aJ c6)(P:Pr A i j D t)(hi:a9.lookup b9=some i)(hj:c6.lookup b9=some j)(hp:(aA.lookup av).isSome=aJ.contains av)(hw:av.length<=1000)(WE:b9.length<=1000):
  ∃x,dM [.at 0,.at 4,.tup [.str "found",.str av,.str b9]] A=.ok (.bl true) (A++[.Ar x]):=by
 have hr:=Al (av:=av) (c0:="found") hM P.m hj (.inl rfl);have hc:=(KG (av:=av) (b9:=b9) hH).trans (Nw hH hw WE hi);rw[hp]at hc;cases Dk:aJ.contains av with
 |false=>
  simp only[Dk,cu,bw,bB]at hr hc;exact⟨_,sT hr hc (by decide+kernel) rfl rfl⟩
 |true=>
  simp only[Dk,qU,bw,bB]at hr hc;exact⟨_,sT hr hc (by decide+kernel) rfl rfl⟩
theorem Se(hH:bG A aA a9)(hM:dJ A aJ c6)(hp:aA.map (·.1)=aJ)(hw:av.length<=1000)(hl:aJ.length<10000):
  ∃A' pins sU pF,dM [.at 0,.at 4,.tup [.str "come",.str av]] A=.ok (.bl true) A'/\Ext A A' pins/\(∀k∈pins.map (·.1),k=1\/k=5)/\bG A' sU a9/\dJ A' pF c6/\sU.map (·.1)=pF/\pF.length<=aJ.length+1/\(∀z∈pF,z=av\/z∈aJ):=by
 have hr:=Ny (av:=av) hM;have hc:=Fw (av:=av) hH;have WK:(aA.lookup av).isSome=aJ.contains av:=by rw[qD,hp]
 cases Dk:aJ.contains av with
 |true=>
  rw[Dk]at hr WK;obtain⟨b,hb⟩:=u5.mp WK;rw[Nv hH hw hb]at hc;simp only[bB]at hr;exact⟨_,[],aA,aJ,sT hr hc (by decide+kernel) rfl rfl,Ext.push,fun k hk=>by simp at hk,hH.GX Ext.push rfl rfl rfl,hM.GX Ext.push rfl rfl rfl,hp,by omega,fun z hz=>.inr hz⟩
 |false=>
  rw[Dk]at hr WK;simp only[cu,bw]at hr;have hn:aA.lookup av=none:=by cases e:aA.lookup av with
   |none=>rfl
   |some b=>rw[e]at WK;cases WK
  have mL:aA.length=aJ.length:=by rw[<-hp,aC]
  have x1:=Ext.put (o:=.lst ((aJ++[av]).map .str)) hM.pe;have XW:=hH.GX x1 (gQ (by decide)) (gQ (by decide)) (gQ (by decide));have x2:=Ext.put (o:=.bo (dP .bl (eE aA av true))) XW.ps;have W7:=(Fw (av:=av) XW).trans (Sb XW hn (eC (by omega)));have Hb:=x1.trans x2;refine⟨_,_,eE aA av true,aJ++[av],Am hr (Nz hM (eC hl)) (DU W7),Hb,fun k hk=>?_,⟨Hb.same hH.o (Fx (by simp)),x2.new XW.ps J4,Hb.same hH.pl (Fx (by simp))⟩,⟨Hb.same hM.o (Fx (by simp)),x2.same (x1.new hM.pe J4) (gQ (by decide)),Hb.same hM.rs (Fx (by simp))⟩,?_,by rw[cD];exact aN _,fun z hz=>?_⟩
  ·simpa using hk
  ·rw[oS hn,cP,hp];rfl
  ·rcases dC.mp hz with hz|hz
   ·exact .inr hz
   ·exact .inl (cF.mp hz)
theorem Pr.keep {pins:List (Nat×Ao)}(P:Pr A i j D t)(e:Ext A A' pins)(q:∀k∈pins.map (·.1),(k<i\/i+6<k)/\k∉[j,j+1,j+2,D.ks,D.kb,D.ka]):Pr A' i j D (t+1):=
 ⟨aM.keep P.r e fun k hk=>(q k hk).1,P.m.ext e fun k hk=>Fx fun h=>(q k h).2 hk,P.tu,P.rk,P.op,P.lt,P.ia,by have:=P.b1;omega,by have:=P.b2;omega,by have:=P.b3;omega,by have:=P.b4;omega,by have:=P.b5;omega,P.dj,P.hi,P.ex⟩
end
def mix(c p m:Int):Int:=(c*48271 % p)*(c*48271 % p+7) % p % m
theorem t9{c p m:Int}(hm:0<m):0<=mix c p m/\mix c p m<m:=⟨vq _ (by omega),Int.emod_lt_of_pos _ hm⟩
theorem Sf{i j:Int}(h:v5 i j):xJ (.int i) (.int j)=.ok (.int (i*j)):=ag h
theorem Sg{i j:Int}(h:0<j):s_ (.int i) (.int j)=.ok (.int (i % j)):=ag h
theorem xr(c p m:Int)(hp:0<p)(Po:p<=1048576)(hm:0<m):Ft [.int c,.int p,.int m]=.ok (.int (mix c p m)):=by
 have b0:0<=c*48271 % p:=vq _ (by omega);have b1:c*48271 % p<p:=Int.emod_lt_of_pos _ hp;show dn (pK (xG 3 (j7 s_ (xJ (.int c) (.int 48271)) (.ok (.int p))) [.sh (.int c),.sh (.int p),.sh (.int m),.no]) fun Y=>qd (j7 s_ (j7 s_ (j7 xJ (cq Y 3) (j7 zk (cq Y 3) (Rs.ok (.int 7)))) (cq Y 1)) (cq Y 2)))=_;have q1:xJ (.int c) (.int 48271)=.ok (.int (c*48271)):=ag (.inr ⟨by decide,by decide⟩);rw[q1];have q2:j7 s_ (.ok (.int (c*48271))) (.ok (.int p))=.ok (.int (c*48271 % p)):=ag hp;rw[q2];show dn (qd (j7 s_ (j7 s_ (xJ (.int (c*48271 % p)) (.int (c*48271 % p+7))) (.ok (.int p))) (.ok (.int m))))=_;have q3:xJ (.int (c*48271 % p)) (.int (c*48271 % p+7))=.ok (.int ((c*48271 % p)*(c*48271 % p+7))):=ag (.inl ⟨by omega,by omega⟩);rw[q3];have q4:j7 s_ (.ok (.int ((c*48271 % p)*(c*48271 % p+7)))) (.ok (.int p))=.ok (.int ((c*48271 % p)*(c*48271 % p+7) % p)):=ag hp;rw[q4];have q5:j7 s_ (.ok (.int ((c*48271 % p)*(c*48271 % p+7) % p))) (.ok (.int m))=.ok (.int (mix c p m)):=ag hm;rw[q5]
 rfl
theorem Si(ns:List Int)(k:Int)(h:0<=k):∃c,xm [.mY ns,.int k]=.ok (.int c):=by
 show∃c,dn (pK (F7 (.ok (decide (k<(ns.length:Int)))) (qd ((mM (L2.uy ns k)).bind fun n=>.ok (.int n))) (.ok (.nx [.sh (.mY ns),.sh (.int k)]))) fun Y=>qd (Rs.ok (.int 0)))=_;by_cases hk:k<(ns.length:Int)
 ·have hl:k.toNat<ns.length:=by omega
  have e:L2.uy ns k=some (ns[k.toNat]):=by
   have q:=Eb (xs:=ns) (j:=k.toNat) (bb hl);rw[Int.toNat_of_nonneg h]at q;exact q
  rw[g_ hk,e];exact⟨_,rfl⟩
 ·rw[d_ hk];exact⟨0,rfl⟩
theorem yY{l:List Str}{k:Int}(h0:0<=k)(h1:k<l.length):∃z∈l,eJ (.tup (l.map .str)) (.int k)=.ok (.str z):=by
 have hl:k.toNat<l.length:=by omega
 have q:=Eb (xs:=l.map Tr.str) (j:=k.toNat) (v:=.str l[k.toNat]) (by rw[bg,bb hl];rfl);rw[Int.toNat_of_nonneg h0]at q;exact⟨l[k.toNat],jt _,by show mM (L2.uy (l.map Tr.str) k)=_;rw[q];rfl⟩
abbrev An:List Str:=["ann","bo","cy","dee","ed"]
abbrev three:List Str:=["ann","bo","zed"]
abbrev four:List Str:=["come","found","enter","leave"]
abbrev rms:List Str:=["hall","hall","hall","yard"]
def DV(ts:List Tr):Prop:=(∃av:Str,av∈six/\ts=[.str "come",.str av])\/∃c0 av b9:Str,(c0="found"\/c0="enter"\/c0="leave")/\av∈six/\(b9="hall"\/b9="yard")/\ts=[.str c0,.str av,.str b9]
theorem Sj(c:Int)(T:Tr):∃ts,sQ [.int c,T,.tup (four.map .str)]=.ok (.tup ts)/\DV ts:=by
 show∃ts,dn (sP.1 [.sh (.int c),.sh T,.sh (.tup (four.map .str)),.no,.no,.no,.no,.no,.no,.no,.no,.no])=.ok (.tup ts)/\_;unfold sP;have w1:=xr c 9931 20 (by decide) (by decide) (by decide);have w25:=xr c 9929 5 (by decide) (by decide) (by decide);have w23:=xr c 9929 3 (by decide) (by decide) (by decide);have w35:=xr c 9923 5 (by decide) (by decide) (by decide);have w33:=xr c 9923 3 (by decide) (by decide) (by decide);have w4:=xr c 9907 4 (by decide) (by decide) (by decide);have w5:=xr c 9901 4 (by decide) (by decide) (by decide);have k5:(([.str "ann",.str "bo",.str "cy",.str "dee",.str "ed"]:List Tr).length:Int)=5:=rfl;have k3:(([.str "ann",.str "bo",.str "zed"]:List Tr).length:Int)=3:=rfl;have k4:(((four.map .str):List Tr).length:Int)=4:=rfl;have m4:=t9 (c:=c) (p:=9907) (m:=4) (by decide);have m5:=t9 (c:=c) (p:=9901) (m:=4) (by decide);obtain⟨b9,hr,er⟩:=yY (l:=rms) m4.1 (by exact m4.2);obtain⟨c0,hw,ew⟩:=yY (l:=four) m5.1 (by exact m5.2);have wj:b9="hall"\/b9="yard":=by simpa using hr
 have OH:c0="come"\/c0="found"\/c0="enter"\/c0="leave":=by simpa using hw
 have er':eJ (.tup [.str "hall",.str "hall",.str "hall",.str "yard"]) (.int (mix c 9907 4))=.ok (.str b9):=er;simp only[ev,cN,w1,bW,bX];cases(mix c 9931 20==0)with
 |true=>
  have p2:=t9 (c:=c) (p:=9929) (m:=3) (by decide);have p3:=t9 (c:=c) (p:=9923) (m:=3) (by decide);obtain⟨av,h6,e2⟩:=yY (l:=three) p2.1 (by exact p2.2);obtain⟨c8,h7,e3⟩:=yY (l:=three) p3.1 (by exact p3.2);have S1:eJ (.tup [.str "ann",.str "bo",.str "zed"]) (.int (mix c 9929 3))=.ok (.str av):=e2;have K2:eJ (.tup [.str "ann",.str "bo",.str "zed"]) (.int (mix c 9923 3))=.ok (.str c8):=e3;have ND:av∈six:=(by decide+kernel:∀z∈three,z∈six) av h6;simp only[ev,cN,k3,k4,w23,w33,w4,w5,S1,K2,er',ew,bW,bX];rcases OH with rfl|rfl|rfl|rfl
  ·exact⟨_,rfl,.inl ⟨av,ND,rfl⟩⟩
  ·exact⟨_,rfl,.inr ⟨_,av,b9,.inl rfl,ND,wj,rfl⟩⟩
  ·exact⟨_,rfl,.inr ⟨_,av,b9,.inr (.inl rfl),ND,wj,rfl⟩⟩
  ·exact⟨_,rfl,.inr ⟨_,av,b9,.inr (.inr rfl),ND,wj,rfl⟩⟩
 |false=>
  have p2:=t9 (c:=c) (p:=9929) (m:=5) (by decide);have p3:=t9 (c:=c) (p:=9923) (m:=5) (by decide);obtain⟨av,h6,e2⟩:=yY (l:=An) p2.1 (by exact p2.2);obtain⟨c8,h7,e3⟩:=yY (l:=An) p3.1 (by exact p3.2);have S1:eJ (.tup [.str "ann",.str "bo",.str "cy",.str "dee",.str "ed"]) (.int (mix c 9929 5))=.ok (.str av):=e2;have K2:eJ (.tup [.str "ann",.str "bo",.str "cy",.str "dee",.str "ed"]) (.int (mix c 9923 5))=.ok (.str c8):=e3;have ND:av∈six:=(by decide+kernel:∀z∈An,z∈six) av h6;simp only[ev,cN,k5,k4,w25,w35,w4,w5,S1,K2,er',ew,bW,bX];rcases OH with rfl|rfl|rfl|rfl
  ·exact⟨_,rfl,.inl ⟨av,ND,rfl⟩⟩
  ·exact⟨_,rfl,.inr ⟨_,av,b9,.inl rfl,ND,wj,rfl⟩⟩
  ·exact⟨_,rfl,.inr ⟨_,av,b9,.inr (.inl rfl),ND,wj,rfl⟩⟩
  ·exact⟨_,rfl,.inr ⟨_,av,b9,.inr (.inr rfl),ND,wj,rfl⟩⟩
section
variable {A:Ab}{i j i' j' t:Nat}{D D':Dat}{aJ:List Str}{ts:List Tr}
def kl(D:Dat)(i j:Nat):Prop:=∀k∈[D.ks,D.kb,D.ka],(k<i\/i+6<k)/\k≠j/\k≠j+1/\k≠j+2
def Apart(D D':Dat):Prop:=∀k∈[D.ks,D.kb,D.ka],k∉[D'.ks,D'.kb,D'.ka]
theorem Apart.symm (h:Apart D D'):Apart D' D:=fun k hk q=>h k q hk
theorem far(zd:(i=7/\j=16/\i'=27/\j'=36)\/(i=27/\j=36/\i'=7/\j'=16)){k:Nat}(hk:(i<=k/\k<=i+6)\/k=j\/k=j+1\/k=j+2):(k<i'\/i'+6<k)/\k≠j'/\k≠j'+1/\k≠j'+2:=by
 rcases zd with⟨rfl,rfl,rfl,rfl⟩|⟨rfl,rfl,rfl,rfl⟩<;>refine⟨?_,?_,?_,?_⟩<;>omega
theorem kl.ne (c:kl D i j){k q:Nat}(hk:(i<=k/\k<=i+6)\/k=j\/k=j+1\/k=j+2)(hq:q∈[D.ks,D.kb,D.ka]):k≠q:=fun e=>by
 have:=c q hq;omega
theorem nr{k c:Nat}(h:k=i+c)(hc:c<=6):i<=k/\k<=i+6:=by omega
theorem Ap(zd:(i=7/\j=16/\i'=27/\j'=36)\/(i=27/\j=36/\i'=7/\j'=16))(hH:bG A aA a9)(hM:dJ A aJ c6)(R1:Pr A i j D t)(R2:Pr A i' j' D' t)(c1:kl D i' j')(c2:kl D' i j)(ap:Apart D D')
  (res:∃A' pins D1,dM [.at 0,.at 4,.tup ts] A=.ok (.bl true) A'/\Ext A A' pins/\(∀k∈pins.map (·.1),k∈touched i j D)/\Pr A' i j D1 (t+1)/\Kept A D D1):
  ∃A' D1,dM [.at 0,.at 4,.tup ts] A=.ok (.bl true) A'/\bG A' aA a9/\dJ A' aJ c6/\Pr A' i j D1 (t+1)/\Pr A' i' j' D' (t+1)/\kl D1 i' j'/\kl D' i j/\Apart D1 D':=by
 obtain⟨A',pins,D1,e,x,hk,P1,kp⟩:=res;have d1:=R1.dj D.ks (by simp);have lk:∀k,k<=6->pins.lookup k=none:=fun k h6=>Fx fun q=>by
  have:=hk k q;simp only[aE,a_,ba]at this;rcases zd with⟨rfl,rfl,rfl,rfl⟩|⟨rfl,rfl,rfl,rfl⟩<;>omega
 have l1:=dB R2.m.st;have l2:=dB R2.m.br;have l3:=dB R2.m.as;have l4:=dB R2.m.rl;have l5:=dB R2.r.iv;have l6:=dB R1.m.rl;have l7:=dB R1.r.iv;have l8:=dB R2.m.o;refine⟨A',D1,e,hH.GX x (lk 0 (by omega)) (lk 1 (by omega)) (lk 2 (by omega)),hM.GX x (lk 4 (by omega)) (lk 5 (by omega)) (lk 6 (by omega)),P1,R2.keep x ?_,?_,c2,?_⟩
 ·intro k q;have go:((i<=k/\k<=i+6)\/k=j\/k=j+1\/k=j+2)->(k<i'\/i'+6<k)/\k∉[j',j'+1,j'+2,D'.ks,D'.kb,D'.ka]:=fun hk=>by
   have f:=far zd hk;have n:=fun q (hq:q∈[D'.ks,D'.kb,D'.ka])=>c2.ne hk hq;refine⟨f.1,fun m=>?_⟩;simp only[aE,a_,ba]at m n;rcases m with m|m|m|m
   ·exact f.2.1 m
   ·exact f.2.2.1 m
   ·exact f.2.2.2 m
   ·exact n k m rfl
  have h:=hk k q;simp only[aE,a_,ba]at h;rcases h with h|h|h|h|h|h|h|h
  ·exact go (.inl (nr h (by decide)))
  ·exact go (.inl (nr h (by decide)))
  ·exact go (.inl (nr h (by decide)))
  ·exact go (.inl (nr h (by decide)))
  ·exact go (.inr (.inl h))
  ·exact go (.inr (.inr (.inl h)))
  ·exact go (.inr (.inr (.inr h)))
  ·subst h;have f:=c1 D.ks (by simp);have a:=ap D.ks (by simp);refine⟨f.1,fun m=>?_⟩;simp only[aE,a_,ba]at m a;rcases m with m|m|m|m
   ·exact f.2.1 m
   ·exact f.2.2.1 m
   ·exact f.2.2.2 m
   ·exact a m
 ·intro k q;rcases kp k q with q|q
  ·exact c1 k q
  ·omega
 ·intro k q;rcases kp k q with q|q
  ·exact ap k q
  ·simp only[aE,a_,ba,iq];omega
structure S6(A:Ab)(t:Nat)(aA:List (Str×Bool))(aJ:List Str)(D1 D2:Dat):Prop where
 h:bG A aA [("hall",7),("yard",27)]
 m:dJ A aJ [("hall",16),("yard",36)]
 pp:aA.map (·.1)=aJ
 pl:aJ.length<=5+t
 p6:∀z∈aJ,z∈six
 r1:Pr A 7 16 D1 t
 r2:Pr A 27 36 D2 t
 c1:kl D1 27 36
 c2:kl D2 7 16
 ap:Apart D1 D2
def St(A:Ab)(t:Nat):Prop:=∃aA aJ D1 D2,S6 A t aA aJ D1 D2
theorem t_{z:Str}(h:z∈six):z.length<=1000:=(by decide+kernel:∀z∈six,z.length<=1000) z h
theorem S6.more {D1 D2:Dat}(s:S6 A t aA aJ D1 D2){A':Ab}(e:Ext A A' []):S6 A' (t+1) aA aJ D1 D2:=
 ⟨s.h.GX e rfl rfl rfl,s.m.GX e rfl rfl rfl,s.pp,by have:=s.pl;omega,s.p6,s.r1.push e,s.r2.push e,s.c1,s.c2,s.ap⟩
theorem step(h:St A t)(hd:DV ts)(ht:t<=1000):∃A',dM [.at 0,.at 4,.tup ts] A=.ok (.bl true) A'/\St A' (t+1):=by
 obtain⟨aA,aJ,D1,D2,s⟩:=h;have hp:∀av,(aA.lookup av).isSome=aJ.contains av:=fun av=>by rw[qD,s.pp]
 have hl:=s.pl;rcases hd with⟨av,h6,rfl⟩|⟨c0,av,b9,hw,h6,hr,rfl⟩
 ·obtain⟨A',pins,sU,pF,e,x,hk,h1,h2,h3,h4,h5⟩:=Se (av:=av) s.h s.m s.pp (t_ h6) (by omega);refine⟨A',e,sU,pF,D1,D2,h1,h2,h3,by omega,fun z hz=>?_,s.r1.keep x ?_,s.r2.keep x ?_,s.c1,s.c2,s.ap⟩
  ·rcases h5 z hz with rfl|h5
   ·exact h6
   ·exact s.p6 z h5
  ·intro k q;have:=hk k q;have a1:=s.r1.dj D1.ks (by simp);have a2:=s.r1.dj D1.kb (by simp);have a3:=s.r1.dj D1.ka (by simp);simp only[aE,a_,ba,iq];omega
  ·intro k q;have:=hk k q;have a1:=s.r2.dj D2.ks (by simp);have a2:=s.r2.dj D2.kb (by simp);have a3:=s.r2.dj D2.ka (by simp);simp only[aE,a_,ba,iq];omega
 ·have hs:=t_ h6;have o1:([("hall",7),("yard",27)]:List (Str×Nat)).lookup (Str.ofString "hall")=some 7:=by decide+kernel
  have o2:([("hall",7),("yard",27)]:List (Str×Nat)).lookup (Str.ofString "yard")=some 27:=by decide+kernel
  have o3:([("hall",16),("yard",36)]:List (Str×Nat)).lookup (Str.ofString "hall")=some 16:=by decide+kernel
  have o4:([("hall",16),("yard",36)]:List (Str×Nat)).lookup (Str.ofString "yard")=some 36:=by decide+kernel
  have fin:∀{A':Ab} {D':Dat},(bG A' aA [("hall",7),("yard",27)]/\dJ A' aJ [("hall",16),("yard",36)]/\Pr A' 7 16 D' (t+1)/\Pr A' 27 36 D2 (t+1)/\kl D' 27 36/\kl D2 7 16/\Apart D' D2)->St A' (t+1):=fun{A' D'} ⟨a1,a2,a3,a4,a5,a6,a7⟩=>⟨aA,aJ,D',D2,a1,a2,s.pp,by omega,s.p6,a3,a4,a5,a6,a7⟩;have fin2:∀{A':Ab} {D':Dat},(bG A' aA [("hall",7),("yard",27)]/\dJ A' aJ [("hall",16),("yard",36)]/\Pr A' 27 36 D' (t+1)/\Pr A' 7 16 D1 (t+1)/\kl D' 7 16/\kl D1 27 36/\Apart D' D1)->St A' (t+1):=fun{A' D'} ⟨a1,a2,a3,a4,a5,a6,a7⟩=>⟨aA,aJ,D1,D',a1,a2,s.pp,by omega,s.p6,a4,a3,a6,a5,a7.symm⟩;rcases hr with rfl|rfl
  ·rcases hw with rfl|rfl|rfl
   ·obtain⟨x,e⟩:=FC s.h s.m s.r1 o1 o3 (hp av) hs (by decide+kernel);exact⟨_,e,_,_,_,_,s.more Ext.push⟩
   ·obtain⟨A',D',e,r⟩:=Ap (.inl ⟨rfl,rfl,rfl,rfl⟩) s.h s.m s.r1 s.r2 s.c1 s.c2 s.ap (Fz s.r1 s.h s.m o1 o3 (hp av) hs h6 ht);exact⟨A',e,fin r⟩
   ·obtain⟨A',D',e,r⟩:=Ap (.inl ⟨rfl,rfl,rfl,rfl⟩) s.h s.m s.r1 s.r2 s.c1 s.c2 s.ap (FA s.r1 s.h s.m o1 o3 (hp av) hs ht);exact⟨A',e,fin r⟩
  ·rcases hw with rfl|rfl|rfl
   ·obtain⟨x,e⟩:=FC s.h s.m s.r2 o2 o4 (hp av) hs (by decide+kernel);exact⟨_,e,_,_,_,_,s.more Ext.push⟩
   ·obtain⟨A',D',e,r⟩:=Ap (.inr ⟨rfl,rfl,rfl,rfl⟩) s.h s.m s.r2 s.r1 s.c2 s.c1 s.ap.symm (Fz s.r2 s.h s.m o2 o4 (hp av) hs h6 ht);exact⟨A',e,fin2 r⟩
   ·obtain⟨A',D',e,r⟩:=Ap (.inr ⟨rfl,rfl,rfl,rfl⟩) s.h s.m s.r2 s.r1 s.c2 s.c1 s.ap.symm (FA s.r2 s.h s.m o2 o4 (hp av) hs ht);exact⟨A',e,fin2 r⟩
end
section
theorem Aq{n:Nat}{t:Tr}(h:ym t=true):cC (n+1) [t,t]=.ok (.bl true):=by
 cases t with
 |bK=>rfl
 |bl b=>cases b<;>rfl
 |int k=>show Rs.ok (Tr.bl (k==k))=_;rw[bA]
 |str z=>show Rs.ok (Tr.bl (z==z))=_;rw[bA]
 |_=>cases h
theorem KH{F:aQ->Rs Tr}:∀{ts:List Tr} {c d:Cell},(∀t∈ts,F [.sh t,.sh t]=.ok (.bl true))->C0 (gT [0,1]) (fun _=>.ok true) F (ts.map fun t=>.tup [t,t]) [c,d]=.ok (ts.map fun _=>.bl true)
 |[],_,_,_=>rfl
 |t::ts,c,d,h=>by
  show(LU (F [.sh t,.sh t])).bind (fun y=>(C0 (gT [0,1]) (fun _=>.ok true) F (ts.map fun t=>.tup [t,t]) [.sh t,.sh t]).bind fun ys=>Rs.ok (y::ys))=_;rw[h t (bR ..),KH fun u hu=>h u (bI _ hu)]
  rfl
theorem iF{n:Nat}{ts:List Tr}(hl:ts.length<=d7)(h:∀t∈ts,cC n [t,t]=.ok (.bl true)):cC (n+1) [.tup ts,.tup ts]=.ok (.bl true):=by
 show dn ((sR (cC n)).1 [.sh (.tup ts),.sh (.tup ts)])=_;unfold sR;have i1:Qd [.tup ts,.ty "tuple"]=.ok (.bl true):=rfl;have i2:ky (.bl true)=.ok true:=rfl;have i3:∀a b:Int,Hv (.int a) (.int b)=.ok (.bl (!(a==b))):=fun _ _=>rfl;have i4:Zt (.ok [.tup ts,.tup ts])=.ok (ts.map fun t=>.tup [t,t]):=by
  show(if ts.length<=ts.length then Rs.ok (Ou ts ts)else .bad)=_;rw[ag (aN _),BX]
 have i5:qF [none,none] (gT [0,1]) (fun _=>.ok true) (fun Y=>(bP (cC n) (bt (cq Y 0) (bt (cq Y 1) (.ok []))))) (.ok (ts.map fun t=>.tup [t,t])) [.sh (.tup ts),.sh (.tup ts)]=.ok (.lst (ts.map fun _=>.bl true)):=by
  show(if(ts.map fun t=>Tr.tup [t,t]).length<=d7 then _ else _)=_;rw[ag (by rw[aC];exact hl)];show(C0 (gT [0,1]) _ _ _ [.no,.no]).bind _=_;rw[KH fun t ht=>h t ht]
  rfl
 have i6:Mi [.lst (ts.map fun _=>.bl true)]=.ok (.bl true):=Kb fun t ht=>by obtain⟨_,_,rfl⟩:=cc.mp ht;rfl
 simp only[ev,cN,i1,i2,i3,i4,bA,eX,i5,i6]
variable {A:Ab}{i j t:Nat}{D:Dat}{aJ:List Str}{name:Str}
theorem oV(h:bG A aA a9)(hi:a9.lookup name=some i):mW [aj 5 A (.at 0),.str name]=.ok (aj 3 A (.at i)):=by
 show dn (fQ.1 [.sh (aj 5 A (.at 0)),.sh (.str name)])=_;unfold fQ;simp only[ev,cN,h.M7,du,hi,cW,gi,eX,dA,mM]
theorem NF(h:bG A aA a9)(hi:a9.lookup name=some i)(P:Pr A i j D t):kj [aj 5 A (.at 0),.str name]=.ok (.tup D.rows):=by
 show dn (ki.1 [.sh (aj 5 A (.at 0)),.sh (.str name)])=_;unfold ki;have e:uw [aj 3 A (.at i)]=.ok (.tup D.rows):=by
  show dn (kh.1 [.sh (aj 3 A (.at i))])=_;unfold kh;simp only[ev,cN,P.r.aar (n:=1) P.tu,Nc]
 simp only[ev,cN,h.bP (n:=4) (m:="place") rfl,oV h hi,P.r.bP (n:=2) (m:="rows") rfl,e]
theorem KI(h:bG A aA a9)(hi:a9.lookup name=some i)(P:Pr A i j D t):jh [aj 5 A (.at 0),.str name]=.ok (.tup ((cB (D.ai.map (·.1))).map fun z=>.tup [.str z,.str ((D.ai.lookup z).getD "")])):=by
 show dn (jg.1 [.sh (aj 5 A (.at 0)),.sh (.str name)])=_;unfold jg;have e:sL [aj 3 A (.at i)]=.ok (.tup ((cB (D.ai.map (·.1))).map fun z=>.tup [.str z,.str ((D.ai.lookup z).getD "")])):=by
  show dn (je.1 [.sh (aj 3 A (.at i))])=_;unfold je;simp only[ev,cN,P.r.aas (n:=1) S4,DK P.rk.nd P.ex.ns (gG P.rk.nd),Nc]
 simp only[ev,cN,h.bP (n:=4) (m:="place") rfl,oV h hi,P.r.bP (n:=2) (m:="roles") rfl,e]
theorem Sk{l:List Str}:(l.map fun z=>(z,true)).map (·.1)=l:=by rw[bT];exact jw l
theorem Hc(h:bG A aA a9)(hi:a9.lookup name=some i)(P:Pr A i j D t)(hb:D.aZ.length<64)(hs:∀z∈D.aZ,z.length<=1000):ig [aj 5 A (.at 0),.str name]=.ok (.tup ((cB D.aZ).map .str)):=by
 show dn (ib.1 [.sh (aj 5 A (.at 0)),.sh (.str name)])=_;unfold ib;have e:p4 [aj 3 A (.at i)]=.ok (.tup ((cB D.aZ).map .str)):=by
  show dn (h_.1 [.sh (aj 3 A (.at i))])=_;unfold h_;have s:=pw (f:=Tr.bl) (l:=D.aZ.map fun z=>(z,true)) (fun p hp=>by obtain⟨z,hz,rfl⟩:=cc.mp hp;exact hs z hz) (by rw[aC];exact hb);rw[Sk]at s;simp only[ev,cN,P.r.aau (n:=1) uX,show fN [.bo (nS D.aZ)]=_ from s,Nc]
 simp only[ev,cN,h.bP (n:=4) (m:="place") rfl,oV h hi,P.r.bP (n:=2) (m:="barred") rfl,e]
theorem KJ(h:bG A aA a9)(hi:a9.lookup name=some i)(P:Pr A i j D t):jj [aj 5 A (.at 0),.str name]=.ok (.tup []):=by
 show dn (ji.1 [.sh (aj 5 A (.at 0)),.sh (.str name)])=_;unfold ji;have e:sM [aj 3 A (.at i)]=.ok (.tup []):=by
  show dn (jf.1 [.sh (aj 3 A (.at i))])=_;unfold jf;have s:=pw (f:=Tr.bl) (l:=[]) (fun p hp=>nomatch hp) (by decide);have q:=P.r.aav (n:=1) uX;rw[P.ex.ni]at q;have e0:cB ([]:List Str)=[]:=(de []).eq_nil;simp only[ev,cN,q,show fN [.bo (nS [])]=_ from s,dQ,e0,Nc]
 simp only[ev,cN,h.bP (n:=4) (m:="place") rfl,oV h hi,P.r.bP (n:=2) (m:="asked") rfl,e]
theorem DW{Cr w:Str}(h:bG A aA a9)(hi:a9.lookup name=some i)(P:Pr A i j D t)(hc:(NC D).lookup Cr=some w):gF [aj 5 A (.at 0),.str name,.str Cr]=.ok (.str w):=by
 show dn (gE.1 [.sh (aj 5 A (.at 0)),.sh (.str name),.sh (.str Cr)])=_;unfold gE;have e:oP [aj 3 A (.at i),.str Cr]=.ok (.str w):=by
  show dn (gD.1 [.sh (aj 3 A (.at i)),.sh (.str Cr)])=_;unfold gD;simp only[ev,cN,P.r.aat (n:=1) S4,dA,hc,cW,mM]
 simp only[ev,cN,h.bP (n:=4) (m:="place") rfl,oV h hi,P.r.bP (n:=2) (m:="setting") rfl,e]
end
section
variable {A:Ab}{i j t:Nat}{D D2:Dat}{aJ:List Str}{name:Str}
theorem ne_str{a:Str}:Hv (.str a) (.str a)=.ok (.bl false):=by show Rs.ok (Tr.bl (!(a==a)))=_;rw[bA];rfl
theorem FD(hH:bG A aA a9)(hM:dJ A aJ c6)(P:Pr A i j D t)(hi:a9.lookup name=some i)(hj:c6.lookup name=some j)(ht:t<=60){c3 c4 c5:Cell}{G:aQ->Rs Out}
  (hG:∀Y,G Y=pK (xG 3 (j7 eJ (j7 eJ (cq Y 1) (Rs.ok (.str "rooms"))) (cq Y 2)) Y) fun Y=>pK (xG 4 (bP jB (bt (qF [none,some 3] (gN 0) (fun _=>.ok true) (fun Y=>(pJ (bt (cq Y 0) (bt (j7 eJ (j7 eJ (cq Y 1) (Rs.ok (.str "roles"))) (cq Y 0)) (.ok []))))) (xI (bP fN (bt (j7 eJ (cq Y 3) (Rs.ok (.str "roles"))) (.ok [])))) Y) (.ok []))) Y) fun Y=>pK (F7 (uz ((bP (cC 5) (bt (pJ (bt (gL "Hall" "rows" kj (cq Y 0) (bt (cq Y 2) (.ok []))) (bt (gL "Hall" "roles" jh (cq Y 0) (bt (cq Y 2) (.ok []))) (.ok [])))) (bt (pJ (bt (bP jB (bt (j7 eJ (cq Y 3) (Rs.ok (.str "rows"))) (.ok []))) (bt (cq Y 4) (.ok [])))) (.ok [])))).bind ky)) (qd (Rs.ok (.bl false))) (.ok (.nx Y))) fun Y=>pK (F7 (uz ((bP (cC 5) (bt (gL "Hall" "barred" ig (cq Y 0) (bt (cq Y 2) (.ok []))) (bt (bP jB (bt (bP fN (bt (j7 eJ (cq Y 3) (Rs.ok (.str "barred"))) (.ok []))) (.ok []))) (.ok [])))).bind ky)) (qd (Rs.ok (.bl false))) (.ok (.nx Y))) fun Y=>pK (F7 (uz ((bP (cC 5) (bt (gL "Hall" "asked" jj (cq Y 0) (bt (cq Y 2) (.ok []))) (bt (bP jB (bt ((j7 eJ (cq Y 3) (Rs.ok (.str "asked"))).bind jD) (.ok []))) (.ok [])))).bind ky)) (qd (Rs.ok (.bl false))) (.ok (.nx Y))) fun Y=>F7 ((qF [none,some 2,some 3,some 0] (gN 0) (fun Y=>(SH (j7 Hv (gL "Hall" "setting" gF (cq Y 3) (bt (cq Y 1) (bt (cq Y 0) (.ok [])))) (j7 eJ (cq Y 2) (cq Y 0))))) (fun Y=>(Rs.ok (.int 1))) (xI (pJ (bt (Rs.ok (.str "door")) (bt (Rs.ok (.str "voice")) (bt (Rs.ok (.str "past")) (.ok [])))))) Y).bind ky) (qd (Rs.ok (.bl false))) (.ok (.nx Y))):
  ∃a b,G [.sh (aj 5 A (.at 0)),.sh (aj 5 A (.at 4)),.sh (.str name),c3,c4,c5]=.ok (.nx [.sh (aj 5 A (.at 0)),.sh (aj 5 A (.at 4)),.sh (.str name),a,b,c5]):=by
 rw[hG];have b2:=P.b2;have b1:=P.b1;have hb:=P.ex.nb;have hs:=pw (f:=Tr.str) (l:=D.ai) P.rk.sh (by omega);have tt:ky (.bl true)=.ok true:=rfl;simp only[ev,cN,hM.M' (n:=3),dA,hj,cW,mM,bW,bX,P.m.J9 (n:=1),hs,J7];rw[mr (BR:=[.sh (aj 3 A (.at j))]) (fun _=>true) Tr.str (fun z=>.tup [.str z,.str ((D.ai.lookup z).getD "")]) (by rfl) (by rw[(de _).length_eq,aC];exact cQ (eC (by omega))) rfl (fun _ _=>rfl) ?hF]
 case hF=>
  intro z hz _;obtain⟨q,hq,rfl⟩:=cc.mp ((de _).mem_iff.mp hz);simp only[ev,cN,P.m.J9 (n:=1),dA,gG P.rk.nd q hq,cW,mM,q_]
 rw[show∀l:List Str,l.filter (fun _=>true)=l from fun l=>nh.mpr fun _ _=>rfl];have sr:cC 5 [.tup [.tup D.rows,.tup ((cB (D.ai.map (·.1))).map fun z=>.tup [.str z,.str ((D.ai.lookup z).getD "")])],.tup [.tup D.rows,.tup ((cB (D.ai.map (·.1))).map fun z=>.tup [.str z,.str ((D.ai.lookup z).getD "")])]]=.ok (.bl true):=by
  refine iF (by show 2<=d7;decide) fun u hu=>?_
  simp only[aE,a_,ba]at hu;rcases hu with rfl|rfl
  ·refine iF (cQ (eC (by omega))) fun u hu=>?_
   obtain⟨us,rfl,hf,h10⟩:=P.ex.fr u hu;exact iF (cQ (eC (by omega))) fun w hw=>Aq (cO.mp hf w hw)
  ·refine iF (by rw[aC,(de _).length_eq,aC];exact cQ (eC (by omega))) fun u hu=>?_
   obtain⟨z,_,rfl⟩:=cc.mp hu;refine iF (by show 2<=d7;decide) fun w hw=>?_
   simp only[aE,a_,ba]at hw;rcases hw with rfl|rfl<;>exact Aq rfl
 have s0:cC 5 [.tup [],.tup []]=.ok (.bl true):=iF (by decide) fun u hu=>nomatch hu;have e0:cB ([]:List Str)=[]:=(de []).eq_nil;have hbr:=Hc hH hi P (by rw[hb];decide) (by rw[hb];exact fun z hz=>nomatch hz);have mb:=P.m.WA (n:=1);have ma:=P.m.R4 (n:=1);rw[hb]at hbr mb;rw[P.ex.na]at ma;rw[e0]at hbr;have so:fN [.lst []]=.ok (.lst []):=by have:=yV (ss:=[]) (by decide);rw[e0]at this;exact this
 have ss:jD (.lst [])=.ok (.lst []):=by
  show(if([]:List Str).length<64 then Rs.ok (Tr.lst ((cB (eN [] [])).map .str))else .bad)=_;rw[ag (by decide),show eN [] ([]:List Str)=[]from rfl,e0]
  rfl
 simp only[ev,cN,Nc,bW,bX,hH.bP (n:=4) (m:="rows") rfl,hH.bP (n:=4) (m:="roles") rfl,hH.bP (n:=4) (m:="barred") rfl,hH.bP (n:=4) (m:="asked") rfl,NF hH hi P,KI hH hi P,P.m.R3 (n:=1) P.tu,sr,tt,eX,hbr,mb,so,dQ,s0,KJ hH hi P,ma,ss];rw[mr (BR:=[.sh (.str name),.sh (aj 3 A (.at j)),.sh (aj 5 A (.at 0))]) (fun _=>false) Tr.str (fun _=>.bK) (xs:=["door","voice","past"]) (by rfl) (by show 3<=d7;decide) rfl ?hC (fun _ _ e=>by cases e)]
 case hC=>
  intro z hz;have:z="door"\/z="voice"\/z="past":=by simpa using hz
  rcases this with rfl|rfl|rfl
  ·simp only[ev,cN,hH.bP (n:=4) (m:="setting") rfl,DW (Cr:="door") (w:=D.d) hH hi P rfl,P.m.a_d (n:=2),ne_str]
  ·simp only[ev,cN,hH.bP (n:=4) (m:="setting") rfl,DW (Cr:="voice") (w:=D.v) hH hi P rfl,P.m.a_v (n:=2),ne_str]
  ·simp only[ev,cN,hH.bP (n:=4) (m:="setting") rfl,DW (Cr:="past") (w:=D.p) hH hi P rfl,P.m.a_p (n:=2),ne_str]
 exact⟨_,_,rfl⟩
theorem NG(s:S6 A t aA aJ D D2)(ht:t<=50){G:aQ->Rs Out}
  (hG:∀Y,G Y=pK (xG 3 (j7 eJ (j7 eJ (cq Y 1) (Rs.ok (.str "rooms"))) (cq Y 2)) Y) fun Y=>pK (xG 4 (bP jB (bt (qF [none,some 3] (gN 0) (fun _=>.ok true) (fun Y=>(pJ (bt (cq Y 0) (bt (j7 eJ (j7 eJ (cq Y 1) (Rs.ok (.str "roles"))) (cq Y 0)) (.ok []))))) (xI (bP fN (bt (j7 eJ (cq Y 3) (Rs.ok (.str "roles"))) (.ok [])))) Y) (.ok []))) Y) fun Y=>pK (F7 (uz ((bP (cC 5) (bt (pJ (bt (gL "Hall" "rows" kj (cq Y 0) (bt (cq Y 2) (.ok []))) (bt (gL "Hall" "roles" jh (cq Y 0) (bt (cq Y 2) (.ok []))) (.ok [])))) (bt (pJ (bt (bP jB (bt (j7 eJ (cq Y 3) (Rs.ok (.str "rows"))) (.ok []))) (bt (cq Y 4) (.ok [])))) (.ok [])))).bind ky)) (qd (Rs.ok (.bl false))) (.ok (.nx Y))) fun Y=>pK (F7 (uz ((bP (cC 5) (bt (gL "Hall" "barred" ig (cq Y 0) (bt (cq Y 2) (.ok []))) (bt (bP jB (bt (bP fN (bt (j7 eJ (cq Y 3) (Rs.ok (.str "barred"))) (.ok []))) (.ok []))) (.ok [])))).bind ky)) (qd (Rs.ok (.bl false))) (.ok (.nx Y))) fun Y=>pK (F7 (uz ((bP (cC 5) (bt (gL "Hall" "asked" jj (cq Y 0) (bt (cq Y 2) (.ok []))) (bt (bP jB (bt ((j7 eJ (cq Y 3) (Rs.ok (.str "asked"))).bind jD) (.ok []))) (.ok [])))).bind ky)) (qd (Rs.ok (.bl false))) (.ok (.nx Y))) fun Y=>F7 ((qF [none,some 2,some 3,some 0] (gN 0) (fun Y=>(SH (j7 Hv (gL "Hall" "setting" gF (cq Y 3) (bt (cq Y 1) (bt (cq Y 0) (.ok [])))) (j7 eJ (cq Y 2) (cq Y 0))))) (fun Y=>(Rs.ok (.int 1))) (xI (pJ (bt (Rs.ok (.str "door")) (bt (Rs.ok (.str "voice")) (bt (Rs.ok (.str "past")) (.ok [])))))) Y).bind ky) (qd (Rs.ok (.bl false))) (.ok (.nx Y))):
  ∃a b,Er (gN 2) G (IQ (j7 eJ (cq [.sh (aj 5 A (.at 0)),.sh (aj 5 A (.at 4)),.no,.no,.no,.no] 1) (Rs.ok (.str "rooms")))) [.sh (aj 5 A (.at 0)),.sh (aj 5 A (.at 4)),.no,.no,.no,.no]=.ok (.nx [.sh (aj 5 A (.at 0)),.sh (aj 5 A (.at 4)),.sh (.str "yard"),a,b,.no]):=by
 have o1:([("hall",7),("yard",27)]:List (Str×Nat)).lookup (Str.ofString "hall")=some 7:=by decide+kernel
 have o2:([("hall",7),("yard",27)]:List (Str×Nat)).lookup (Str.ofString "yard")=some 27:=by decide+kernel
 have o3:([("hall",16),("yard",36)]:List (Str×Nat)).lookup (Str.ofString "hall")=some 16:=by decide+kernel
 have o4:([("hall",16),("yard",36)]:List (Str×Nat)).lookup (Str.ofString "yard")=some 36:=by decide+kernel
 have hk:=uV (f:=fun j=>aj 3 A (.at j)) (l:=[("hall",16),("yard",36)]) (fun p hp=>(by decide+kernel:∀p∈([("hall",16),("yard",36)]:List (Str×Nat)),p.1.length<=1000) p hp);have Ms:IQ (.ok (.bo (dP (fun j=>aj 3 A (.at j)) [("hall",16),("yard",36)])))=.ok [.str "hall",.str "yard"]:=hk;obtain⟨a1,b1,q1⟩:=FD s.h s.m s.r1 o1 o3 (by omega) (c3:=.no) (c4:=.no) (c5:=.no) hG;obtain⟨a2,b2,q2⟩:=FD s.h s.m s.r2 o2 o4 (by omega) (c3:=a1) (c4:=b1) (c5:=.no) hG;refine⟨a2,b2,?_⟩;simp only[ev,cN,s.m.M' (n:=3),Ms,Nc,J7,bW,bX,q1,q2]
theorem WL(s:S6 A t aA aJ D D2)(ht:t<=50):t7 [aj 5 A (.at 0),aj 5 A (.at 4)]=.ok (.bl true):=by
 show dn (pE.1 [.sh (aj 5 A (.at 0)),.sh (aj 5 A (.at 4)),.no,.no,.no,.no])=_;unfold pE;obtain⟨a,b,q⟩:=NG s ht (fun Y=>rfl);have hp:aA.length<64:=by have:=s.pl;have h2:=cw List.length s.pp;rw[aC]at h2;omega
 have sh:∀p∈aA,p.1.length<=1000:=fun p hp=>t_ (s.p6 p.1 (by rw[<-s.pp];exact fF hp));have s1:=pw (f:=Tr.bl) sh hp;have s2:=yV (ss:=aJ) (by have:=s.pl;omega);rw[s.pp]at s1;have s3:=pw (f:=fun j=>aj 3 A (.at j)) (l:=[("hall",7),("yard",27)]) (fun p hp=>(by decide+kernel:∀p∈([("hall",7),("yard",27)]:List (Str×Nat)),p.1.length<=1000) p hp) (by decide);have s4:=pw (f:=fun j=>aj 3 A (.at j)) (l:=[("hall",16),("yard",36)]) (fun p hp=>(by decide+kernel:∀p∈([("hall",16),("yard",36)]:List (Str×Nat)),p.1.length<=1000) p hp) (by decide);have e1:pZ [aj 5 A (.at 0)]=.ok (.tup ((cB aJ).map .str)):=by
  show dn (hZ.1 [.sh (aj 5 A (.at 0))])=_;unfold hZ;simp only[ev,cN,s.h.M6,s1,Nc]
 have e2:sJ [aj 5 A (.at 0)]=.ok (.tup ((cB ["hall","yard"]).map .str)):=by
  show dn (jd.1 [.sh (aj 5 A (.at 0))])=_;unfold jd;simp only[ev,cN,s.h.M7,s3,Nc]
  rfl
 have s4':fN [.bo (dP (fun j=>aj 3 A (.at j)) [("hall",16),("yard",36)])]=.ok (.lst ((cB ["hall","yard"]).map .str)):=s4;have sl:∀l:List Str,l.length<=100->cC 4 [.tup ((cB l).map .str),.tup ((cB l).map .str)]=.ok (.bl true):=fun l hl=>iF (by rw[aC,(de _).length_eq];exact cQ (eC (by omega))) fun u hu=>by
  obtain⟨z,_,rfl⟩:=cc.mp hu;exact Aq rfl
 have sr:cC 5 [.tup [.tup ((cB ["hall","yard"]).map .str),.tup ((cB aJ).map .str)],.tup [.tup ((cB ["hall","yard"]).map .str),.tup ((cB aJ).map .str)]]=.ok (.bl true):=by
  refine iF (by show 2<=d7;decide) fun u hu=>?_
  simp only[aE,a_,ba]at hu;rcases hu with rfl|rfl
  ·exact sl _ (by decide)
  ·exact sl _ (by have:=s.pl;omega)
 dsimp only;rw[q];simp only[ev,cN,Nc,J7,bW,bX,s.m.M' (n:=3),s.m.R8 (n:=3),s4',s2,s.h.bP (n:=4) (m:="rooms") rfl,s.h.bP (n:=4) (m:="people") rfl,e1,e2,sr]
end
abbrev DX:List (Str×Str):=[("ann","owner"),("bo","guest"),("cy","guest")]
abbrev KL:List (Str×Int):=[("ann",1),("bo",2),("cy",3)]
abbrev KN:List lJ:=[("ann",1,1,none),("bo",1,2,none),("cy",1,3,none)]
abbrev KO:List Tr:=[.tup [.int 1,.str "ann",.str "found"],.tup [.int 2,.str "bo",.str "enter"],.tup [.int 3,.str "cy",.str "enter"]]
abbrev DY:List (Str×Str):=[("dee","owner")]
abbrev KQ:List (Str×Int):=[("dee",1)]
abbrev KR:List lJ:=[("dee",1,1,none)]
abbrev KU:List Tr:=[.tup [.int 1,.str "dee",.str "found"]]
abbrev Cs:List (Str×Bool):=[("ann",true),("bo",true),("cy",true),("dee",true),("ed",true)]
abbrev WM:List (Str×Str):=[("door","open"),("voice","all"),("past","shown")]
def D10:Dat:=⟨KO,DX,KL,fun z=>(KL.lookup z).getD 0,KN,[],[],[],"open","all","shown",19,20,26⟩
def D20:Dat:=⟨KU,DY,KQ,fun z=>(KQ.lookup z).getD 0,KR,[],[],[],"open","all","shown",39,40,42⟩
def B0:Ab:=[.ins "Hall" [("persons",.at 1),("places",.at 2),("hands",.at 3)],.bo [],.bo [],.lst []]
def B1:Ab:=B0++[.bo (dP id [("people",.at 5),("rooms",.at 6)]),.lst (An.map .str),.bo []]
def A0:Ab:=[.ins "Hall" [("persons",.at 1),("places",.at 2),("hands",.at 3)],.bo (dP .bl Cs),.bo (dP .at [("hall",7),("yard",27)]),.lst [],.bo (dP id [("people",.at 5),("rooms",.at 6)]),.lst (An.map .str),.bo (dP .at [("hall",16),("yard",36)]),
 .ins "Room" (roomF 7),.lst KO,.bo (dP .str DX),.bo (dP .int KL),.bo (dP .str WM),.bo [],.bo [],.bo [],.bo [],
 .bo (dP id (BS 16 19 20 26 "open" "all" "shown")),.lst KO,.bo (dP .str DX),.lst (KN.map uu),.lst [],.lst [],.lst [],.lst [.str "ann"],.lst [],.lst [.str "ann"],.lst [],
 .ins "Room" (roomF 27),.lst KU,.bo (dP .str DY),.bo (dP .int KQ),.bo (dP .str WM),.bo [],.bo [],.bo [],.bo [],
 .bo (dP id (BS 36 39 40 42 "open" "all" "shown")),.lst KU,.bo (dP .str DY),.lst (KR.map uu),.lst [],.lst [],.lst []]
theorem Sl:wB "Hall" mV (.ok [] [])=.ok (.at 0) B0:=by kernel_rfl
theorem NH:t5 [.tup (An.map .str)] B0=.ok (.at 4) B1:=by kernel_rfl
theorem Sm:Cg [.at 0,.at 4] B1=.ok .bK A0:=by kernel_rfl
theorem st0:St A0 0:=by
 refine⟨Cs,An,D10,D20,⟨rfl,rfl,rfl⟩,⟨rfl,rfl,rfl⟩,rfl,by decide,by decide+kernel,⟨⟨rfl,rfl,rfl,rfl,rfl,rfl,rfl⟩,⟨rfl,rfl,rfl,rfl,rfl,rfl,by decide⟩,?_,⟨by decide+kernel,by decide+kernel,by decide+kernel,by decide+kernel,by decide+kernel⟩,rfl,by decide+kernel,fun _=>rfl,by decide,by decide,by decide,by decide,by decide,by decide,by decide,⟨?_,by decide+kernel,rfl,rfl,rfl⟩⟩,⟨⟨rfl,rfl,rfl,rfl,rfl,rfl,rfl⟩,⟨rfl,rfl,rfl,rfl,rfl,rfl,by decide⟩,?_,⟨by decide+kernel,by decide+kernel,by decide+kernel,by decide+kernel,by decide+kernel⟩,rfl,by decide+kernel,fun _=>rfl,by decide,by decide,by decide,by decide,by decide,by decide,by decide,⟨?_,by decide+kernel,rfl,rfl,rfl⟩⟩,by unfold kl;decide,by unfold kl;decide,by unfold Apart;decide⟩
 ·intro t ht;simp only[D10,aE,a_,ba]at ht;rcases ht with rfl|rfl|rfl<;>exact⟨_,rfl⟩
 ·intro t ht;simp only[D10,aE,a_,ba]at ht;rcases ht with rfl|rfl|rfl<;>exact⟨_,rfl,rfl,by decide⟩
 ·intro t ht;simp only[D20,aE,a_,ba]at ht;rcases ht with rfl<;>exact⟨_,rfl⟩
 ·intro t ht;simp only[D20,aE,a_,ba]at ht;rcases ht with rfl<;>exact⟨_,rfl,rfl,by decide⟩
theorem Hd{ts:List Tr}(h:DV ts):mi ts=true:=by
 rcases h with⟨_,_,rfl⟩|⟨_,_,_,_,_,_,rfl⟩<;>rfl
theorem FE{T:pP}{G:aQ->Ab->Rz Out}{n:Nat}(I:Nat->aQ->Ab->Prop)(h:∀k Y A,k<n->I k Y A->∃qE,T (.int (0+(k:Nat))) Y=.ok qE/\∃iH A2,G qE A=.ok (.nx iH) A2/\I (k+1) iH A2):∀(m k:Nat) (Y:aQ) (A:Ab),k+m=n->I k Y A->∃iG A',tB T G ((List.range' k m).map fun k=>Tr.int (0+(k:Nat))) Y A=.ok (.nx iG) A'/\I n iG A'
 |0,k,Y,A,e,hi=>⟨Y,A,rfl,by rw[<-e];exact hi⟩
 |m+1,k,Y,A,e,hi=>by
  obtain⟨qE,e1,iH,A2,e2,h2⟩:=h k Y A (by omega) hi;obtain⟨iG,A',e3,h3⟩:=FE I h m (k+1) iH A2 (by omega) h2;refine⟨iG,A',?_,h3⟩;rw[List.range'_succ,aO];simp only[J7,e1,iL,cN,e2];exact e3
theorem NI(j:Int):Es (.ok [.int j])=if-4611686018427387904<=j/\j<4611686018427387904 then .ok (zg 0 j.toNat)else .bad:=rfl
def LI(ns:List Int)(k:Nat)(Y:aQ)(A:Ab):Prop:=St A k/\∃a b,Y=[.sh (.mY ns),.sh (.at 0),.sh (.at 4),.sh (.tup (four.map .str)),a,b]
theorem KW(ns:List Int):xn [.mY ns]=.ok (.bl true):=by
 have h1:startT 6 [.mY ns]=[.sh (.mY ns),.no,.no,.no,.no,.no]:=rfl;have h2:([.mY ns]:List Tr).length=1/\gK [.mY ns]=true:=⟨rfl,rfl⟩;unfold xn Bh;rw[ag h2,h1];unfold Kt;have ef:∀A,pL (.ok (.tup (An.map .str))) A=.ok (.tup (An.map .str)) A:=fun A=>rfl;have eg:∀A,pL (.ok (.tup (four.map .str))) A=.ok (.tup (four.map .str)) A:=fun A=>rfl;have zb:t5 [.tup [.str "ann",.str "bo",.str "cy",.str "dee",.str "ed"]] B0=.ok (.at 4) B1:=NH;have ef':∀A,pL (.ok (.tup [.str "ann",.str "bo",.str "cy",.str "dee",.str "ed"])) A=.ok (.tup [.str "ann",.str "bo",.str "cy",.str "dee",.str "ed"]) A:=fun A=>rfl;have eg':∀A,pL (.ok (.tup [.str "come",.str "found",.str "enter",.str "leave"])) A=.ok (.tup [.str "come",.str "found",.str "enter",.str "leave"]) A:=fun A=>rfl;have r1:Es (.ok [.int 24])=.ok (zg 0 24):=by rw[NI,ag (by decide)];rfl
 have r2:zg 0 24=(List.range' 0 24).map fun k=>Tr.int (0+(k:Nat)):=by unfold zg;rw[List.range_eq_range']
 have fin:∀G,(∀k Y A,k<24->LI ns k Y A->∃qE,gN 4 (.int (0+(k:Nat))) Y=.ok qE/\∃iH A2,G qE A=.ok (.nx iH) A2/\LI ns (k+1) iH A2)->Bg (Bf (tB (gN 4) G ((List.range' 0 24).map fun k=>Tr.int (0+(k:Nat))) [.sh (.mY ns),.sh (.at 0),.sh (.at 4),.sh (.tup [.str "come",.str "found",.str "enter",.str "leave"]),.no,.no] A0) fun Y A=>Gd (pL (bP t7 (bt (cq (cz A Y) 1) (bt (cq (cz A Y) 2) (Rs.ok [])))) A))=.ok (.bl true):=fun G hG=>by
  obtain⟨iG,A',e3,⟨aA,aJ,D1,D2,s⟩,a,b,rfl⟩:=FE (LI ns) hG 24 0 _ A0 rfl ⟨st0,.no,.no,rfl⟩;have q:=WL s (by decide);rw[show tB (gN 4) G ((List.range' 0 24).map fun k=>Tr.int (0+(k:Nat))) [.sh (.mY ns),.sh (.at 0),.sh (.at 4),.sh (.tup [.str "come",.str "found",.str "enter",.str "leave"]),.no,.no] A0=_ from e3];simp only[ev,cN,iL,q]
  rfl
 simp only[ev,cN,iL,jl,Sl,ef',zb,Sm,eg',bW,bX,r1,r2,J7];refine fin _ fun k Y A hk hI=>?_
 obtain⟨hs,a,b,rfl⟩:=hI;obtain⟨c,ec⟩:=Si ns ((0+(k:Nat):Int) % 11) (vq _ (by decide));obtain⟨ts,ed,hd⟩:=Sj (c+41*(0+(k:Nat))) (aj 5 A (.at 4));obtain⟨A',eb,Zz⟩:=step hs hd (by omega);have m1:s_ (.int (0+(k:Nat))) (.int 11)=.ok (.int ((0+(k:Nat):Int) % 11)):=Sg (by decide);have m2:xJ (.int 41) (.int (0+(k:Nat)))=.ok (.int (41*(0+(k:Nat)))):=Sf (.inl ⟨by decide,by decide⟩);have fz:∀A,pL (.ok (.tup ts)) A=.ok (.tup ts) A:=fun A=>ag (Hd hd);have ed':sQ [.int (c+41*(0+(k:Nat))),aj 5 A (.at 4),.tup [.str "come",.str "found",.str "enter",.str "leave"]]=.ok (.tup ts):=ed;have nt:Rn (Rk (.ok (.bl true) A'))=.ok false A':=rfl;refine⟨_,rfl,[.sh (.mY ns),.sh (.at 0),.sh (.at 4),.sh (.tup (four.map .str)),.sh (.int (0+(k:Nat))),.sh (.tup ts)],A',?_,Zz,_,_,rfl⟩;show Bf (xK 5 (pL (bP sQ (bt (j7 zk (bP xm (bt (cq (cz A [.sh (.mY ns),.sh (.at 0),.sh (.at 4),.sh (.tup [.str "come",.str "found",.str "enter",.str "leave"]),.sh (.int (0+(k:Nat))),b]) 0) (bt (j7 s_ (cq (cz A [.sh (.mY ns),.sh (.at 0),.sh (.at 4),.sh (.tup [.str "come",.str "found",.str "enter",.str "leave"]),.sh (.int (0+(k:Nat))),b]) 4) (Rs.ok (.int 11))) (Rs.ok [])))) (j7 xJ (Rs.ok (.int 41)) (cq (cz A [.sh (.mY ns),.sh (.at 0),.sh (.at 4),.sh (.tup [.str "come",.str "found",.str "enter",.str "leave"]),.sh (.int (0+(k:Nat))),b]) 4))) (bt (cq (cz A [.sh (.mY ns),.sh (.at 0),.sh (.at 4),.sh (.tup [.str "come",.str "found",.str "enter",.str "leave"]),.sh (.int (0+(k:Nat))),b]) 2) (bt (cq (cz A [.sh (.mY ns),.sh (.at 0),.sh (.at 4),.sh (.tup [.str "come",.str "found",.str "enter",.str "leave"]),.sh (.int (0+(k:Nat))),b]) 3) (Rs.ok []))))) A) [.sh (.mY ns),.sh (.at 0),.sh (.at 4),.sh (.tup [.str "come",.str "found",.str "enter",.str "leave"]),.sh (.int (0+(k:Nat))),b]) _=_;simp only[ev,cN,iL,jl,m1,ec,m2,ed',fz,bW,bX,eb,nt]
 rfl
def O:S2:=⟨["ValueError","all","bool","dict","int","isinstance","len","list","max","min","range","set","sorted","str","tuple","zip"],["Barred","Hall","Known","NoHand","NoLine","NoPerson","NoRight","NoRoom","NoRow","NotAsked","NotIn","Room","TalkError"],["Hall","Room"],[("Room",["banned","chosen","entries","invited","log","ranks","read_marks","said_by_key"]),("Hall",["hands","persons","places"])],[gz],["Known","NoPerson","NoRoom","NotIn","NotAsked","Barred","NoRight","NoRow","NoHand","NoLine"],[.inl "Barred",.inl "Known",.inl "NoHand",.inl "NoLine",.inl "NoPerson",.inl "NoRight",.inl "NoRoom",.inl "NoRow",.inl "NotAsked",.inl "NotIn",.inr "ValueError"],["TalkError"],["Barred","Known","NoPerson","NoRoom","NotAsked","NotIn"]⟩
set_option maxHeartbeats 8000000 in
theorem all_mk{l:PySem.W.OpenLaw}{w:World}{K:Frag}{h:Heap}{mg:Str->Option Value}{fa:Addr}(X:K.In h)(G:h.Ns mainGlobals mg)(hfa:mg "law"=some (.ref fa))
  (c1:DS.map (Df.fd K)=DS.map (fun d=>d.re (d.fd K))) (c2:DS.all (Df.OE K)=true) (c3:O.OE K=true)
  {xt:Addr} {KY:Nat} {KZ:Array (Option Value)} {He Hf Hg Hh:Tok} (FF:PySem.W.nsIn K mainGlobals "ROLES"=some (some (.ref xt))) (FG:K.lookup xt=some ⟨.type "tuple",none,.seq #[.str "guest" He,.str "speaker" Hf,.str "keeper" Hg,.str "owner" Hh] KY,KZ⟩)
  {da1:Addr} {dn1:Nat} {aax aay aaz:Tok} {WN WO WQ:Addr} (e1:PySem.W.nsIn K mainGlobals "SETTINGS"=some (some (.ref da1))) (d1:K.lookup da1=some ⟨.type "dict",none,.dict #[⟨PyData.keyHash w.params "door",.str "door" aax,.ref WN⟩,⟨PyData.keyHash w.params "voice",.str "voice" aay,.ref WO⟩,⟨PyData.keyHash w.params "past",.str "past" aaz,.ref WQ⟩] dn1,#[]⟩) (s1:(da1==sysModules)=false)
  {WR:Option Addr} {WS:Nat} {WT:Array (Option Value)} {Sn So:Tok} (WU:K.lookup WN=some ⟨.type "tuple",WR,.seq #[.str "open" Sn,.str "asked" So] WS,WT⟩)
  {WV:Option Addr} {WW:Nat} {WX:Array (Option Value)} {Sq Sr:Tok} (WY:K.lookup WO=some ⟨.type "tuple",WV,.seq #[.str "all" Sq,.str "some" Sr] WW,WX⟩)
  {WZ:Option Addr} {W0:Nat} {W3:Array (Option Value)} {Ss Su:Tok} (W4:K.lookup WQ=some ⟨.type "tuple",WZ,.seq #[.str "shown" Ss,.str "hidden" Su] W0,W3⟩)
  :∃fd:FuncData,(∀(s:Shared) (v:Value),BindsTo s fd ⟨[v],[]⟩ [("_law_script",v)])/\∀base:Heap,K.In base->base.Ns mainGlobals mg->c_ l.prog w K mg base kN 10 fa fd ["_law_script"] (spT K xn):=by
 have o:=O.ok X G c3;have T:OF K w mg:=⟨fun i d e=>JV X G c1 c2 d (cV e),o.bl rfl,o.bl rfl,o.bl rfl,o.bl rfl,o.bl rfl,o.bl rfl,o.bl rfl,o.bl rfl,o.bl rfl,o.bl rfl,o.bl rfl,o.bl rfl,o.bl rfl,o.bl rfl,o.bl rfl,o.bl rfl,o.bn 0 rfl,o.mk_ rfl,o.mk_ rfl,⟨⟨.ref xt,_,W.mg_of X G FF,rfl,fun H=>.tup (vs:=[.str "guest",.str "speaker",.str "keeper",.str "owner"]) (.inr ⟨_,_,_,FG,rfl,rfl,by show 4<=sizeLine;decide,(.cons ⟨_,rfl⟩ (.cons ⟨_,rfl⟩ (.cons ⟨_,rfl⟩ (.cons ⟨_,rfl⟩ .nil))))⟩) (.cons (.str _ (by decide)) (.cons (.str _ (by decide)) (.cons (.str _ (by decide)) (.cons (.str _ (by decide)) .nil))))⟩,⟨_,_,W.mg_of X G FF,FG,rfl,rfl⟩⟩,o.fl (c:="Room") rfl rfl,o.fl (c:="Room") rfl rfl,o.fl (c:="Room") rfl rfl,o.fl (c:="Hall") rfl rfl,o.fl (c:="Room") rfl rfl,o.fl (c:="Room") rfl rfl,o.fl (c:="Hall") rfl rfl,o.fl (c:="Hall") rfl rfl,o.fl (c:="Room") rfl rfl,o.fl (c:="Room") rfl rfl,o.fl (c:="Room") rfl rfl,C_.gd (aG:=[("door",.tup [.str "open",.str "asked"]),("voice",.tup [.str "all",.str "some"]),("past",.tup [.str "shown",.str "hidden"])]) (.cons (v:=.ref _) rfl (fun H=>.tup (vs:=[.str "open",.str "asked"]) (.inr ⟨_,_,_,WU,rfl,rfl,by show 2<=sizeLine;decide,(.cons ⟨_,rfl⟩ (.cons ⟨_,rfl⟩ .nil))⟩) (.cons (.str _ (by decide)) (.cons (.str _ (by decide)) .nil))) (.cons (v:=.ref _) rfl (fun H=>.tup (vs:=[.str "all",.str "some"]) (.inr ⟨_,_,_,WY,rfl,rfl,by show 2<=sizeLine;decide,(.cons ⟨_,rfl⟩ (.cons ⟨_,rfl⟩ .nil))⟩) (.cons (.str _ (by decide)) (.cons (.str _ (by decide)) .nil))) (.cons (v:=.ref _) rfl (fun H=>.tup (vs:=[.str "shown",.str "hidden"]) (.inr ⟨_,_,_,W4,rfl,rfl,by show 2<=sizeLine;decide,(.cons ⟨_,rfl⟩ (.cons ⟨_,rfl⟩ .nil))⟩) (.cons (.str _ (by decide)) (.cons (.str _ (by decide)) .nil))) .nil))) (W.mg_of X G e1) d1 s1 (show List.Nodup (["door","voice","past"]:List Str) by decide),C_.gk (aG:=[("door",.tup [.str "open",.str "asked"]),("voice",.tup [.str "all",.str "some"]),("past",.tup [.str "shown",.str "hidden"])]) (.cons (v:=.ref _) rfl (fun H=>.tup (vs:=[.str "open",.str "asked"]) (.inr ⟨_,_,_,WU,rfl,rfl,by show 2<=sizeLine;decide,(.cons ⟨_,rfl⟩ (.cons ⟨_,rfl⟩ .nil))⟩) (.cons (.str _ (by decide)) (.cons (.str _ (by decide)) .nil))) (.cons (v:=.ref _) rfl (fun H=>.tup (vs:=[.str "all",.str "some"]) (.inr ⟨_,_,_,WY,rfl,rfl,by show 2<=sizeLine;decide,(.cons ⟨_,rfl⟩ (.cons ⟨_,rfl⟩ .nil))⟩) (.cons (.str _ (by decide)) (.cons (.str _ (by decide)) .nil))) (.cons (v:=.ref _) rfl (fun H=>.tup (vs:=[.str "shown",.str "hidden"]) (.inr ⟨_,_,_,W4,rfl,rfl,by show 2<=sizeLine;decide,(.cons ⟨_,rfl⟩ (.cons ⟨_,rfl⟩ .nil))⟩) (.cons (.str _ (by decide)) (.cons (.str _ (by decide)) .nil))) .nil))) (W.mg_of X G e1) d1 s1 (show List.Nodup (["door","voice","past"]:List Str) by decide) (show∀z∈(["door","voice","past"]:List Str),z.length<=bV by decide),o.xc 0 rfl,o.xc 1 rfl,o.xc 2 rfl,o.xc 3 rfl,o.xc 4 rfl,o.xc 5 rfl,o.xc 6 rfl,o.xc 7 rfl,o.xc 8 rfl,o.xc 9 rfl,o.xc 10 rfl,o.Fm rfl,o.Fm rfl,o.Fm rfl,o.Fm rfl,o.Fm rfl,o.Fm rfl,o.Fm rfl,o.Fm rfl,o.Fm rfl,o.Fm rfl,o.ca rfl rfl,o.er rfl rfl,o.er rfl rfl,o.er rfl rfl,o.er rfl rfl,o.er rfl rfl,o.er rfl rfl⟩;cases hfa.symm.trans ((T.d 48 rfl:BY.Ok K mg).m0 rfl);obtain⟨oc,od,kV,doc,pm,an,eI,ct,HU,e9,_,_⟩:=(T.d 48 rfl:BY.Ok K mg).fn.ex;exact⟨_,fun s v=>by rw[e9];exact .of_eq rfl,fun base _ _=>(WD T).ok⟩
theorem Sv{K:Frag}{H:Hp}{Q:VK}{E:XK}{a:Addr}{ns:List Int}(hS:jZ K H a (ns.map V.int))(hQ:∀H',Q (.bl true) H'):spT K xn [.ref a] H Q E:=
 ⟨⟨fun _=>false,fun _=>none⟩,[.mY ns],fun b e=>(nomatch e),.cons (.mY hS) .nil,.bl true,KW ns,fun v H' _ r=>by rw[r.vY];exact hQ H'⟩
theorem walk{l:PySem.W.OpenLaw}{q:Program}{loose:List Str}{XP:(Str->Option Value)->Heap->Prop}{YP:World->Heap->Prop}{d:DefRec}{K:Params->Frag}(hn:l.most=some 63)(S8:d.params.defaults=[])
  (hY:∀(w:World) (h:Heap),YP w h->(K w.params).In h)
  (F:∀(w:World) (mg:Str->Option Value) (fa:Addr) (h:Heap),(K w.params).In h->h.Ns mainGlobals mg->mg d.name=some (.ref fa)->
   ∃fd:FuncData,(∀(s:Shared) (u:Value),BindsTo s fd ⟨[u],[]⟩ [("_law_script",u)])/\∀base:Heap,(K w.params).In base->base.Ns mainGlobals mg->c_ l.prog w (K w.params) mg base kN 10 fa fd ["_law_script"] (spT (K w.params) xn)):
  PySem.W.WalkO q loose XP YP l.row.toRowW d [] (fun f vs=>PySem.call f vs):=
 L2.LG (n:=63) (k:=10) (x:="_law_script") (CX:=fun _=>kN) (sp:=fun w=>spT (K w.params) xn) hn (by decide) S8 ⟨rfl,by decide,by decide⟩ hY F (fun _ _ a ns hl _ hS=>Sv hS fun _=>rfl) fun _ _ _ _ _ z=>z
end M04
namespace PySem.W.Fast
def tw17126096188097318070:=0
def tw17768035908694047037:=0
def tw16868992106818268142:=0
def tw1307926687936410557:=0
def tw17634677296507242875:=0
def tw13430349696269436761:=0
def tw15447777372703280010:=0
def tw5758307454161019938:=0
def tw4790773988515113047:=0
def tw14173692752086014632:=0
def tw11385508838963895910:=0
def tw18398995358795510488:=0
def tw14423204807463373901:=0
def tw16266767681032354344:=0
def tw4424323739976344472:=0
def tw17875942251891199863:=0
def tw11823058660453054676:=0
def tw13659778855309293463:=0
def tw2652108428024641875:=0
def tw17149343993621716973:=0
def tw167962642973863491:=0
def tw5680484426597853131:=0
def tw1595157747703686503:=0
def tw1259793254943990493:=0
def tw14025690758666304186:=0
def tw3001282048508368471:=0
def tw5217880500448197540:=0
def tw14998837439825411940:=0
def tw15088221584104766798:=0
def tw1512891275851485184:=0
def tw12569844782241438048:=0
def tw11073494212990822886:=0
def tw7643558947368645673:=0
def tw4876842197067993368:=0
def tw11429436684434343667:=0
def tw87237212445448811:=0
def tw3509578629122817015:=0
def tw3773613381864975040:=0
def tw13724739825893145632:=0
def tw10977672423129320027:=0
def tw16794534952157245302:=0
def tw1712170628679655327:=0
def tw3834306084701843651:=0
def tw15472521413735879546:=0
def tw8187439975321842369:=0
def tw4535053492571501568:=0
def tw5996301448346609706:=0
def tw828306267308012322:=0
def tw4476605152229805077:=0
def tw10044735330162704454:=0
def tw743864809640922838:=0
def tw9286539879169272207:=0
def tw528428869681397592:=0
def tw5397585335991970498:=0
def tw8755382537625614897:=0
def tw15777504884875212315:=0
def tw4635427006762275446:=0
def tw12404048579697221374:=0
def tw9285623164752574614:=0
def tw6030178515224800236:=0
def tw10211025077144747574:=0
def tw14682679937778964201:=0
def tw10666249398796392320:=0
def tw9448618793606435234:=0
def tw15025360586552423788:=0
def tw12544977072388632595:=0
def tw8554011628316954320:=0
def tw8491429162232331126:=0
def tw4433224933859638182:=0
def tw15288381906527210630:=0
def tw14541532326025761598:=0
def tw4053252787379128166:=0
def tw18300822886071184785:=0
def tw821027386506249601:=0
def tw13808490854920651263:=0
def tw15777715251272590638:=0
def tw12639682422850252152:=0
def tw2885397327807194592:=0
def tw4174091616727533140:=0
def tw360847307154726274:=0
def tw1115645278012015975:=0
def tw1689092224827670016:=0
def tw6422421283277816262:=0
def tw16754091305185759460:=0
def tw2628865112429407270:=0
def tw16592108456092089794:=0
def tw4817602360210782232:=0
def tw15944977934585345103:=0
def tw1635121627012428799:=0
def tw14794761845693645389:=0
def tw13063987804088056248:=0
def tw14369453483982708216:=0
def tw7663019579073165385:=0
def tw7173907901734469877:=0
def tw7320545892928510971:=0
def tw5086119403192078180:=0
def tw13519908236056231274:=0
def tw16933619432356910975:=0
def tw5596156879079124396:=0
def tw14445711501749338781:=0
def tw18217116532691069215:=0
def tw17695767739078224936:=0
def tw13559165316606289179:=0
def tw3155271924508049870:=0
def tw8343940282657743525:=0
def tw5314952113822716017:=0
def tw2122248917786418238:=0
def tw9955238834948283643:=0
def tw8010318484812046440:=0
def tw4890967629980611806:=0
def tw9213554761760376846:=0
def tw4970443864140126214:=0
def tw16074192200492931033:=0
def tw15732312659711860511:=0
def tw16844239158747079885:=0
def tw7604742129553665260:=0
def tw16627372220524852238:=0
def tw6395223972449479561:=0
def tw8039588213272543283:=0
def tw13294852531082879636:=0
def tw12611755963060500713:=0
def tw1077274445652694363:=0
def tw6960208593394211263:=0
def tw1180453861455365268:=0
def tw379460643668323244:=0
def tw12152964677392535261:=0
def tw1074591343952130724:=0
def tw7472302281262764366:=0
def tw15445458012576961936:=0
def tw17776857659749748004:=0
def tw15026188410552124243:=0
def tw3283512339068945676:=0
def tw3984701405568970073:=0
def tw16276853473960144858:=0
def tw2777402034596131006:=0
def tw17412948805207083820:=0
def tw9619168618192286759:=0
def tw15918830507892718098:=0
def tw15526455906484575011:=0
def tw14059426084225930260:=0
def tw7619305403996999579:=0
def tw4971289208937951445:=0
def tw11218129602024010293:=0
def tw1963263014651440190:=0
def tw6696175354342337334:=0
def tw18167390941982284965:=0
def tw6262801892192385221:=0
def tw3278650932762103011:=0
def tw3115189756653905311:=0
def tw9080251308997391162:=0
def tw751699654575796297:=0
def tw5379321476641138842:=0
def tw12106372556968981723:=0
def tw9203997789152278815:=0
def tw6098726921294584679:=0
def tw14819537197568326679:=0
def tw2291648366595454707:=0
def tw15273287681152115153:=0
def tw1217460159581183015:=0
def tw3408276929837185922:=0
def tw2631298945031857399:=0
def tw8827421181507770385:=0
def tw6315764229533763409:=0
def tw14592110253114675259:=0
def tw9104949333380006008:=0
def tw11547712905754301127:=0
def tw8805081171869441986:=0
def tw12847378102213141875:=0
def tw7934390747549460590:=0
def tw1927479748234622957:=0
def tw11410699058904202276:=0
def tw10417976521617020583:=0
def tw546110998375954751:=0
def tw10202026992818017153:=0
def tw5967998811464122753:=0
def tw18445458224893197684:=0
def tw8443058741528538326:=0
def tw16983682905968498507:=0
def tw17649996859610831645:=0
def tw2892413209148573199:=0
def tw21858431390501322:=0
def tw1716203794914988423:=0
def tw17069594970156713702:=0
def tw18135249582342980018:=0
def tw1258273377572862197:=0
def tw11882221210501334178:=0
def tw3956225579735253408:=0
def tw10580158007118156027:=0
def tw17478844775616574057:=0
def tw12513977491135718759:=0
def tw7688305852827019015:=0
def tw12894027720428229944:=0
def tw13130634257269300524:=0
def tw18023863035524039152:=0
def tw18420745385032093877:=0
def tw1572884541888533343:=0
def tw4809412681245768855:=0
def tw13156327438962899469:=0
def tw2567283538998079305:=0
def tw16035428195024398696:=0
def tw9934954092579110417:=0
def tw17656372151777301893:=0
def tw15507927785579420118:=0
def tw9910340897358466844:=0
def tw14683678911502938378:=0
def tw5756276455922682934:=0
def tw6696873821726373988:=0
def tw9059194153865447378:=0
def tw15691577556036751462:=0
def tw15469719404214791814:=0
def tw11418220844601130750:=0
def tw9534246507832336913:=0
def tw4951016593353364860:=0
def tw12336898096943677510:=0
def tw6546140082311032570:=0
def tw10651509953214176232:=0
def tw15888628315703311861:=0
def tw2111254308584164712:=0
def tw11634027600965625228:=0
def tw1424573797171988137:=0
def tw12377967662136555124:=0
def tw12062376471400045956:=0
def tw14118801754094722280:=0
def tw2416445393129526970:=0
def tw6353978083242689128:=0
def tw3759401992656899083:=0
def tw8804872214270727925:=0
def tw13512332757980882534:=0
def tw6322309495648340885:=0
def tw7124146854150444373:=0
def tw7327768029096528880:=0
def tw3642902143224876649:=0
def tw9497553602366160683:=0
def tw1893762466822505269:=0
def tw14206351956908889063:=0
def tw16760401052039214036:=0
def tw2124749448478153506:=0
def tw8893188127150539114:=0
def tw12681614736220531627:=0
def tw6192700764187925142:=0
def tw5251481326013537289:=0
def tw17372559664309114560:=0
def tw4230130385343720470:=0
def tw18361581012210195707:=0
def tw15917507934687545137:=0
def tw196788230047275345:=0
def tw14337423728860613761:=0
def tw12152965631048141328:=0
def tw235031313533952937:=0
def tw319935186939372117:=0
def tw14489917768624002601:=0
def tw17756953851555746871:=0
def tw12976239039413958337:=0
def tw12286706992313576807:=0
def tw1813744249139466872:=0
def tw9966095422821226751:=0
def tw1294805328231918141:=0
def tw7427631098970038116:=0
def tw12701392865763216927:=0
def tw7054072536040589237:=0
def tw7692204169892024440:=0
def tw16385200981572668131:=0
def tw2933171787510617878:=0
def tw2690550029309015137:=0
def tw9747936074747660075:=0
def tw3285901519494644219:=0
def tw17907639222814810763:=0
def tw5761221649079871930:=0
def tw13483036420655995520:=0
def tw14340680676368838171:=0
def tw10417988673292910381:=0
def tw16742599321737660239:=0
def tw15774020659569312677:=0
def tw3097231601047518914:=0
def tw4197679128216634931:=0
def tw14491336067662041130:=0
def tw8903912473918640369:=0
def tw4216618629873076817:=0
def tw5278873436073407220:=0
def tw9481388972457654231:=0
def tw17506090791068444436:=0
def tw16759107097000122144:=0
def tw17986864569035012853:=0
def tw17431736088892208726:=0
def tw11243357140391198103:=0
def tw12236045735134359291:=0
def tw16957365833590604587:=0
def tw14227597669982880553:=0
def tw16477497959417546180:=0
def tw3700699356475530898:=0
def tw14997060705764166211:=0
def tw17199636031183573163:=0
def tw13607111014203645439:=0
def tw1651912838429269433:=0
def tw5049903536013533484:=0
def tw16556741336200862323:=0
def tw13835502250110956709:=0
def tw14986554962568847591:=0
def tw8081529794942474055:=0
def tw9804072578339813827:=0
def tw14198484504215663664:=0
def tw16557789177946017695:=0
def tw1220472733068564450:=0
def tw12831039270157348139:=0
def tw2984171858086934779:=0
def tw10503003640471500681:=0
def tw16285283348037701207:=0
def tw4561679321804397165:=0
def tw17711557409067730195:=0
def tw9499662114772900291:=0
def tw16401485197095526556:=0
def tw18389755495943518128:=0
def tw16833798194810923186:=0
def tw16076988076686190144:=0
def tw3665150922229896538:=0
def tw7987451744416063239:=0
def tw1349284979387924141:=0
def tw4726738261238315843:=0
def tw15519606216130046190:=0
def tw476718424447565644:=0
def tw11016347669528911672:=0
def tw18379791106226557624:=0
def tw6529541070968553670:=0
def tw9825373004523174859:=0
def tw10131147522072697112:=0
def tw5149842593826277293:=0
def tw4708949810673571683:=0
def tw6871213005358422521:=0
def tw12126597737001360551:=0
def tw13482995207531360578:=0
def tw12038704819373453447:=0
def tw15426721843522586707:=0
def tw15739895572595345913:=0
def tw10904409671498061113:=0
def tw4901470612209329113:=0
def tw12925278118199915821:=0
def tw4254699492796345286:=0
def tw5357424107061160192:=0
def tw16188374886451868636:=0
def tw4613573590810986892:=0
def tw11840094505690099440:=0
def tw17196219146028014557:=0
def tw9855632664354933790:=0
def tw13019604766490675640:=0
def tw2124841465677266900:=0
def tw5027670065229466019:=0
def tw2148803214604683359:=0
def tw15283050832163133218:=0
def tw10397932236269884834:=0
def tw13569418641226162137:=0
def tw16346115589553834348:=0
def tw3324011456100167468:=0
def tw952969982387986327:=0
def tw16014924037164164667:=0
def tw12993381490930128521:=0
def tw11542050811845583391:=0
def tw7377089202518856529:=0
def tw9503566895010199973:=0
def tw5296373244509168056:=0
def tw13203299134157117259:=0
def tw11285632820578813356:=0
def tw5535732800500957586:=0
def tw5797832956172025500:=0
def tw3962550344332267131:=0
def tw8256732015862036748:=0
def tw9078949280019677321:=0
def tw277056540413814241:=0
def tw11896262430608654230:=0
def tw13898026406370854375:=0
def tw3866427287581520996:=0
def tw9704484870044578743:=0
def tw649127668495758285:=0
def tw6417932901339884485:=0
def tw1939631035560579878:=0
def tw5519428000429751461:=0
def tw3267661828986799801:=0
def tw15881649747785018551:=0
def tw16656121333574700633:=0
def tw7843335214541290315:=0
def tw603645802737120395:=0
def tw4868326328566176634:=0
def tw11354351013423833417:=0
def tw11874034431663636873:=0
def tw409943287968243589:=0
def tw17913682953937508885:=0
def tw13205798297343129942:=0
def tw12472002174571716546:=0
def tw16659253667721962874:=0
def tw1839339062924970253:=0
def tw17302536686150558836:=0
def tw18429987815900551174:=0
def tw17055563180262144638:=0
def tw4739210493644066854:=0
def tw16086931399747871106:=0
def tw3326501185181868902:=0
def tw12977762188217945118:=0
def tw9780502722030605900:=0
def tw18235318398861291135:=0
def tw12224137103340431446:=0
def tw6675929043073186018:=0
def tw16960100525168067233:=0
def tw7218174141850539883:=0
def tw16642475161489645338:=0
def tw11294708968531585430:=0
def tw11302463543145811266:=0
def tw17048913097024219004:=0
def tw11240433343423685625:=0
def tw155062787027453611:=0
def tw13229283339241484086:=0
def tw9173113582526138904:=0
def tw5172191545280029083:=0
def tw17293700353758236485:=0
def tw11878249310003265193:=0
def tw5296435500803984738:=0
def tw5271016981748626142:=0
def tw17753620357893453008:=0
def tw987121984806381076:=0
def tw13261735104187222191:=0
def tw12819509769593544030:=0
def tw16513748817748439458:=0
def tw13767265651844582997:=0
def tw14463715099687164857:=0
def tw3028667390544110206:=0
def tw963151995401341735:=0
def tw506581415959002430:=0
def tw13168071262779152586:=0
def tw5613062799160048113:=0
def tw934254705679918326:=0
def tw1639091908882721297:=0
def tw9298862269722981636:=0
def tw9925433927502540086:=0
def tw6704685785853939670:=0
def tw12260955500893243027:=0
def tw12108160073695370138:=0
def tw12989716906553012666:=0
def tw12783563236809982538:=0
def tw8593914571879297959:=0
def tw16068265013950120320:=0
def tw16623025864578286653:=0
def tw1140436839392152616:=0
def tw6131357322764483397:=0
def tw11211119887913785276:=0
def tw1877452404912540684:=0
def tw6380157745281765234:=0
def tw690787572489291574:=0
def tw6609867729324216819:=0
def tw11329287825765510127:=0
def tw12868966955823431098:=0
def tw15807204189379180375:=0
def tw8140498498926474976:=0
def tw7414048996063485118:=0
def tw811100103286273989:=0
def tw97593028398220986:=0
def tw4835595568853400755:=0
def tw3368925863098925343:=0
def tw2322274717814302552:=0
def tw11012271005332154887:=0
def tw13828075948274592281:=0
def tw9280110379029384207:=0
def tw7158491079435395892:=0
def tw3729560482950329486:=0
def tw16088877845255525291:=0
def tw7674749944771843058:=0
def tw16265840323927844098:=0
def tw5475312208402863882:=0
def tw6286901430850991882:=0
def tw13702269569795910906:=0
def tw16083975502255923283:=0
def tw103704068887231727:=0
def tw4677106097307700123:=0
def tw13468422687147213477:=0
def tw11017116811931676885:=0
def tw18186707005309629743:=0
def tw13012241612163595913:=0
def tw5269628814270944035:=0
def tw4867514750600286049:=0
def tw10906930585152847329:=0
def tw1982218578579943029:=0
def tw15722607804318221324:=0
def tw1081800534571709807:=0
def tw2350640066991207454:=0
def tw16432269570347384642:=0
def tw15714606141384983722:=0
def tw15217673273626442659:=0
def tw9111088813232736398:=0
def tw4326201893883499319:=0
def tw3862022658066858278:=0
def tw3305100729139018173:=0
def tw17708240541447808224:=0
def tw4932089792680338587:=0
def tw9045386016994801805:=0
def tw14552790520443149582:=0
def tw7717296885084889256:=0
def tw2414671388888576278:=0
def tw4834285258912469436:=0
def tw14147370957798584759:=0
def tw8124414376987938831:=0
def tw12874009914773689536:=0
def tw10294432038134163638:=0
def tw620582687081396794:=0
def tw10147810795000037723:=0
def tw14829873394139252637:=0
def tw3669995605887489387:=0
def tw18167282176621227556:=0
def tw13120516065488392869:=0
def tw1679136418250363748:=0
def tw2321379393595063312:=0
def tw12035611666793984247:=0
def tw2781980818857106065:=0
def tw15230724703003951872:=0
def tw13925443364417317568:=0
def tw13596142501316909200:=0
def tw4769720803262239185:=0
def tw3555758781222649653:=0
def tw14399911177722366040:=0
def tw12678222913941021035:=0
def tw10768489926014955739:=0
def tw15517328503464834764:=0
def tw216152805410462298:=0
def tw5822365389923730632:=0
def tw6428152470100543589:=0
def tw244566984528297516:=0
def tw6509520526752127435:=0
def tw3927799765639259105:=0
def tw1515390508107729899:=0
def tw5598141553467546742:=0
def tw4774243327893107679:=0
def tw6865758419740326185:=0
def tw15338970855234264219:=0
def tw7284170403247837174:=0
def tw17260978111498309934:=0
def tw2031762484142110283:=0
def tw16007451235533849340:=0
def tw2181602620077970140:=0
def tw12206954580765099014:=0
def tw7323064701919946781:=0
def tw7052527263753783274:=0
def tw9206073431482425409:=0
def tw14163221575679787942:=0
def tw3903335758285680969:=0
def tw3730932530580884129:=0
def tw3896500694360060690:=0
def tw6372322669703034157:=0
def tw11823006907529949320:=0
def tw11100700268863124514:=0
def tw9239726891767998810:=0
def tw10543376666639124901:=0
def tw10188271621898956191:=0
def tw12729352292486559673:=0
def tw737458488819095745:=0
def tw18211320742258811353:=0
def tw963795324981339100:=0
def tw13729524234753042264:=0
def tw8118926112364086161:=0
def tw17516531922772765267:=0
def tw174146802083238199:=0
def tw12321029675385424487:=0
def tw8663148178569778959:=0
def tw11927270563323458178:=0
def tw16456924688021160079:=0
def tw16799107732794867979:=0
def tw6366118720669702375:=0
def tw10459725581044319457:=0
def tw11639738263349462037:=0
def tw401273838647934468:=0
def tw7397314104835249264:=0
def tw2900816489633978410:=0
def tw13942039754491338779:=0
def tw8467018861296930952:=0
def tw16983701806224956778:=0
def tw14330452670995403459:=0
def tw3789353135720462203:=0
def tw8628042116623698905:=0
def tw13889075783803073:=0
def tw5598782609356283536:=0
def tw5343342854343679541:=0
def tw4739547658833966923:=0
def tw7961048165150211815:=0
def tw4072727370207232211:=0
def tw11721007508707919584:=0
def tw12077541612946564952:=0
def tw9065615630105158163:=0
def tw4773111589436760370:=0
def tw10426704635654795583:=0
def tw7989721399540049302:=0
def tw3257783859827661856:=0
def tw3567461607274317782:=0
def tw11979395975907853660:=0
def tw9938833574077269404:=0
def tw3812661979469823554:=0
def tw52822553706186345:=0
def tw9939730608695880881:=0
def tw14986521567925443426:=0
def tw281388814411501098:=0
def tw2860986077675142564:=0
def tw9852918207259242569:=0
def tw154826816060620334:=0
def tw10993426930893002710:=0
def tw13440672937257105475:=0
def tw10921663964773922969:=0
def tw727225732451559629:=0
def tw11308977048909729549:=0
def tw6708472677244468721:=0
def tw18134424017686646870:=0
def tw5458672024026611982:=0
def tw15821325225209117717:=0
def tw18034173946885960265:=0
def tw13883509756246239864:=0
def tw1264449329558205438:=0
def tw3479910766070282713:=0
def tw4812354579522069416:=0
def tw7552264959473197438:=0
def tw12709281133283830158:=0
def tw9002007474925111982:=0
def tw4553183185962499874:=0
def tw15925559078255159366:=0
def tw1781359342212384942:=0
def tw3267785365011834667:=0
def tw990654986717338677:=0
def tw3711732862599442358:=0
def tw12858197862237426498:=0
def tw6512197584464019973:=0
def tw8986665228314613889:=0
def tw9743314329770719880:=0
def tw4655041377858741437:=0
def tw7342731358535755988:=0
def tw2474176280176141553:=0
def tw4805552105378548480:=0
def tw16202284587688619263:=0
def tw10734274273817507415:=0
def tw772654239034393081:=0
def tw11521366011438597615:=0
def tw3242812324057146735:=0
def tw4358199461094889492:=0
def tw4583589387611628583:=0
def tw11767062953971915402:=0
def tw10406884630992049796:=0
def tw12144927858369742416:=0
def tw54227642653512628:=0
def tw14624549576687271724:=0
def tw753603153023260754:=0
def tw15269177592629840520:=0
def tw5809690341775566703:=0
def tw10818732629529435349:=0
def tw5971421689631738479:=0
def tw4645896562220936819:=0
def tw17790411696809486751:=0
def tw16942605260793565536:=0
def tw7190909501288180987:=0
def tw9106007582577357366:=0
def tw9167119704870145608:=0
def tw2868359256377300615:=0
def tw17719545437764883331:=0
def tw12456534016856836624:=0
def tw17969529218661223893:=0
def tw3765795032494731348:=0
def tw1469197558972865995:=0
def tw9065563173133656468:=0
def tw3612882476137018038:=0
def tw5710263783740907833:=0
def tw13113482960847830824:=0
def tw6213062845456118939:=0
def tw12387792575625287232:=0
def tw15019053481987478048:=0
def tw12710843299930531768:=0
def tw13287846710028476212:=0
def tw14928389535195301093:=0
def tw18054425742266937617:=0
def tw4524204119516169609:=0
def tw5687700547951898018:=0
def tw15577905856013559837:=0
def tw15140525205226381536:=0
def tw8501618410100686781:=0
def tw2016549554527008968:=0
def tw843727171367714154:=0
def tw4391767445448578664:=0
def tw17512489127682815549:=0
def tw17298581065908953619:=0
def tw11660402095566761973:=0
def tw6907818518052011938:=0
def tw10238901742811581456:=0
def tw17055514626923853624:=0
def tw2970962915357754728:=0
def tw11120407255372593081:=0
def tw8736790493161107512:=0
def tw2070092498517966425:=0
def tw15139411177096546827:=0
def tw7287489537626884480:=0
def tw14716768472701706289:=0
def tw6095097971478298036:=0
def tw5566492348737423944:=0
def tw10431518884112986425:=0
def tw1604235619567448421:=0
def tw16636028063208351881:=0
def tw1983167623819296329:=0
def tw10910513304939835213:=0
def tw4757051526537824230:=0
def tw17949715801414946173:=0
def tw15084862147248654700:=0
def tw12336011247115196989:=0
def tw16859041721370856519:=0
def tw15370743330723165018:=0
def tw4554568135518056217:=0
def tw6878449252534713909:=0
def tw1961218748202791266:=0
def tw6886144828181717367:=0
def tw10648797178896534494:=0
def tw11773855372825067251:=0
def tw1308564717222738540:=0
def tw7681939895953694897:=0
def tw18432970921577821445:=0
def tw9932649500933149307:=0
def tw9139356271864791662:=0
def tw2478261295809000939:=0
def tw12070271771912902263:=0
def tw742270712932179867:=0
def tw7329343021472074552:=0
def tw18016684973630222916:=0
def tw14848843688053696422:=0
def tw3004917711663528660:=0
def tw6536628212608331391:=0
def tw10540779550123344042:=0
def tw11065739973116463798:=0
def tw12263352575339805843:=0
def tw10059781819584347807:=0
def tw12910032754612790784:=0
def tw1170025229508693469:=0
def tw8369526492880777262:=0
def tw13138399807619264082:=0
def tw16824981583194156360:=0
def tw2164550792994678201:=0
def tw10038965401984815259:=0
def tw14154478907538073728:=0
def tw8950420450022899430:=0
def tw13941057842249394735:=0
def tw13814367981777090831:=0
def tw6699896382725298228:=0
def tw6475757039119406545:=0
def tw6914792644651565790:=0
def tw10528625223297884503:=0
def tw15229638828167406531:=0
def tw6609934381017330058:=0
def tw2945890247851527382:=0
def tw2260171046241248995:=0
def tw15195405123796793393:=0
def tw10149305293787022615:=0
def tw8592378314566692046:=0
def tw8100074088021822975:=0
def tw9524365541966352173:=0
def tw3709991107195544470:=0
def tw9596189092785647959:=0
def tw13213931237114529836:=0
def tw615104339859625200:=0
def tw16110938319181413737:=0
def tw13720269342501944613:=0
def tw5173326509221119516:=0
def tw376421770282543647:=0
def tw3221186956628107498:=0
def tw10899112580310723001:=0
def tw12386996397652828764:=0
def tw15732707481691492794:=0
def tw6346168591774047038:=0
def tw8020148215162076168:=0
def tw2444455216981289094:=0
def tw15636577908296373873:=0
def tw7016506962325154232:=0
def tw16235064999232259106:=0
def tw1236701482330942209:=0
def tw7003870383826584168:=0
def tw6172082442986456479:=0
def tw10295902765177058500:=0
def tw8668490645679239617:=0
def tw1138437316342029251:=0
def tw7574638139082723943:=0
def tw6110985270080582294:=0
def tw17699613930616565018:=0
def tw2142998849642436529:=0
def tw3530911064470041869:=0
def tw3858636931976063026:=0
def tw16827340408304482906:=0
def tw1980496685015331986:=0
def tw2675476357452439669:=0
def tw7280072619067854262:=0
def tw4177747697767342919:=0
def tw6925043968711001361:=0
def tw2723976959905499114:=0
def tw16607328600906589092:=0
def tw917057085715193697:=0
def tw15013169791000438360:=0
def tw3254069560058002332:=0
def tw15302195038757840715:=0
def tw12059358584484674239:=0
def tw4964226061901503044:=0
def tw2213279926035571470:=0
def tw14147660658561753940:=0
def tw13598652678989566455:=0
def tw4160194521664225211:=0
def tw8562078488984215012:=0
def tw10618008239228634164:=0
def tw341033481025017194:=0
def tw1769879104685971256:=0
def tw6703624184984929413:=0
def tw11524898219616563945:=0
def tw12801539666601430842:=0
def tw11743012584878948343:=0
def tw716827828799999291:=0
def tw14935488027118612545:=0
def tw2777560774307719814:=0
def tw13932199047935080240:=0
def tw15398601243316908623:=0
def tw9289134423954412103:=0
def tw7782945136267191921:=0
def tw1073256846736877714:=0
def tw15426174040622590848:=0
def tw8733080979776260788:=0
def tw1986263756868979470:=0
def tw11138939330290094104:=0
def tw6116101151329600381:=0
def tw16370803597950566545:=0
def tw11580265658061693544:=0
def tw1753113749443392194:=0
def tw17512049451602686361:=0
def tw18412867729345382912:=0
def tw17879544804783657828:=0
def tw7406439818512358720:=0
def tw12788662052561047123:=0
def tw3812953325174824360:=0
def tw13697724237566663141:=0
def tw4650317950032994851:=0
def tw17847143625103622280:=0
def tw4848500445954919841:=0
def tw3262659734303648450:=0
def tw2900424158985244551:=0
def tw10211232727579750871:=0
def tw6413884238859735421:=0
def tw6820608540760385851:=0
def tw16090409227306202218:=0
def tw17408379067496424002:=0
def tw3063730824577129156:=0
def tw3991721064727739921:=0
def tw16873925237917625031:=0
def tw5155183068225642437:=0
def tw7687354324433880912:=0
def tw17339175429745321827:=0
def tw5863859233089582036:=0
def tw11968738328442491831:=0
def tw9863427018514813047:=0
def tw5354409192233644273:=0
def tw1964010777562861463:=0
def tw9904744985649131107:=0
def tw2895526140355609762:=0
def tw6739816985557151434:=0
def tw11958729786290054752:=0
def tw12169851445943392454:=0
def tw12167052031007677686:=0
def tw13438335243874351449:=0
def tw3624508598132112960:=0
def tw12667227460000535127:=0
def tw14720551213345104874:=0
def tw3416523960369528931:=0
def tw17713298190808949643:=0
def tw15449040127737752044:=0
def tw10489416074595049822:=0
def tw976205958314477357:=0
def tw3260479413861643853:=0
def tw6505110738215675915:=0
def tw16010770588410494983:=0
def tw17334550768121643032:=0
def tw4269933213919864939:=0
def tw4641845480773238225:=0
def tw15716620796137582214:=0
def tw13750297327861281236:=0
def tw8782577864991846360:=0
def tw11723511200431373008:=0
def tw9223043810108632683:=0
def tw16840217890304011775:=0
def tw8843936341101191314:=0
def tw7537411798298915035:=0
def tw8785435212354797596:=0
def tw17908460294344660621:=0
def tw5276040867724216692:=0
def tw12776254973318751823:=0
def tw7730571000701477221:=0
def tw8583519998336626272:=0
def tw8589216575266468047:=0
def tw1736267073173817540:=0
def tw9352621121568825848:=0
def tw16968833230521952310:=0
def tw16580876887650624007:=0
def tw3024490210902021670:=0
def tw7113441875300360161:=0
def tw12482098084535974200:=0
def tw2223407545469298927:=0
def tw3546037255003654047:=0
def tw7267399925420945466:=0
def tw17808722763412428964:=0
def tw4073109417841877039:=0
def tw12029538346705112392:=0
def tw13922388897904113836:=0
def tw14675317310839054666:=0
end PySem.W.Fast
open PySem PySem.W PyProof.Rows
set_option maxRecDepth 100000 in
set_option maxHeartbeats 0 in
theorem PySem.Challenge.cw_talkhall_k04_people_and_rooms_holds : PySem.Challenge.rw_talkhall_k04_people_and_rooms.Holds := by
 w_on;o_law;k_head;(case hw=>w_witness2)
 k_fill
 refine M04.walk (l:=PySem.Challenge.rw_talkhall_k04_people_and_rooms) rfl rfl (fun w h ρ=>PySem.W.kIn_of ρ) ?F
 case F=>
  intro w mg fa h KX G S9
  refine' M04.all_mk KX G S9 ?_ ?_ ?_ ?_ ?_ ?_ ?_ ?_ ?_ ?_ ?_
  all_goals first|k_is|kernel_rfl|skip
