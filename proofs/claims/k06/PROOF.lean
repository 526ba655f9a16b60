import PyProof.Rows.All
import Wide.All
import OpenK.AllK
import Wide.FinOn
import Lean
import PyProof.EqAt
import PyProof.EqKinds
import PyProof.TupleCall
import PyProof.ExcArgsOwn
import PyProof.AttrMissSeq
import KE.KMinKey
import KE.KBoundM
import KE.KSortTup
import KE.KItemsList
import PyProof.SeqI3
import PySem.Challenge.RW_talkhall_k06_owners
set_option Elab.async false
set_option linter.all false
set_option maxRecDepth 100000
set_option bootstrap.genMatcherCode false
set_option genSizeOf false
set_option maxHeartbeats 4000000
def ak:=@PySem.wpAny_bind
def bq:=@List.getElem?_eq_getElem
def bh:=@PySem.Heap.get?_push_of_some
def aK:=@List.length_map
def aC:=@PySem.wpAny_pure
def bF:=@List.mem_cons_of_mem
def aV:=@List.mem_cons
def bA:=@List.getElem?_map
def aQ:=@Nat.le_refl
def ba:=@List.map_cons
def aO:=@PySem.Heap.lt_size
def bp:=@Bool.and_eq_true
def bG:=@PySem.Heap.get?_push_size
def au:=@if_pos
def bH:=@List.set_cons_succ
def bI:=@List.set_cons_zero
def bM:=@List.mem_cons_self
def bB:=@beq_self_eq_true
def bu:=@Nat.ne_of_lt
def cn:=@List.size_toArray
def bX:=@List.lookup_cons
def ay:=@if_neg
def cy:=@Nat.lt_of_lt_of_le
def dD:=@List.getD_eq_getElem?_getD
def cc:=@List.not_mem_nil
def cA:=@Bool.false_eq_true
def cI:=@List.mem_append_right
def cE:=@List.mem_singleton
def bP:=@Nat.le_trans
def bS:=@List.mem_map
def dm:=@List.mem_of_getElem?
def cG:=@List.length_cons
def bY:=@List.map_map
def cF:=@Option.map_some
def cJ:=@List.all_eq_true
def dU:=@List.contains_iff_mem
def fi:=@List.getElem?_eq_some_iff
def cR:=@List.mem_append
def dE:=@of_decide_eq_true
def dW:=@List.length_append
def cS:=@Bool.not_true
def bJ:=@if_false
def eR:=@Bool.false_ne_true
def iu:=@List.getElem?_eq_none_iff
def fj:=@Array.length_toList
def fk:=@List.mem_map_of_mem
def cT:=@Nat.le_of_lt
def cU:=@Nat.ne_of_gt
def fV:=@PySem.Around.under_plainId
def dX:=@PySem.W.kia_one
def fY:=@List.map_congr_left
def eC:=@decide_eq_false
def dY:=@Bool.not_false
def dH:=@Nat.lt_irrefl
def cf:=@or_false
def jj:=@List.filter_cons_of_neg
def c_:=@PySem.sizeLine_eq
def bT:=@if_true
def eV:=@PySem.codeAny_builtin
def cq:=@congrArg
def fm:=@List.mem_filter
def iw:=@beq_eq_false_iff_ne
def dF:=@Nat.zero_le
def gF:=@decide_eq_true_eq
def eD:=@PySem.wpAny_holding
def fZ:=@PySem.wpAny_call_entry
def kn:=@List.filter_cons_of_pos
def jk:=@List.mem_append_left
def f9:=@List.nodup_cons
def dq:=@PySem.wpAny_mono
def iy:=@PySem.wpAny_setField_rec
def ko:=@PySem.W.hideAll_none
def mn:=@PySem.F.slot_list_append
def f_:=@PySem.wpAny_seqItems
def dZ:=@beq_iff_eq
def jl:=@Option.isSome_map
def mq:=@PySem.F.plain_min_loop
def kr:=@PySem.mem_of_lookup
def f':=@PySem.plainId_quiet
def mr:=@PySem.Calls.callWith_builtin
def mv:=@PySem.Heap.get?_update_other
def mw:=@Array.getElem?_toList
def ky:=@List.mem_filterMap
def gG:=@List.all_cons
def pA:=@PySem.F.type_list_append
def iz:=@decide_eq_true
def pB:=@PySem.F.plainAttrs_dict
def kz:=@Nat.lt_succ_of_lt
def kA:=@Int.toNat_natCast
def jm:=@List.append_nil
def jn:=@List.find?_cons
def jo:=@beq_false_of_ne
def jq:=@List.map_append
def my:=@PySem.Calls.evalArgs_plain
def mz:=@List.replicate_succ
def fo:=@PySem.wpAny_field
def iA:=@List.any_cons
def pC:=@PySem.wpAny_callSpecial?_slot
def mB:=@Option.isSome_some
def pD:=@PySem.F.slot_dict_get
def nE:=@List.getElem?_append_left
def lr:=@List.getElem?_set_ne
def jK:=@PySem.Calls.spliced_cons
def lu:=@PySem.W.hideAll_get
def jL:=@PySem.wpAny_newObj_type
def nF:=@PySem.Str.length_append
def jM:=@PySem.wpAny_setState_of
def jO:=@List.getElem_mem
def eL:=@PySem.wpAny_rule
def lx:=@PySem.W.of_hideAll
def nG:=@List.getElem?_set_self
def nH:=@PySem.W.funFrames_hide
def iK:=@PySem.Heap.size_push
def jP:=@List.length_set
def nJ:=@List.length_filter_le
def ly:=@List.flatten_cons
def lz:=@List.getElem?_set
def gH:=@PySem.codeAny_mono
def lA:=@PySem.wpAny_Call_Name_kw
def lB:=@PySem.tupleKind_room_in1
def lC:=@Nat.succ_ne_self
def lD:=@Nat.le_add_right
def lE:=@PySem.wpAny_pyIter_list
def ra:=@List.drop_eq_getElem_cons
def nK:=@List.filterMap_cons
def nL:=@PySem.W.plainGet_of
def nM:=@List.filter_eq_self
def rb:=@Option.isSome_iff_exists
def jQ:=@Bool.false_or
def rf:=@PySem.F.slot_tuple_iterator_next
def jR:=@PySem.wpAny_tryCatch
def iL:=@PySem.call_meetsIn
def iM:=@PySem.F.called_set
def nN:=@Option.isSome_none
def rg:=@List.getElem?_replicate
def rh:=@PySem.F.plainAttrs_list
def ri:=@PySem.F.plain_list_iadd
def nO:=@PySem.Heap.SameBut.update
def rj:=@PySem.F.entry_dict_get
def nP:=@List.ext_getElem?
def nQ:=@Bool.not_eq_true'
def lF:=@PySem.wpAny_ite_split
def rn:=@PySem.F.slot_dict_pop
def nR:=@Nat.lt_succ_self
def nT:=@List.filter_cons
def nU:=@Option.getD_some
def nV:=@PySem.wpAny_truthy_bool
def nW:=@PySem.Calls.spliced_nil
def jT:=@List.map_id
def rq:=@Array.toArray_toList
def nX:=@List.forIn_cons
def nY:=@List.filter_map
def nZ:=@Option.map_none
def rA:=@PySem.Heap.get?_update_self
def rB:=@List.length_pos_iff
def vE:=@PyProof.Rows.callWith_type1
def lG:=@List.map_nil
def n5:=@PySem.wpAny_isInstance
def vF:=@List.getElem?_append_right
def rD:=@Nat.lt_of_le_of_lt
def n6:=@PySem.wpAny_passesOwn
def n8:=@PySem.wpAny_updateSeq
def rE:=@PySem.W.kitx_dict
def vG:=@PyProof.Rows.slot_tuple_getitem
def rG:=@bne_self_eq_false
def rH:=@List.length_range
def rJ:=@List.filter_congr
def vH:=@PySem.F.slot_tuple_index
def n_:=@Bool.true_and
def vI:=@PySem.Calls.Name_function_global
def jU:=@PySem.call_meets
def rK:=@List.drop_length
def vJ:=@decide_eq_false_iff_not
def og:=@List.all_map
def vK:=@Nat.le_of_succ_le_succ
def vL:=@PySem.F.entry_min_loop
def rL:=@List.of_mem_zip
def rM:=@PySem.wpAny_Call_method
def rN:=@PySem.W.kia_tup
def rO:=@Bool.eq_iff_iff
def lH:=@PySem.wpAny_letGo
def vM:=@List.length_replicate
def oh:=@PySem.wpAny_newList
def vN:=@PySem.F.slot_list_getattribute
def rP:=@List.mem_range
def oj:=@Nat.le_succ
def rQ:=@PySem.wpAny_execs_nil
def rR:=@Bool.or_false
def rS:=@PySem.PassesOwn.never
def rV:=@PySem.F.slot_zip_next
def vO:=@PySem.W.callWith_K
def vP:=@PySem.builtinLookup_eq_fast
def vQ:=@PySem.F.typeOf_object_class
def vR:=@Option.isNone_some
def A9:=@List.findIdx?_eq_some_iff_getElem
def rW:=@PySem.W.looks_findIn
def vS:=@PySem.W.kitx_list
def vU:=@List.append_assoc
def vV:=@List.nodup_append
def vW:=@PySem.codeAny_call_builtin
def lI:=@PySem.W.Looks.ld
def vX:=@Nat.le_of_lt_succ
def vY:=@PyProof.Rows.F.plain_set_update_loop
def vZ:=@decide_eq_decide
def rX:=@PySem.wpAny_attempt
def om:=@PySem.wpAny_load
def oo:=@PySem.wpAny_call
def v5:=@List.length_nil
def v7:=@Nat.not_lt_zero
def v8:=@List.filter_nil
def v9:=@Int.emod_nonneg
def A_:=@PySem.F.plain_proto_collect
def v_:=@Bool.false_and
def wa:=@Bool.and_false
def Ba:=@List.length_eraseIdx_of_lt
def wb:=@PySem.fits_of_scanBound
def rY:=@PySem.wpAny_typeOf
def wc:=@List.forIn_nil
def Bc:=@PySem.F.excBase_ValueError
namespace HT
open PySem PyProof.Rows
section
open PySem.SeqAt
open PySem.AutoSeq1 (wpAny_loadPart')
open PySem.MeetsSeq PySem.MeetsSeq2 PySem.MeetsSeq3
end
section
variable {prog:Program}{w:World}{A:Around}{E:Value->Shared->Prop}{s:Shared}
theorem LZ{t b:Addr}{vs ws:List Value}{Q:Value->Shared->Prop}(ht:IsTup s.heap t vs.toArray)(hb:IsTup s.heap b ws.toArray)(hv:vs≠[])
  (h1:ws=[]->Q (.ref t) s) (h2:ws≠[]->Q (.ref s.heap.objs.size) {s with heap:=s.heap.push {cls:=.type "tuple",data:=.seq (vs++ws).toArray}})
  (hsz:vs.length+ws.length<=sizeLine):wpAny (model prog w) A (binaryOp .Add (.ref t) (.ref b)) Q E s:=by
 obtain⟨⟨cls,dd,data,sl⟩,ho,hc,n,hd⟩:=id ht;obtain⟨⟨aaZ,TB,data2,X'⟩,Ya,hc2,n2,hd2⟩:=id hb;simp only at hc hd hc2 hd2;subst hc hd hc2 hd2;have e:vs.toArray++ws.toArray=(vs++ws).toArray:=by simp
 by_cases hw:ws=[]
 ·exact concat_meets ⟨_,ho,rfl⟩ ⟨_,Ya,rfl⟩ noFill_tuple_add seq_tuple_add PySem.F.slot_tuple_add PySem.F.entry_tuple_add (PySem.F.args_tuple_add_2 _ _)
   (tuple_addW1 t b vs.toArray ws.toArray n n2 dd TB sl X' (by simpa using hv) (by simp[hw])) ⟨ho,Ya,h1 hw⟩
 ·refine concat_meets ⟨_,ho,rfl⟩ ⟨_,Ya,rfl⟩ noFill_tuple_add seq_tuple_add PySem.F.slot_tuple_add PySem.F.entry_tuple_add (PySem.F.args_tuple_add_2 _ _)
   (tuple_addW2 t b vs.toArray ws.toArray n n2 dd TB sl X' (by simpa using hv) (by simpa using hw) (by rw[List.size_toArray,List.size_toArray];exact hsz)) ⟨ho,Ya,?_⟩
  rw[e];exact h2 hw
def gb(n d:Nat):Option Int->Nat
 |none=>d
 |some v=>if v<0 then(v+(n:Int)).toNat else min v.toNat n
theorem Px(n d:Nat)(hd:d<=n)(o:Option Int):gb n d o<=n:=by
 cases o with
 |none=>exact hd
 |some v=>
  show(if v<0 then(v+(n:Int)).toNat else min v.toNat n)<=n;by_cases hv:v<0
  ·rw[if_pos hv];omega
  ·rw[if_neg hv];exact Nat.min_le_right _ _
theorem EI(v:Int)(n d:Nat):(if v<0 then max (v+(n:Int)) 0 else min v (n:Int))=((gb n d (some v):Nat):Int):=by
 show(if v<0 then max (v+(n:Int)) 0 else min v (n:Int))=(((if v<0 then(v+(n:Int)).toNat else min v.toNat n):Nat):Int);by_cases hv:v<0
 ·simp only[if_pos hv];omega
 ·simp only[if_neg hv];omega
theorem Di(lo hi:Option Int)(n:Nat):Builtin.Slice.sliceAdjust lo hi 1 (n:Int)=(((gb n 0 lo:Nat):Int),((gb n n hi:Nat):Int)):=by
 have h1:¬((1:Int)<0):=by omega
 unfold Builtin.Slice.sliceAdjust;simp only[h1,if_false];refine Prod.ext ?_ ?_
 ·cases lo with
  |none=>rfl
  |some v=>exact EI v n 0
 ·cases hi with
  |none=>rfl
  |some v=>exact EI v n n
theorem Dj(i j:Nat):Builtin.Slice.slicePlaces (i:Int) (j:Int) 1=j - i:=by
 unfold Builtin.Slice.slicePlaces;have h1:(1:Int)>0:=by omega
 simp only[h1,if_true,Int.ediv_one];split<;>omega
theorem wd{v:Value}{o:Option Int}{Q:Option Int->Shared->Prop}(p:IsPart v o)(h:Q o s):wpAny (model prog w) A (Builtin.Slice.slicePartIndex v) Q E s:=by
 cases p with
 |none=>exact slicePart_none h
 |int i t=>exact slicePart_int h
theorem lJ{sl:Addr}{vl vu:Value}{lo hi:Option Int}{n:Nat}{Q:Int×Int×Nat->Shared->Prop}(hs:s.heap.IsSliceOf sl vl vu .none)(pl:IsPart vl lo)(pu:IsPart vu hi)
  (h:Q (((gb n 0 lo:Nat):Int),1,gb n n hi - gb n 0 lo) s):wpAny (model prog w) A (Builtin.Slice.sliceApplied (.ref sl) (pure (n:Int))) Q E s:=by
 obtain⟨os,Py,Yb,Ub⟩:=id hs;unfold Builtin.Slice.sliceApplied Builtin.Slice.sliceFields;refine wpAny_bind (wpAny_bind (wpAny_field Py Ub (x:=vl) rfl (wpAny_bind (wpAny_field Py Ub (x:=vu) rfl (wpAny_bind (wpAny_field Py Ub (x:=.none) rfl (wpAny_pure ?_)))))));refine wpAny_bind (slicePart_none ?_);show wpAny _ _ (if((1:Int)==0)=true then _ else _) _ _ s;rw[if_neg (by decide)];refine wpAny_bind (wd pl (wpAny_bind (wd pu (wpAny_bind (wpAny_pure ?_)))));show wpAny _ _ (match Builtin.Slice.sliceAdjust lo hi 1 (n:Int)with|(lo,hi)=>pure (lo,(1:Int),Builtin.Slice.slicePlaces lo hi 1)) _ _ s;rw[Di lo hi n];show wpAny _ _ (pure (((gb n 0 lo:Nat):Int),(1:Int),Builtin.Slice.slicePlaces ((gb n 0 lo:Nat):Int) ((gb n n hi:Nat):Int) 1)) _ _ s;rw[Dj];exact wpAny_pure h
theorem Ig(xs:Array Value)(i k:Nat):((List.range k).filterMap fun(m:Nat)=>xs[((i:Int)+(m:Int)*1).toNat]?).toArray=((xs.toList.drop i).take k).toArray:=by
 have e:(fun(m:Nat)=>xs[((i:Int)+(m:Int)*1).toNat]?)=fun m=>xs[i+m]? :=by
  funext m;have:((i:Int)+(m:Int)*1).toNat=i+m:=by omega
  rw[this]
 rw[e];have:=pick_run xs i k;rw[List.filterMap_map]at this;have e2:((fun x=>xs[x]?)∘fun x=>i+x)=fun m=>xs[i+m]? :=rfl
 rw[e2]at this;rw[this]
theorem rZ{t sl:Addr}{a8:Array Value}{vl vu:Value}{lo hi:Option Int}{Q:Value->Shared->Prop}(ht:IsTup s.heap t a8)(hs:s.heap.IsSliceOf sl vl vu .none)(pl:IsPart vl lo)(pu:IsPart vu hi)
  (hw:¬(gb a8.size 0 lo=0/\gb a8.size a8.size hi=a8.size))
  (h:Q (.ref s.heap.objs.size) {s with heap:=s.heap.push {cls:=.type "tuple",data:=.seq ((a8.toList.drop (gb a8.size 0 lo)).take (gb a8.size a8.size hi - gb a8.size 0 lo)).toArray}})
  (hsz:a8.size<=sizeLine):wpAny (model prog w) A (getItem (.ref t) (.ref sl)) Q E s:=by
 have EJ:sizeOk (.seq ((a8.toList.drop (gb a8.size 0 lo)).take (gb a8.size a8.size hi - gb a8.size 0 lo)).toArray):=by
  show((a8.toList.drop (gb a8.size 0 lo)).take (gb a8.size a8.size hi - gb a8.size 0 lo)).toArray.size<=sizeLine;rw[List.size_toArray,List.length_take,List.length_drop,Array.length_toList];omega
 have hj:gb a8.size a8.size hi<=a8.size:=Px _ _ (Nat.le_refl _) hi;obtain⟨os,Py,Yb,Ub⟩:=id hs;have YS:s.TypeIs (.ref sl) "slice":=⟨os,Py,Yb⟩;unfold getItem
 try with_reducible refine wpAny_holding ?_
 first|refine wpAny_bind (wpAny_pure ?_)|skip
 refine wpAny_bind (wpAny_sequenceKey ht.typeIs (by decide) ?_);refine wpAny_bind (wpAny_callSpecial?_slot (name:=Str.ofString "__getitem__") ht.typeIs PyProof.Rows.slot_tuple_getitem
  (wpAny_call_entry PyProof.Rows.slot_tuple_getitem ht.typeIs entry_tuple_getitem ?_ (args_tuple_getitem _ _)))
 show wpAny _ _ (Builtin.Tuple.tupleItemsOf (.ref t)>>=_) _ _ s;refine wpAny_bind (tupleItemsOf_ ht ?_);refine wpAny_bind (wpAny_typeOf YS ?_);rw[if_pos (by decide)];refine wpAny_bind (lJ hs pl pu ?_);have Ih:¬((((gb a8.size 0 lo:Nat):Int)==0&&(1:Int)==1&&(gb a8.size a8.size hi - gb a8.size 0 lo)==a8.size)=true):=by
  intro q;rw[Bool.and_eq_true,Bool.and_eq_true]at q;have q1:((gb a8.size 0 lo:Nat):Int)=0:=eq_of_beq q.1.1;have q2:gb a8.size a8.size hi - gb a8.size 0 lo=a8.size:=eq_of_beq q.2;exact hw ⟨by omega,by omega⟩
 show wpAny _ _ (if(((gb a8.size 0 lo:Nat):Int)==0&&(1:Int)==1&&(gb a8.size a8.size hi - gb a8.size 0 lo)==a8.size)=true then _ else _) _ _ s;rw[if_neg Ih,Ig]
 first
  |exact wpAny_bind (m:=Builtin.Tuple.tupleExact _) (wpAny_newObj_type (wpAny_pure ⟨_,rfl,wpAny_pure h⟩) EJ)
  |exact wpAny_bind (m:=Builtin.Tuple.tupleExact _) (wpAny_newObj_type (wpAny_bind (wpAny_pure (wpAny_pure ⟨_,rfl,wpAny_pure h⟩))) EJ)
  |exact wpAny_bind (wpAny_bind (m:=Builtin.Tuple.tupleExact _) (wpAny_newObj_type (wpAny_pure (wpAny_pure ⟨_,rfl,wpAny_pure h⟩)) EJ))
  |exact wpAny_bind (wpAny_bind (m:=Builtin.Tuple.tupleExact _) (wpAny_newObj_type (wpAny_pure ⟨_,rfl,wpAny_pure h⟩) EJ))
end
end HT
namespace Att
open PySem PySem.W PySem.Calls PyProof.Rows
theorem uX{P:Params}{h:Heap}:∀(ns:List Int) (vs:List Value),WellAll P h vs (ns.map WData.int)->IntsAre vs ns:=by
 intro ns
 induction ns with
 |nil=>
  intro vs w;rw[List.map_nil]at w;cases w;exact .nil
 |cons n ns ih=>
  intro vs w;rw[List.map_cons]at w;cases w with
  |cons a b=>
   cases a;exact .cons _ _ (ih _ b)
theorem Gh{l:OpenLaw}{n:Nat}(hn:l.most=some n){P:Params}{h:Heap}{args:List WData}{vals:List Value}
  (L3:l.row.toRowW.claim.pre args=true) (Uc:WellAll P h vals args):
  ∃a vs ns,vals=[Value.ref a]/\args=[WData.list (ns.map WData.int)]/\h.get? a=some {cls:=.type "list",data:=.seq vs.toArray}/\IntsAre vs ns/\ns.length<=n:=by
 have YT:WShape.hasAll [] args [.list .int]=true:=(pre_splitW L3).1;have hc:l.pre.holds [] {args:=args}=true:=(pre_splitW L3).2;obtain⟨d,r,rfl,h1,h2⟩:=hasAllW_cons YT;obtain rfl:=hasAllW_nil h2;obtain⟨xs,rfl,h3⟩:=hasW_list h1;obtain⟨ns,rfl⟩:=items_int h3;have b9:ns.length<=n:=by
  unfold OpenLaw.pre at hc;have h4:(WTm.not (.lt (.lit (.int (n:Int))) (.len (.arg 0)))).holds [] {args:=[.list (ns.map .int)]}=true:=by
   have h4:=(holds_andW hc).1;rw[hn]at h4;exact h4
  have h5:=condW_of h4 (w_not (w_lt w_lit (w_len_list (w_arg rfl))));rw[List.length_map]at h5;refine Nat.le_of_not_lt fun q=>?_
  have q':(n:Int)<((ns.length:Nat):Int):=by omega
  first
   |(rw[decide_eq_true q']at h5;exact absurd h5 (by decide))
   |(simp at h5;omega)
 cases Uc with
 |cons w1 w2=>
  cases w2;cases w1 with
  |list ho tY=>exact⟨_,_,ns,rfl,rfl,ho,uX ns _ tY,b9⟩
theorem Gi(l:OpenLaw)(args:List WData):l.row.toRowW.claim.post args (.bool true) args=true:=
 postW_of (r:=l.row.toRowW) (X:=(true==true))
  (show WShape.has [] (.bool true) .bool=true by first|rfl|decide|simp[WShape.has,WShape.arms,WShape.armsAll])
  (show(WTm.eq .res (.lit (.bool true))).value [] {args:=args,res:=some (.bool true),after:=args}=some (.bool (true==true))from w_eq_bool (w_res rfl) w_lit) rfl
theorem Be{l:OpenLaw}{n:Nat}{q:Program}{loose:List Str}{XP:(Str->Option Value)->Heap->Prop}{YP:World->Heap->Prop}{d:DefRec}
  (hn:l.most=some n) (Ud:d.params.defaults=[])
  (call:∀(w:World) (fq cC:Shared) (mg mb:Str->Option Value) (fa:Addr) (o:Obj) (pm cd doc:Value) (a:Addr) (vs:List Value) (ns:List Int),
   Ground q loose [] XP w fq mg mb cC.heap->YP w cC.heap->
   cC.heap.get? fa=some o->o.data=.func (docDef d.name d.params d.body d.scope pm cd doc)->cC.heap.CodeRec cd d.name->mg d.name=some (.ref fa)->
   cC.heap.get? a=some {cls:=.type "list",data:=.seq vs.toArray}->IntsAre vs ns->ns.length<=n->cC.gens=#[]->
   codeAny (model l.prog w) callerA (.call (.ref fa) ⟨[.ref a],[]⟩) (fun r s'=>r=.ok (.ret (.bool true))/\OldK cC.heap s'.heap/\s'.os=cC.os/\AllBare s'.gens) cC):
  WalkO q loose XP YP l.row.toRowW d [] (fun f vs=>PySem.call f vs):=by
 intro w fq cC mg mb G ρ fa o pm cd doc dV kV ho hd Dk hD Ue hg args vals as L3 aa0 hrd Uc hlo;obtain rfl:dV=.none:=Dflts.none hD Ud;obtain rfl:kV=.none:=Dflts.noKw hD;obtain⟨a,vs,ns,rfl,rfl,Pz,hints,b9⟩:=Gh hn L3 Uc;refine enter_call (codeAny_mono (call w fq cC mg mb fa o pm cd doc a vs ns G ρ ho (fd_plain hd) Dk Ue Pz hints b9 hg) fun r s' hq=>?_);obtain⟨rfl,h2,h3,h4⟩:=hq;exact⟨.inl ⟨.bool true,.bool true,[],rfl,fun _=>rfl,.bool true,Gi l _,fun _=>⟨List.Pairwise.nil,fun _ hm=>(nomatch hm)⟩⟩,h2,h3,h4⟩
end Att
namespace PySem
abbrev Yc(h:Heap)(l1:Addr):Heap:=h.push {cls:=.type "tuple_iterator",data:=.fields #[.ref l1,.int 0 0]}
abbrev Yd(h:Heap)(l1 l2:Addr):Heap:=(Yc h l1).push {cls:=.type "tuple_iterator",data:=.fields #[.ref l2,.int 0 0]}
abbrev Ye(h:Heap)(l1 l2:Addr):Heap:=(Yd h l1 l2).push {cls:=.type "tuple",data:=.seq #[.ref h.objs.size,.ref (Yc h l1).objs.size]}
abbrev Yf(h:Heap)(l1 l2:Addr):Heap:=(Ye h l1 l2).push {cls:=.type "tuple",data:=.seq #[.none,.none]}
abbrev TC(h:Heap)(l1 l2:Addr):Heap:=(Yf h l1 l2).push {cls:=.type "zip",data:=.fields #[.none,.bool false,.bool false,.ref (Yd h l1 l2).objs.size,.ref (Ye h l1 l2).objs.size]}
theorem Dl(l1 l2:Addr)(xs ys:Array Value):Meets (Builtin.«zip.__new__» ⟨[.type "zip",.ref l1,.ref l2],[]⟩)
  (fun _ R s=>s.heap.IsTuple l1 xs/\s.heap.IsTuple l2 ys/\R (.ok (.ret (.ref (Yf s.heap l1 l2).objs.size))) {s with heap:=TC s.heap l1 l2}):=
 .of_wp fun prog w A R s h=>by
  obtain⟨hp,g,d,tk,os⟩:=s;obtain⟨HY,L4,h⟩:=h;have PB:=sub_zip;have Ug:Heap.IsTuple (Shared.heap ⟨hp,g,d,tk,os⟩) l1 xs:=HY;have hL2:Heap.IsTuple (Shared.heap ⟨hp.push {cls:=.type "tuple_iterator",data:=.fields #[.ref l1,.int 0 0]},g,d,tk,os⟩) l2 ys:=L4.at fun o e=>Heap.get?_push_of_some _ e
  wp_walk using wpAny_pyIter_tuple Ug,wpAny_pyIter_tuple hL2
  exact⟨_,rfl,h⟩
section
variable {prog:Program}{w:World}{A:Around}{E:Value->Shared->Prop}{s:Shared}
theorem Gj{l1 l2:Addr}{xs ys:Array Value}{Q:Value->Shared->Prop}(HY:s.heap.IsTuple l1 xs)(L4:s.heap.IsTuple l2 ys)
  (h:∀h',IsZip h' (s.heap.objs.size+4) (s.heap.objs.size+2) (s.heap.objs.size+3) .none->IsPair h' (s.heap.objs.size+2) (.ref s.heap.objs.size) (.ref (s.heap.objs.size+1))->
   IsPair h' (s.heap.objs.size+3) .none .none->h'.IsTupleIter s.heap.objs.size l1 0->h'.IsTupleIter (s.heap.objs.size+1) l2 0->(∀c o,s.heap.get? c=some o->h'.get? c=some o)->Q (.ref (s.heap.objs.size+4)) {s with heap:=h'}):
  wpAny (model prog w) A (call (.type "zip") [.ref l1,.ref l2]) Q E s:=by
 refine callType_new F.called_zip (by decide) (F.typeCall_zip_2 _ _) (F.newCall_zip_2 _ _) (fun obj=>F.args_object_init_3 obj _ _) F.entry_zip_new (Dl l1 l2 xs ys) ⟨HY,L4,?_⟩;have z1:(Yc s.heap l1).objs.size=s.heap.objs.size+1:=Heap.size_push ..;have z2:(Yd s.heap l1 l2).objs.size=s.heap.objs.size+2:=by rw[Heap.size_push,z1]
 have z3:(Ye s.heap l1 l2).objs.size=s.heap.objs.size+3:=by rw[Heap.size_push,z2]
 have z4:(Yf s.heap l1 l2).objs.size=s.heap.objs.size+4:=by rw[Heap.size_push,z3]
 have up:∀{h:Heap} {c:Addr} {o o':Obj},h.get? c=some o->(h.push o').get? c=some o:=fun e=>Heap.get?_push_of_some _ e;have g5:(TC s.heap l1 l2).get? (Yf s.heap l1 l2).objs.size=some _:=Heap.get?_push_size _ rfl;have g4:(TC s.heap l1 l2).get? (Ye s.heap l1 l2).objs.size=some _:=up (Heap.get?_push_size _ rfl);have g3:(TC s.heap l1 l2).get? (Yd s.heap l1 l2).objs.size=some _:=up (up (Heap.get?_push_size _ rfl));have g2:(TC s.heap l1 l2).get? (Yc s.heap l1).objs.size=some _:=up (up (up (Heap.get?_push_size _ rfl)));have g1:(TC s.heap l1 l2).get? s.heap.objs.size=some _:=up (up (up (up (Heap.get?_push_size _ rfl))));show _/\_;rw[z2,z3,z4]at g5;rw[z1,z2]at g3;rw[z3]at g4;rw[z1]at g2;rw[z4];exact⟨⟨_,g5,rfl⟩,h _ g5 g3 g4 ⟨_,g1,rfl,rfl⟩ ⟨_,g2,rfl,rfl⟩ fun c o x=>up (up (up (up (up x))))⟩
end
end PySem
namespace PySem.SeqAt
open PySem PySem.Spec PySem.Calls PyProof.Rows PySem.MeetsSeq
theorem Gk{M:Model}{A:Around}{E:Value->Shared->Prop}{s:Shared}{β:Type}(f:Nat->β->Sem (ForInStep β))(I:List Nat->β->Shared->Prop)(Q:β->Shared->Prop)
  (turn:∀x c8 b s,I (x::c8) b s->wpAny M A (f x b) (fun r s'=>match r with|.yield b'=>I c8 b' s'|.done b'=>Q b' s') E s)
  (fin:∀b s,I [] b s->Q b s) (n:Nat) (b:β) (h:I (List.range' 0 n) b s):wpAny M A (forIn [:n] b f) Q E s:=by
 rw[Std.Legacy.Range.forIn_eq_forIn_range'];simp only[Std.Legacy.Range.size,Nat.sub_zero,Nat.add_sub_cancel,Nat.div_one];exact wpAny_forIn_list f I Q turn fin _ b h
theorem yh(l:Addr)(a8:Array Value)(n:Nat)(dd:Option Addr)(sl:Array (Option Value))(x:Value)(e:Value->Bool)(j:Nat)(hj:j<a8.size)(hit:e a8[j]=true)(Ih:∀m (hm:m<a8.size),m<j->e a8[m]=false):
  Meets (Builtin.«tuple.index» ⟨[.ref l,x],[]⟩)
   (fun A R s=>s.heap.get? l=some {cls:=.type "tuple",dict:=dd,data:=.seq a8 n,slots:=sl}/\(∀y,y∈a8->EqAt A.in1 s y x (e y))/\R (.ok (.ret (.int j s.toks))) {s with toks:=s.toks+1}):=
 .of_wp fun prog w A R s h=>by
  obtain⟨hp,g,d,tk,os⟩:=s;obtain⟨hl,he,h⟩:=h
  wp_walk using wpAny_loadPart' hl,Gk _ (fun c8 (b:Option _×Unit) s'=>b.1=none/\s'=⟨hp,g,d,tk,os⟩/\∃i,c8=List.range' i (a8.size - i)/\i<=j) _
  case turn=>
   rintro y c8 b s' ⟨hb,rfl,i,hr,hi⟩
   have gn:i<a8.size:=Nat.lt_of_le_of_lt hi hj;obtain⟨rfl,Uh⟩:y=i/\c8=List.range' (i+1) (a8.size - (i+1)):=by
    have e:a8.size - i=(a8.size - (i+1))+1:=by omega
    rw[e,List.range'_succ]at hr;injection hr with h1 h2
    exact⟨h1,h2⟩
   rw[Array.getElem?_eq_getElem gn];refine wpAny_bind (he _ (Array.getElem_mem gn) prog w _ _ ?_);by_cases z:y=j
   ·subst z;rw[hit]
    wp_walk
    exact⟨_,rfl,h⟩
   ·rw[Ih y gn (by omega)]
    wp_walk
    exact⟨rfl,rfl,y+1,Uh,by omega⟩
  case fin=>
   rintro b s' ⟨hb,rfl,i,hr,hi⟩
   have e:a8.size - i=(a8.size - (i+1))+1:=by omega
   rw[e,List.range'_succ]at hr;exact nomatch hr
  case h=>exact⟨rfl,rfl,0,by rw[Nat.min_self,Nat.sub_zero],Nat.zero_le _⟩
end PySem.SeqAt
namespace HT
open PySem PyProof.Rows
section
variable {prog:Program}{w:World}{A:Around}{E:Value->Shared->Prop}{s:Shared}
theorem p4{t sl:Addr}{a8:Array Value}{vl vu:Value}{lo hi:Option Int}{Q:Value->Shared->Prop}(ht:IsTup s.heap t a8)(hs:s.heap.IsSliceOf sl vl vu .none)(pl:IsPart vl lo)(pu:IsPart vu hi)
  (hw:gb a8.size 0 lo=0/\gb a8.size a8.size hi=a8.size) (h:Q (.ref t) s):wpAny (model prog w) A (getItem (.ref t) (.ref sl)) Q E s:=by
 obtain⟨os,Py,Yb,Ub⟩:=id hs;have YS:s.TypeIs (.ref sl) "slice":=⟨os,Py,Yb⟩;unfold getItem
 try with_reducible refine wpAny_holding ?_
 first|refine wpAny_bind (wpAny_pure ?_)|skip
 refine wpAny_bind (wpAny_sequenceKey ht.typeIs (by decide) ?_);refine wpAny_bind (wpAny_callSpecial?_slot (name:=Str.ofString "__getitem__") ht.typeIs PyProof.Rows.slot_tuple_getitem
  (wpAny_call_entry PyProof.Rows.slot_tuple_getitem ht.typeIs entry_tuple_getitem ?_ (args_tuple_getitem _ _)))
 show wpAny _ _ (Builtin.Tuple.tupleItemsOf (.ref t)>>=_) _ _ s;refine wpAny_bind (tupleItemsOf_ ht ?_);refine wpAny_bind (wpAny_typeOf YS ?_);rw[if_pos (by decide)];refine wpAny_bind (lJ hs pl pu ?_);have YU:((((gb a8.size 0 lo:Nat):Int)==0&&(1:Int)==1&&(gb a8.size a8.size hi - gb a8.size 0 lo)==a8.size)=true):=by
  rw[hw.1,hw.2];simp
 show wpAny _ _ (if(((gb a8.size 0 lo:Nat):Int)==0&&(1:Int)==1&&(gb a8.size a8.size hi - gb a8.size 0 lo)==a8.size)=true then _ else _) _ _ s;rw[if_pos YU];refine wpAny_bind (m:=Builtin.Tuple.tupleIsExact (.ref t)) ?_
 show wpAny _ _ (typeOf (.ref t)>>=_) _ _ s;refine wpAny_bind (wpAny_typeOf ht.typeIs (wpAny_pure ?_));rw[if_pos (by decide)];exact wpAny_bind (wpAny_rule (wpAny_pure ⟨_,rfl,wpAny_pure h⟩))
end
end HT
namespace L2
open PySem.W (Frag)
open PySem PySem.Spec PyProof.Rows
variable {aa:Value}{ac:List Stmt}{ae:Addr}{af:List Expr}
variable {K:Frag}{U:List (Addr×Obj)}{pos p b8:Pos}{E Q:Value->Shared->Prop}{es:List Expr}{e tg o:Expr}{s:Shared}{a:Addr}{x:Str}{w:World}{A:Around}{mg:Str->Option Value}{i:Nat}{P:Program}{ps:List Str}
theorem fe{p:Prop}(h:False):p:=h.elim
abbrev Db(x:Str):Prop:=(x==("__debug__":Str))=false
abbrev r6(pos b8:Pos)(o:Expr)(m:Str)(es:List Expr)(env:Env)(pl:Sem Bool):Sem Value:=do
 let ov<-eval o env
 standAt b8.atName
 let(f,first)<-holding [ov] (getMethod ov m pl)
 callWith pos f first (backTo pos (starEach es env)) (backToKw pos (keywordEach [] env))
abbrev Key:=Sum Int Str
def lK:Key->Value->Bool
 |.inl k,v=>Value.isInt k v
 |.inr x,v=>Value.isStrOf x v
def YV(w:World):Key->Int
 |.inl k=>hashInt k
 |.inr x=>hashStr w x
theorem cW:∀{k:Key} {v:Value},lK k v=true->(∃i t,k=Sum.inl i/\v=Value.int i t)\/(∃x t,k=Sum.inr x/\v=Value.str x t)
 |.inl i,v,h=>by
  obtain⟨t,e⟩:=Value.isInt_shape (k:=i) (v:=v) h;exact .inl ⟨i,t,rfl,e⟩
 |.inr x,v,h=>by
  obtain⟨t,e⟩:=Value.isStrOf_shape (x:=x) (v:=v) h;exact .inr ⟨x,t,rfl,e⟩
theorem Gm(i:Int)(t:Tok):lK (.inl i) (.int i t)=true:=by simp[lK,Value.isInt]
theorem Gn(x:Str)(t:Tok):lK (.inr x) (.str x t)=true:=by simp[lK,Value.isStrOf]
theorem PC(a b:Int):decide ((Sum.inl a:Key)=Sum.inl b)=(a==b):=by
 by_cases e:a=b
 ·subst e;simp
 ·have h:¬(Sum.inl a:Key)=Sum.inl b:=fun q=>e (Sum.inl.inj q);rw[eC h];exact(iw.mpr e).symm
theorem PD(a b:Str):decide ((Sum.inr a:Key)=Sum.inr b)=decide (a=b):=by
 by_cases e:a=b
 ·subst e;simp
 ·have h:¬(Sum.inr a:Key)=Sum.inr b:=fun q=>e (Sum.inr.inj q);rw[eC h,eC e]
theorem PH(a:Int)(b:Str):decide ((Sum.inl a:Key)=Sum.inr b)=false:=eC (fun q=>nomatch q)
theorem PK(a:Str)(b:Int):decide ((Sum.inr a:Key)=Sum.inl b)=false:=eC (fun q=>nomatch q)
def bC(prog:Program)(w:World):PySem.KeyKind prog w Key where
 is:=lK
 hash:=YV w
 inj:=fun v a b ha hb=>by
  rcases cW ha with⟨i,t,rfl,rfl⟩|⟨x,t,rfl,rfl⟩
  ·rcases cW hb with⟨j,u,rfl,e⟩|⟨y,u,rfl,e⟩
   ·injection e with e1 _;rw[e1]
   ·exact nomatch e
  ·rcases cW hb with⟨j,u,rfl,e⟩|⟨y,u,rfl,e⟩
   ·exact nomatch e
   ·injection e with e1 _;rw[e1]
 byValue:=fun k v h=>by
  rcases cW h with⟨i,t,rfl,rfl⟩|⟨x,t,rfl,rfl⟩<;>rfl
 pyHash:=fun hv h=>by
  rcases cW hv with⟨i,t,rfl,rfl⟩|⟨x,t,rfl,rfl⟩
  ·exact wpAny_pyHash_int h
  ·exact wpAny_pyHash_str h
 eqBool:=fun hu hv h=>by
  rcases cW hu with⟨i,t,rfl,rfl⟩|⟨x,t,rfl,rfl⟩
  ·rcases cW hv with⟨j,u,rfl,rfl⟩|⟨y,u,rfl,rfl⟩
   ·rw[PC]at h;exact wpAny_eqBool_int h
   ·rw[PH]at h;exact SeqAt.EqAt.int_str i t y u _ _ _ _ h
  ·rcases cW hv with⟨j,u,rfl,rfl⟩|⟨y,u,rfl,rfl⟩
   ·rw[PK]at h;exact SeqAt.EqAt.str_int x t j u _ _ _ _ h
   ·rw[PD]at h;exact wpAny_eqBool_str h
 «strs»:=fun k x t v h=>by
  rcases cW h with⟨i,u,rfl,e⟩|⟨y,u,rfl,e⟩
  ·exact nomatch e
  ·injection e with e1 _
   subst e1;cases v<;>rfl
theorem Bf(prog:Program)(w:World)(i:Int)(t:Tok):(bC prog w).is (.inl i) (.int i t)=true:=Gm i t
theorem Bg(prog:Program)(w:World)(x:Str)(t:Tok):(bC prog w).is (.inr x) (.str x t)=true:=Gn x t
inductive V where
 |bO|bl (b:Bool)|int (i:Int)|str (x:Str)|Ox (b:Array UInt8)|Gp (b:UInt64)|ref (a:Addr)|ty (n:String)
 deriving DecidableEq
variable {kvs:List (Key×V)}
def RelV:V->Value->Prop
 |.bO,u=>u=Value.none
 |.bl b,u=>u=Value.bool b
 |.int i,u=>∃t,u=Value.int i t
 |.str x,u=>∃t,u=Value.str x t
 |.Ox b,u=>∃t,u=Value.bytes b t
 |.Gp b,u=>∃t,u=Value.float b t
 |.ref a,u=>u=Value.ref a
 |.ty n,u=>u=Value.type n
abbrev Vals:List V->List Value->Prop:=Paired RelV
theorem Vals.length {xs:List V}{us:List Value}(r:Vals xs us):xs.length=us.length:=Paired.length r
theorem Vals.get:∀{xs:List V} {us:List Value} {i:Nat} {x:V},Vals xs us->xs[i]?=some x->∃u,us[i]?=some u/\RelV x u
 |_,_,_,_,.nil,e=>by simp at e
 |_,_,0,_,.cons r _,e=>by simp at e;subst e;exact⟨_,rfl,r⟩
 |_,_,i+1,x,.cons _ t,e=>by
  obtain⟨u,h1,h2⟩:=Vals.get (i:=i) (x:=x) t (by simpa using e);exact⟨u,by simpa using h1,h2⟩
theorem Vals.set {x:V}{u:Value}(r:RelV x u):∀{xs:List V} {us:List Value} (i:Nat),Vals xs us->Vals (xs.set i x) (us.set i u)
 |_,_,_,.nil=>.nil
 |_,_,0,.cons _ t=>.cons r t
 |_,_,i+1,.cons q t=>.cons q (Vals.set r i t)
theorem Vals.append:∀{xs ys:List V} {us ws:List Value},Vals xs us->Vals ys ws->Vals (xs++ys) (us++ws)
 |_,_,_,_,.nil,s=>s
 |_,_,_,_,.cons r t,s=>.cons r (Vals.append t s)
theorem Vals.take:∀{xs:List V} {us:List Value} (n:Nat),Vals xs us->Vals (xs.take n) (us.take n)
 |_,_,0,_=>.nil
 |_,_,_+1,.nil=>.nil
 |_,_,n+1,.cons r t=>.cons r (Vals.take n t)
theorem Vals.drop:∀{xs:List V} {us:List Value} (n:Nat),Vals xs us->Vals (xs.drop n) (us.drop n)
 |_,_,0,r=>r
 |_,_,_+1,.nil=>.nil
 |_,_,n+1,.cons _ t=>Vals.drop n t
def kL:Option V->Option Value->Prop
 |some v,some u=>RelV v u
 |none,none=>True
 |_,_=>False
def KV{κ:Type}:List (κ×V)->List (κ×Value)->Prop:=Paired fun(p:κ×V) (q:κ×Value)=>p.1=q.1/\RelV p.2 q.2
def kV:Key->V
 |.inl i=>.int i
 |.inr x=>.str x
inductive HO where
 |lst (xs:List V)
 |tup (xs:List V)
 |dK (kvs:List (Key×V))|dT (kvs:List (List Key×V))
 |set (S:Int->Bool) (n:Nat)
 |ins (C dx:Addr) (fs:List (Str×V))
 |own (x:Addr)
 |xd (fs:List (Str×V))
 |met (f x:Addr)
 |Yg (lo hi:Int)
 |kg (o:Obj) (u:HO)
 |Oy (ps:Array Value)
 |ext (φ:Heap->Prop)
abbrev Hp:=Addr->Option HO
variable {H:Hp}
def upd(H:Hp)(a:Addr)(o:HO):Hp:=fun b=>if b=a then some o else H b
theorem a_{o:HO}:upd H a o a=some o:=by unfold upd;rw[au rfl]
theorem aF{b:Addr}{o:HO}(h:b≠a):upd H a o b=H b:=by unfold upd;rw[ay h]
theorem Ui{b:Addr}{o u:HO}(h:H a=some o)(h':H b=some u)(d:o≠u):a≠b:=by
 intro e;subst e;rw[h]at h';exact d (Option.some.inj h')
theorem bj{b:Addr}{o:HO}(h:H a=some o)(h':H b=none):a≠b:=by
 intro e;subst e;rw[h]at h';cases h'
section
variable (P:Program)(w:World)
def cu(H:Hp)(h:Heap)(a:Addr):HO->Prop
 |.lst xs=>xs.length<=sizeLine/\∃(bE:List Value) (n:Nat),Vals xs bE/\h.get? a=some {cls:=.type "list",data:=.seq bE.toArray n}
 |.tup xs=>xs.length<=sizeLine/\∃bE:List Value,Vals xs bE/\IsTup h a bE.toArray
 |.dK kvs=>kvs.length<=sizeLine/\(a==sysModules)=false/\∃vs,KV kvs vs/\h.DictOf (bC P w) a vs
 |.dT kvs=>kvs.length<=sizeLine/\(a==sysModules)=false/\∃xs:List (List Key×Addr×Value),
   Paired (fun(p:List Key×V) (q:List Key×Addr×Value)=>p.1=q.1/\H q.2.1=some (.tup (p.1.map kV))/\RelV p.2 q.2.2) kvs xs/\
   ∃o es ep,h.get? a=some o/\o.ExactDict/\o.data=.dict es ep/\es.toList=xs.map (entryOfKey (tupleKind (bC P w)))/\(xs.map (·.1)).Nodup
 |.set S n=>h.SetOf (intKind P w) a S n
 |.ins C dx fs=>H dx=some (.own a)/\fs.length<=1000/\dx≠a/\h.get? a=some (PySem.W.instObj C dx)/\
   ∃mA,h.Ns1 dx mA/\(∀f,kL (fs.lookup f) (mA f))/\PySem.Within mA (fs.map (·.1))
 |.own _=>∃o,h.get? a=some o
 |.xd fs=>∃mA,h.Ns1 a mA/\∀f,kL (fs.lookup f) (mA f)
 |.Yg lo hi=>∃t u v,h.get? a=some {cls:=.type "range",data:=.fields #[.int lo t,.int hi u,.int 1 v]}
 |.kg o u=>h.get? a=some o/\cu H h a u
 |.Oy ps=>h.get? a=some {cls:=.none,data:=.fields ps}
 |.met f x=>h.get? a=some (PySem.W.methodObj (.ref f) (.ref x))
 |.ext φ=>φ h/\(∃o,h.get? a=some o)/\∀h1 h2:Heap,φ h1->(∀o,h1.get? a=some o->h2.get? a=some o)->φ h2
def qK(H:Hp)(h:Heap):Prop:=∀a o,H a=some o->cu P w H h a o
end
section
variable {H':Hp}{h h':Heap}{o:HO}
theorem cu.lt (x:cu P w H h a o):a<h.objs.size:=by
 cases o with
 |lst xs=>obtain⟨_,_,_,_,e⟩:=x;exact aO e
 |tup xs=>obtain⟨_,_,_,p⟩:=x;exact p.lt
 |dK kvs=>obtain⟨_,_,_,_,o,_,_,e,_⟩:=x;exact aO e
 |dT kvs=>obtain⟨_,_,_,_,o,_,_,e,_⟩:=x;exact aO e
 |set S n=>obtain⟨o,_,_,_,e,_⟩:=x;exact aO e
 |ins C dx fs=>obtain⟨_,_,_,e,_⟩:=x;exact aO e
 |own y=>obtain⟨_,e⟩:=x;exact aO e
 |xd fs=>obtain⟨_,⟨_,_,_,e,_⟩,_⟩:=x;exact aO e
 |Yg lo hi=>obtain⟨_,_,_,e⟩:=x;exact aO e
 |kg ob u=>obtain⟨e,_⟩:=x;exact aO e
 |Oy ps=>exact aO (show h.get? a=some _ from x)
 |met f y=>exact aO (show h.get? a=some _ from x)
 |ext φ=>obtain⟨_,⟨_,e⟩,_⟩:=x;exact aO e
theorem Paired.PL {α β:Type}{F G:α->β->Prop}:∀{Uj:List α} {zC:List β},Paired F Uj zC->(∀a b,F a b->G a b)->Paired G Uj zC
 |_,_,.nil,_=>.nil
 |_,_,.cons r t,f=>.cons (f _ _ r) (Paired.PL t f)
theorem cu.oq (x:cu P w H h a o)(k:∀b u,(b=a\/H b=some (.own a))->h.get? b=some u->h'.get? b=some u)
  (ho:∀b,H b=some (.own a)->H' b=some (.own a)) (ht:∀b xs,H b=some (.tup xs)->H' b=some (.tup xs)):cu P w H' h' a o:=by
 induction o with
 |lst xs=>obtain⟨z,bE,n,r,e⟩:=x;exact⟨z,bE,n,r,k _ _ (.inl rfl) e⟩
 |tup xs=>obtain⟨z,bE,r,ob,e,c⟩:=x;exact⟨z,bE,r,ob,k _ _ (.inl rfl) e,c⟩
 |dK kvs=>obtain⟨z,y,vs,r,ob,es,ep,e,c⟩:=x;exact⟨z,y,vs,r,ob,es,ep,k _ _ (.inl rfl) e,c⟩
 |dT kvs=>
  obtain⟨z,y,xs,r,ob,es,ep,e,c⟩:=x;exact⟨z,y,xs,Paired.PL r fun p q z=>⟨z.1,ht _ _ z.2.1,z.2.2⟩,ob,es,ep,k _ _ (.inl rfl) e,c⟩
 |set S n=>obtain⟨ob,es,ep,t,e,c⟩:=x;exact⟨ob,es,ep,t,k _ _ (.inl rfl) e,c⟩
 |ins C dx fs=>
  obtain⟨d,z,ne,e,mA,⟨od,es,ep,e2,c⟩,r⟩:=x;exact⟨ho _ d,z,ne,k _ _ (.inl rfl) e,mA,⟨od,es,ep,k _ _ (.inr d) e2,c⟩,r⟩
 |own y=>obtain⟨ob,e⟩:=x;exact⟨ob,k _ _ (.inl rfl) e⟩
 |xd fs=>obtain⟨mA,⟨od,es,ep,e,c⟩,r⟩:=x;exact⟨mA,⟨od,es,ep,k _ _ (.inl rfl) e,c⟩,r⟩
 |Yg lo hi=>obtain⟨t,u,v,e⟩:=x;exact⟨t,u,v,k _ _ (.inl rfl) e⟩
 |kg ob u ih=>obtain⟨e,q⟩:=x;exact⟨k _ _ (.inl rfl) e,ih q⟩
 |Oy ps=>
  have e:h.get? a=some {cls:=.none,data:=.fields ps}:=x;show h'.get? a=some {cls:=.none,data:=.fields ps};exact k a _ (.inl rfl) e
 |met f y=>
  have e:h.get? a=some (PySem.W.methodObj (.ref f) (.ref y)):=x;show h'.get? a=some (PySem.W.methodObj (.ref f) (.ref y));exact k a _ (.inl rfl) e
 |ext φ=>obtain⟨p,⟨o,e⟩,st⟩:=x;exact⟨st _ _ p fun o q=>k _ _ (.inl rfl) q,⟨o,k _ _ (.inl rfl) e⟩,st⟩
theorem qK.lt (x:qK P w H h)(e:H a=some o):a<h.objs.size:=(x a o e).lt
theorem qK.fresh (x:qK P w H h)(e:h.objs.size<=a):H a=none:=by
 cases q:H a with
 |none=>rfl
 |some u=>exact absurd (cy (x.lt q) e) (dH _)
theorem qK.kept (x:qK P w H h)(k:∀b u,h.get? b=some u->h'.get? b=some u):qK P w H h':=fun a o e=>
 (x a o e).oq (fun b u _ q=>k b u q) (fun _ q=>q) fun _ _ q=>q
theorem qK.laid (x:qK P w H h)(k:∀b u,h.get? b=some u->h'.get? b=some u)(hp:h.objs.size<=a)(new:cu P w (upd H a o) h' a o):qK P w (upd H a o) h':=fun b u e=>by
 have hn:=x.fresh hp;by_cases hb:b=a
 ·subst hb;rw[a_]at e;cases e;exact new
 ·rw[aF hb]at e;exact(x b u e).oq (fun c v _ q=>k c v q) (fun c q=>by rw[aF (bj q hn)];exact q) fun c xs q=>by rw[aF (bj q hn)];exact q
end
def Rd(H:Hp)(a:Addr)(u:HO):Prop:=H a=some u\/∃o,H a=some (.kg o u)
theorem Rd.ok {h:Heap}{u:HO}(r:Rd H a u)(x:qK P w H h):cu P w H h a u:=by
 rcases r with r|⟨o,r⟩
 ·exact x a u r
 ·obtain⟨_,q⟩:=x a _ r;exact q
def Uk:Option HO->Prop
 |some (.lst _)=>True
 |some (.dK _)=>True
 |some (.dT _)=>True
 |some (.set _ _)=>True
 |some (.ins _ _ _)=>True
 |some (.ext _)=>True
 |_=>False
section
variable {h h':Heap}{x e:Addr}{o':HO}
theorem qK.write (ok:qK P w H h)(mu:Uk (H x))(he:e=x\/H e=some (.own x))(k:∀b u,b≠e->h.get? b=some u->h'.get? b=some u)(TF:∃u,h'.get? e=some u)
  (new:cu P w (upd H x o') h' x o'):qK P w (upd H x o') h':=fun b u q=>by
 have Ul:∀c y,H c=some (.own y)->c≠x:=fun c y r z=>by subst z;rw[r]at mu;exact mu
 have YW:∀c xs,H c=some (.tup xs)->c≠x:=fun c xs r z=>by subst z;rw[r]at mu;exact mu
 by_cases hb:b=x
 ·subst hb;rw[a_]at q;cases q;exact new
 ·rw[aF hb]at q;by_cases PM:b=e
  ·have q':H b=some (.own x):=by
    rcases he with z|z
    ·exact absurd (PM.trans z) hb
    ·rw[PM];exact z
   rw[q]at q';cases q';obtain⟨v,hv⟩:=TF;exact⟨v,by rw[PM];exact hv⟩
  ·refine(ok b u q).oq (fun c v hc r=>k c v ?_ r) (fun c r=>by rw[aF (Ul c b r)];exact r) fun c xs r=>by rw[aF (YW c xs r)];exact r
   rcases hc with rfl|hc
   ·exact PM
   ·rintro rfl
    rcases he with z|z
    ·exact Ul c b hc z
    ·rw[hc]at z;cases z;exact hb rfl
end
structure Un(fs ex:List Addr)(H H':Hp)(h h':Heap):Prop where
 keep:∀b o,h.get? b=some o->H b=none->b∉fs->b∉ex->h'.get? b=some o
 slot:∀b o,h.get? b=some o->H b=none->b∈fs->b∉ex->∃sl,h'.get? b=some {o with slots:=sl}
 free:∀b o,h.get? b=some o->H b=none->b∉ex->H' b=none
 there:∀b o,h.get? b=some o->b∉ex->∃o',h'.get? b=some o'
 lL:∀b xs,H b=some (.tup xs)->H' b=some (.tup xs)
 ki:∀b o u,H b=some (.kg o u)->H' b=some (.kg o u)
 mC:∀b ps,H b=some (.Oy ps)->∃more,H' b=some (.Oy (ps++more))
section
variable {fs fs' ex ex':List Addr}{H1 H2:Hp}{h h1 h2 h':Heap}{x e:Addr}{o:HO}
theorem Un.any (u:Un fs ex H H1 h h1){b:Addr}{ob:Obj}(q:h.get? b=some ob)(n:H b=none)(hx:b∉ex):∃sl,h1.get? b=some {ob with slots:=sl}:=by
 by_cases hb:b∈fs
 ·exact u.slot b ob q n hb hx
 ·exact⟨ob.slots,u.keep b ob q n hb hx⟩
theorem Un.trans (a:Un fs ex H H1 h h1)(b:Un fs ex H1 H2 h1 h2):Un fs ex H H2 h h2 where
 keep:=fun c ob q n hc hx=>b.keep c ob (a.keep c ob q n hc hx) (a.free c ob q n hx) hc hx
 slot:=fun c ob q n hc hx=>by
  obtain⟨sl,e1⟩:=a.slot c ob q n hc hx;obtain⟨Um,e2⟩:=b.slot c _ e1 (a.free c ob q n hx) hc hx;exact⟨Um,e2⟩
 free:=fun c ob q n hx=>by
  obtain⟨o',e1⟩:=a.there c ob q hx;exact b.free c o' e1 (a.free c ob q n hx) hx
 there:=fun c ob q hx=>by
  obtain⟨o',e1⟩:=a.there c ob q hx;exact b.there c o' e1 hx
 lL:=fun c xs q=>b.lL c xs (a.lL c xs q)
 ki:=fun c ob xs q=>b.ki c ob xs (a.ki c ob xs q)
 mC:=fun c ps q=>by
  obtain⟨m1,e1⟩:=a.mC c ps q;obtain⟨m2,e2⟩:=b.mC c _ e1;exact⟨m1++m2,by rw[e2,Array.append_assoc]⟩
theorem Un.kept (k:∀b u,h.get? b=some u->h'.get? b=some u):Un fs ex H H h h':=
 ⟨fun b ob q _ _ _=>k b ob q,fun b ob q _ _ _=>⟨ob.slots,k b ob q⟩,fun _ _ _ n _=>n,fun b ob q _=>⟨ob,k b ob q⟩,fun _ _ q=>q,fun _ _ _ q=>q,fun _ ps q=>⟨#[],by rw[q];simp⟩⟩
theorem Un.refl:Un fs ex H H h h:=Un.kept fun _ _ q=>q
theorem Un.laid (k:∀b u,h.get? b=some u->h'.get? b=some u)(hp:h.objs.size<=a)(hn:H a=none):Un fs ex H (upd H a o) h h' where
 keep:=fun b u q _ _ _=>k b u q
 slot:=fun b u q _ _ _=>⟨u.slots,k b u q⟩
 free:=fun b u q n _=>by rw[aF (bu (cy (aO q) hp))];exact n
 there:=fun b u q _=>⟨u,k b u q⟩
 lL:=fun b xs q=>by rw[aF (bj q hn)];exact q
 ki:=fun b u xs q=>by rw[aF (bj q hn)];exact q
 mC:=fun b ps q=>⟨#[],by rw[aF (bj q hn),q];simp⟩
theorem Un.write (mu:Uk (H x))(he:e=x\/H e=some (.own x))(k:∀b u,b≠e->h.get? b=some u->h'.get? b=some u)(TF:∃u,h'.get? e=some u):Un fs ex H (upd H x o) h h':=by
 have hx:∀b,H b=none->b≠x:=fun b n z=>by subst z;rw[n]at mu;exact mu
 have hb:∀b,H b=none->b≠e:=fun b n z=>by
  subst z;rcases he with r|r
  ·exact hx b n r
  ·rw[n]at r;cases r
 have hm:∀b u,H b=some u->¬Uk (some u)->b≠x:=fun b u q nm z=>by subst z;rw[q]at mu;exact nm mu
 refine⟨fun b u q n _ _=>k b u (hb b n) q,fun b u q n _ _=>⟨u.slots,k b u (hb b n) q⟩,fun b u q n _=>by rw[aF (hx b n)];exact n,fun b u q _=>?_,
  fun b xs q=>by rw[aF (hm b _ q fun z=>z)];exact q,fun b u xs q=>by rw[aF (hm b _ q fun z=>z)];exact q,fun b ps q=>⟨#[],by rw[aF (hm b _ q fun z=>z),q];simp⟩⟩
 by_cases PM:b=e
 ·subst PM;exact TF
 ·exact⟨u,k b u PM q⟩
end
def Yh(h:Heap)(H:Hp):List Addr:=(List.range h.objs.size).filter fun a=>(H a).isSome
def zD(h:Heap)(H:Hp):Heap:=PySem.W.hideAll h (Yh h H)
theorem Gq(h:Heap)(H:Hp):(zD h H).objs.size=h.objs.size:=PySem.W.hideAll_size _ _
theorem Ii{h:Heap}{o:Obj}(e:h.get? a=some o)(n:H a=none):(zD h H).get? a=some o:=
 lu _ e fun hm=>by
  have q:(H a).isSome=true:=(fm.mp hm).2;rw[n]at q;simp at q
theorem L5{h:Heap}{o:Obj}(e:(zD h H).get? a=some o):h.get? a=some o/\H a=none:=by
 have e':h.get? a=some o:=lx (Yh h H) e;refine⟨e',?_⟩;cases q:H a with
 |none=>rfl
 |some x=>
  have hm:a∈Yh h H:=fm.mpr ⟨rP.mpr (aO e'),by simp[q]⟩;have z:(zD h H).get? a=none:=ko (Yh h H) hm;rw[z]at e;cases e
structure Mod(K:Frag)(mg:Str->Option Value)(base:Heap):Prop where
 Oz:K.In base
 glob:base.Ns mainGlobals mg
 blt:∃mb,base.Ns builtinsNs mb/\∀x:Str,x≠"__name__"->mb x=bootBuiltins x
 nolimit:base.NoLimit
structure Cx where
 prog:Program
 w:World
 K:Frag
 mg:Str->Option Value
 base:Heap
 A:Around
 N:List Str
 fq:Shared
 Bh:Hp
 env:Env
 outer:List Env
 stack:List Env
 ex:List Addr
 fn:Str->Bool
 calm:Bool
 pn:List (Addr×Obj)
 xe:Value->Shared->Prop
variable {X:Cx}
abbrev ye(X:Cx)(x:Str):Prop:=X.fn x=true\/X.env.scope.names.lookup x=some .local
def je(l:List Env):List Addr:=l.filterMap (·.frame)
abbrev Cx.fs (X:Cx):List Addr:=je X.outer
def Yi(sc:Scope)(x:Str):Prop:=sc.names.lookup x=some .local\/sc.names.lookup x=some .cell\/sc.names.lookup x=some .free
def Loc(sc:Scope)(x:Str):Prop:=sc.names.lookup x=some .local\/sc.names.lookup x=some .cell
def Look(env:Env)(h:Heap)(m:Str->Option Value)(x:Str)(u:Value):Prop:=
 (env.kindOf x=some .local/\m x=some u)\/((env.kindOf x=some .cell\/env.kindOf x=some .free)/\∃c,env.cells.lookup x=some c/\h.IsCell c (some u))
structure Cx.Ok (X:Cx):Prop where
 mod:Mod X.K X.mg X.base
 kind:X.env.scope.kind=.function
 glob:X.env.globals=mainGlobals
 blt:X.env.builtins=builtinsNs
 above:X.fq.heap.objs.size<=X.env.locals
 inj:∀x y c,X.env.cells.lookup x=some c->X.env.cells.lookup y=some c->x=y
 has:∀x,(X.env.kindOf x=some .cell\/X.env.kindOf x=some .free)->∃c,X.env.cells.lookup x=some c
 OA:∀x c,X.fn x=true->X.env.cells.lookup x=some c->X.fq.heap.objs.size<=c
 hd:X.calm=true->X.A.handled=none
 frames:X.A.frames=some X.stack
 LO:X.stack=X.outer\/(X.stack=X.env::X.outer/\X.env.frame=some X.env.locals)
 TH:∀b∈X.ex,b≠X.env.locals/\∀x c,X.env.cells.lookup x=some c->c≠b
 bs:∀b o,X.base.get? b=some o->X.fq.heap.get? b=some o/\X.Bh b=none
 Gr:X.base.objs.size<=X.fq.heap.objs.size
 zE:∀b o,X.base.get? b=some o->b∉X.ex
 Bi:∀b∈X.ex,b∉X.fs
 p5:X.fq.heap.FunFrames X.base X.outer
 Ij:∀b∈X.fs,X.Bh b=none
structure Inv(X:Cx)(U:List (Addr×Obj))(Z:List (Option V))(H:Hp)(s:Shared):Prop where
 ok:X.Ok
 os:s.os=X.fq.os
 bare:AllBare s.gens
 base:Un X.fs X.ex X.Bh H X.fq.heap s.heap
 loc:∃m,s.heap.Ns X.env.locals m/\∀(i:Nat) (x:Str) (v:V),X.N[i]?=some x->Z[i]?=some (some v)->Yi X.env.scope x->∃u,RelV v u/\Look X.env s.heap m x u
 cell:∀x c,X.env.cells.lookup x=some c->∃v,s.heap.IsCell c v
 free:H X.env.locals=none
 eZ:∀x c,X.env.cells.lookup x=some c->H c=none
 pin:∀p∈X.pn++U,s.heap.get? p.1=some p.2/\H p.1=none/\p.1≠X.env.locals/\p.1∉X.fs/\∀v,p.2.data≠ .cell v
 cp:qK X.prog X.w H s.heap
 len:Z.length=X.N.length
section
variable {Z:List (Option V)}{H':Hp}{h':Heap}
theorem Cx.Ok.YX (ok:X.Ok){b:Addr}{o:Obj}(e:X.base.get? b=some o):b∉X.fs:=fun hb=>by
 have:=(ok.p5.mem hb).1;rw[e]at this;cases this
theorem Inv.bs (I:Inv X U Z H s):∀b o,X.base.get? b=some o->s.heap.get? b=some o/\H b=none:=fun b o e=>
 ⟨I.base.keep b o (I.ok.bs b o e).1 (I.ok.bs b o e).2 (I.ok.YX e) (I.ok.zE b o e),I.base.free b o (I.ok.bs b o e).1 (I.ok.bs b o e).2 (I.ok.zE b o e)⟩
theorem Inv.bk (I:Inv X U Z H s):∀b o,X.base.get? b=some o->s.heap.get? b=some o:=fun b o e=>(I.bs b o e).1
theorem Inv.mod (I:Inv X U Z H s):Mod X.K X.mg X.base:=I.ok.mod
theorem Inv.kM (I:Inv X U Z H s):X.K.In s.heap:=I.ok.mod.Oz.keeps I.bk
theorem Inv.fr (I:Inv X U Z H s):∃m,Fr X.base X.env.locals s.heap m:=
 let⟨m,hn,_⟩:=I.loc
 ⟨m,hn,I.bk,bP I.ok.Gr I.ok.above⟩
theorem Inv.lt (I:Inv X U Z H s):X.env.locals<s.heap.objs.size:=let⟨_,hn,_⟩:=I.loc;hn.lt
theorem Inv.sz (I:Inv X U Z H s):X.fq.heap.objs.size<=s.heap.objs.size:=bP I.ok.above (cT I.lt)
theorem Inv.Uo (I:Inv X U Z H s)(h:s.heap.objs.size<=a):a∉X.fs:=fun hb=>by
 obtain⟨_,o,ho,_⟩:=I.ok.p5.mem hb;exact absurd (cy (aO ho) (bP I.sz h)) (dH _)
theorem Inv.Gs (I:Inv X U Z H s):∀x c,X.env.cells.lookup x=some c->c≠X.env.locals:=fun x c e z=>by
 obtain⟨v,o,ho,hd⟩:=I.cell x c e;obtain⟨m,⟨o',es,ep,L6,L7,_⟩,_⟩:=I.loc;rw[z,L6]at ho;cases ho;rw[L7]at hd;cases hd
theorem Inv.p5 (I:Inv X U Z H s):s.heap.FunFrames X.base X.outer:=by
 have all:∀(l:List Env),(∀b∈je l,b∈X.fs)->X.fq.heap.FunFrames X.base l->s.heap.FunFrames X.base l:=by
  intro l
  induction l with
  |nil=>intro _ _;trivial
  |cons env r ih=>
   intro hs hl;obtain⟨hk,⟨L,o,hf,hn,ho,hd⟩,hr⟩:=hl;have hL:L∈X.fs:=hs L (by unfold je;rw[nK,hf];exact bM);obtain⟨sl,e⟩:=I.base.slot L o ho (I.ok.Ij L hL) hL fun z=>I.ok.Bi L z hL;exact⟨hk,⟨L,_,hf,hn,e,hd⟩,ih (fun b hb=>hs b (by unfold je;rw[nK,hf];exact bF _ hb)) hr⟩
 exact all X.outer (fun _ hb=>hb) I.ok.p5
theorem Inv.stack (I:Inv X U Z H s):s.heap.FunFrames X.base X.stack:=by
 rcases I.ok.LO with e|⟨e,hf⟩
 ·rw[e];exact I.p5
 ·rw[e];obtain⟨m,hn,_⟩:=I.loc;refine .cons (by rw[I.ok.kind];decide) hf hn ?_ I.p5
  exact Heap.get?_none_of_le (bP I.ok.Gr I.ok.above)
theorem Inv.we (I:Inv X U Z H s):∀b∈je X.stack,b∈X.env.locals::X.fs:=fun b hb=>by
 rcases I.ok.LO with e|⟨e,hf⟩
 ·rw[e]at hb;exact bF _ hb
 ·rw[e]at hb;unfold je at hb;rw[nK,hf]at hb;exact hb
theorem Inv.vh (I:Inv X U Z H s):∀b∈je X.stack,H b=none:=fun b hb=>by
 rcases aV.mp (I.we b hb)with e|hb
 ·rw[e];exact I.free
 ·obtain⟨_,o,ho,_⟩:=I.ok.p5.mem hb;exact I.base.free b o ho (I.ok.Ij b hb) fun z=>I.ok.Bi b z hb
theorem Inv.step {g':Array GenState}{t':Nat}{d':Drawn}{ch:List Addr}(I:Inv X U Z H s)
  (yB:∀b∈ch,(b∈X.ex\/X.fq.heap.objs.size<=b)/\b≠X.env.locals/\(∀x c,X.env.cells.lookup x=some c->c≠b)/\∀p∈X.pn++U,p.1≠b)
  (keep:∀b o,b≠X.env.locals->b∉X.fs->b∉ch->s.heap.get? b=some o->H b=none->h'.get? b=some o)
  (slot:∀b o,b≠X.env.locals->b∈X.fs->b∉ch->s.heap.get? b=some o->H b=none->∃sl,h'.get? b=some {o with slots:=sl}) (free:∀b o,b∉ch->s.heap.get? b=some o->H b=none->H' b=none)
  (there:∀b o,b∉ch->s.heap.get? b=some o->∃o',h'.get? b=some o')
  (lL:∀b xs,H b=some (.tup xs)->H' b=some (.tup xs)) (ki:∀b o u,H b=some (.kg o u)->H' b=some (.kg o u)) (mC:∀b ps,H b=some (.Oy ps)->∃more,H' b=some (.Oy (ps++more)))
  (ns:∀m,s.heap.Ns X.env.locals m->h'.Ns X.env.locals m) (cp:qK X.prog X.w H' h') (hg:AllBare g'):
  Inv X U Z H' {s with heap:=h',gens:=g',drawn:=d',toks:=t'}:=by
 have neL:∀b o,X.fq.heap.get? b=some o->b≠X.env.locals:=fun b o e=>bu (cy (aO e) I.ok.above);have L8:∀b o,X.fq.heap.get? b=some o->b∉X.ex->b∉ch:=fun b o e hx hb=>by
  rcases(yB b hb).1 with z|z
  ·exact hx z
  ·exact absurd (cy (aO e) z) (dH _)
 have cellK:∀x c,X.env.cells.lookup x=some c->∀v,s.heap.IsCell c v->h'.IsCell c v:=fun x c e v ⟨o,ho,hd⟩=>by
  have Ik:c∉ch:=fun z=>(yB c z).2.2.1 x c e rfl;by_cases hc:c∈X.fs
  ·obtain⟨sl,q⟩:=slot c o (I.Gs x c e) hc Ik ho (I.eZ x c e);exact⟨_,q,hd⟩
  ·exact⟨o,keep c o (I.Gs x c e) hc Ik ho (I.eZ x c e),hd⟩
 refine⟨I.ok,I.os,hg,⟨fun b o e n hb hx=>?_,fun b o e n hb hx=>?_,fun b o e n hx=>?_,fun b o e hx=>?_,fun b xs e=>lL b xs (I.base.lL b xs e),fun b o xs e=>ki b o xs (I.base.ki b o xs e),fun b ps e=>?_⟩,?_,fun x c e=>?_,?_,fun x c e=>?_,fun p hp=>?_,cp,I.len⟩
 ·exact keep b o (neL b o e) hb (L8 b o e hx) (I.base.keep b o e n hb hx) (I.base.free b o e n hx)
 ·obtain⟨sl,e1⟩:=I.base.slot b o e n hb hx;obtain⟨Um,e2⟩:=slot b _ (neL b o e) hb (L8 b o e hx) e1 (I.base.free b o e n hx);exact⟨Um,e2⟩
 ·obtain⟨o',e1⟩:=I.base.there b o e hx;exact free b o' (L8 b o e hx) e1 (I.base.free b o e n hx)
 ·obtain⟨o',e1⟩:=I.base.there b o e hx;exact there b o' (L8 b o e hx) e1
 ·obtain⟨m1,e1⟩:=I.base.mC b ps e;obtain⟨m2,e2⟩:=mC b _ e1;exact⟨m1++m2,by rw[e2,Array.append_assoc]⟩
 ·obtain⟨m,hn,hl⟩:=I.loc;refine⟨m,ns m hn,fun i x v e1 e2 e3=>?_⟩;obtain⟨u,r,l⟩:=hl i x v e1 e2 e3;refine⟨u,r,?_⟩;rcases l with l|⟨k,c,e,z⟩
  ·exact .inl l
  ·exact .inr ⟨k,c,e,cellK x c e _ z⟩
 ·obtain⟨v,z⟩:=I.cell x c e;exact⟨v,cellK x c e v z⟩
 ·obtain⟨m,⟨o,_,_,ho,_⟩,_⟩:=I.loc;exact free _ o (fun z=>(yB _ z).2.1 rfl) ho I.free
 ·obtain⟨v,o,ho,hd⟩:=I.cell x c e;exact free c o (fun z=>(yB c z).2.2.1 x c e rfl) ho (I.eZ x c e)
 ·obtain⟨e,n,ne,nf,d⟩:=I.pin p hp;have Ik:p.1∉ch:=fun z=>(yB p.1 z).2.2.2 p hp rfl;exact⟨keep p.1 p.2 ne nf Ik e n,free p.1 p.2 Ik e n,ne,nf,d⟩
theorem Inv.un {t':Nat}(I:Inv X U Z H s)(u:Un X.fs [] H H' s.heap h')(cp:qK X.prog X.w H' h'):Inv X U Z H' {s with heap:=h',toks:=t'}:=by
 obtain⟨m,⟨o,es,ep,ho,r⟩,_⟩:=id I.loc;obtain⟨sl,hL⟩:=u.any ho I.free (by simp);exact I.step (g':=s.gens) (d':=s.drawn) (ch:=[]) (fun _ z=>nomatch z) (fun b o _ hb _ e n=>u.keep b o e n hb (by simp)) (fun b o _ hb _ e n=>u.slot b o e n hb (by simp)) (fun b o _ e n=>u.free b o e n (by simp)) (fun b o _ e=>u.there b o e (by simp)) u.lL u.ki u.mC (fun m' hm=>by
  obtain⟨o',zF,Il,L6,r'⟩:=hm;rw[ho]at L6;cases L6;exact⟨_,zF,Il,hL,r'⟩) cp I.bare
theorem Inv.call {g':Array GenState}{t':Nat}{d':Drawn}{ch:List Addr}(I:Inv X U Z H s)(u:Un (je X.stack) ch H H' s.heap h')(cp:qK X.prog X.w H' h')(hg:AllBare g')
  (yB:∀b∈ch,(b∈X.ex\/X.fq.heap.objs.size<=b)/\b≠X.env.locals/\(∀x c,X.env.cells.lookup x=some c->c≠b)/\∀p∈X.pn++U,p.1≠b):
  Inv X U Z H' {s with heap:=h',gens:=g',drawn:=d',toks:=t'}:=by
 obtain⟨m,⟨o,es,ep,ho,r⟩,_⟩:=id I.loc;obtain⟨sl,hL⟩:=u.any ho I.free fun z=>(yB _ z).2.1 rfl;exact I.step (ch:=ch) yB (fun b o hL hb hc e n=>u.keep b o e n (fun z=>(aV.mp (I.we b z)).elim hL hb) hc) (fun b o _ _ hc e n=>u.any e n hc) (fun b o hc e n=>u.free b o e n hc) (fun b o hc e=>u.there b o e hc) u.lL u.ki u.mC (fun m' hm=>by
  obtain⟨o',zF,Il,L6,r'⟩:=hm;rw[ho]at L6;cases L6;exact⟨_,zF,Il,hL,r'⟩) cp hg
theorem Inv.turned {t':Nat}{it:Addr}(I:Inv X U Z H s)(k:∀b o,b≠it->s.heap.get? b=some o->h'.get? b=some o)(hn:H it=none)(hL:it≠X.env.locals)
  (h1:it∈X.ex\/X.fq.heap.objs.size<=it) (h2:∀x c,X.env.cells.lookup x=some c->c≠it) (h3:∀p∈X.pn++U,p.1≠it):Inv X U Z H {s with heap:=h',toks:=t'}:=by
 have nit:∀b u,H b=some u->b≠it:=fun b u e z=>by rw[z,hn]at e;cases e
 refine I.step (g':=s.gens) (d':=s.drawn) (ch:=[it]) (fun b hb=>?_) (fun b o _ _ hc e _=>k b o (fun z=>hc (by simp[z])) e) (fun b o _ _ hc e _=>⟨o.slots,k b o (fun z=>hc (by simp[z])) e⟩) (fun _ _ _ _ n=>n)
  (fun b o hc e=>⟨o,k b o (fun z=>hc (by simp[z])) e⟩) (fun _ _ e=>e) (fun _ _ _ e=>e) (fun b ps e=>⟨#[],by rw[e];simp⟩) (fun m hm=>?_) (fun b u e=>?_) I.bare
 ·have e:b=it:=by simpa using hb
  subst e;exact⟨h1,hL,h2,h3⟩
 ·obtain⟨o,es,ep,ho,r⟩:=hm;exact⟨o,es,ep,k _ o (Ne.symm hL) ho,r⟩
 ·refine(I.cp b u e).oq (fun c v hc q=>k c v ?_ q) (fun _ q=>q) fun _ _ q=>q;rcases hc with z|z
  ·rw[z];exact nit b u e
  ·exact nit c _ z
theorem Inv.tok (I:Inv X U Z H s)(t:Nat):Inv X U Z H {s with toks:=t}:=I.un (h':=s.heap) (t':=t) Un.refl I.cp
theorem Inv.kept {t':Nat}(I:Inv X U Z H s)(k:∀b u,s.heap.get? b=some u->h'.get? b=some u):Inv X U Z H {s with heap:=h',toks:=t'}:=I.un (Un.kept k) (I.cp.kept k)
theorem Inv.laid {a:Addr}{o:HO}{t':Nat}(I:Inv X U Z H s)(k:∀b u,s.heap.get? b=some u->h'.get? b=some u)(hp:s.heap.objs.size<=a)(new:cu X.prog X.w (upd H a o) h' a o):
  Inv X U Z (upd H a o) {s with heap:=h',toks:=t'}:=I.un (Un.laid k hp (I.cp.fresh hp)) (I.cp.laid k hp new)
theorem Inv.write {x e:Addr}{o:HO}{t':Nat}(I:Inv X U Z H s)(mu:Uk (H x))(he:e=x\/H e=some (.own x))(k:∀b u,b≠e->s.heap.get? b=some u->h'.get? b=some u)(TF:∃u,h'.get? e=some u)
  (new:cu X.prog X.w (upd H x o) h' x o):Inv X U Z (upd H x o) {s with heap:=h',toks:=t'}:=I.un (Un.write mu he k TF) (I.cp.write mu he k TF new)
theorem Inv.jr {Im:List (Addr×Obj)}(I:Inv X U Z H s)(h:∀p∈Im,s.heap.get? p.1=some p.2/\H p.1=none/\p.1≠X.env.locals/\p.1∉X.fs/\∀v,p.2.data≠ .cell v):Inv X Im Z H s:=
 ⟨I.ok,I.os,I.bare,I.base,I.loc,I.cell,I.free,I.eZ,fun p hp=>(cR.mp hp).elim (fun z=>I.pin p (jk _ z)) (h p),I.cp,I.len⟩
theorem r8(hN:ps.Nodup){j:Nat}(a:ps[i]?=some x)(b:ps[j]?=some x):i=j:=by
 obtain⟨h1,e1⟩:=fi.mp a;obtain⟨h2,e2⟩:=fi.mp b;exact(List.getElem_inj hN).mp (e1.trans e2.symm)
theorem yC{M:Model}{v:V}{Q:Unit->Shared->Prop}(I:Inv X U Z H s)(hN:X.N.Nodup)(hi:X.N[i]?=some x)(hx:Loc X.env.scope x)(r:RelV v aa)
  (h:∀s',Inv X U (Z.set i (some v)) H s'->(∃a,Heap.SameBut a s.heap s'.heap/\(a=X.env.locals\/X.env.cells.lookup x=some a))->Q () s') (hf:ye X x:=by first|exact .inl rfl|exact .inr rfl|assumption):wpAny M A (storeName X.env x aa) Q E s:=by
 obtain⟨m,hn,hl⟩:=id I.loc;have zG:(X.env.scope.kind== .class||(X.env.scope.kind== .module&&X.env.locals !=X.env.globals))=false:=by rw[I.ok.kind];rfl
 have Up:i<Z.length:=by rw[I.len];exact(fi.mp hi).1
 have Gs:=I.Gs;have tracked:∀{a:Addr} {h':Heap},(∃o,s.heap.get? a=some o/\H a=none)->Heap.SameBut a s.heap h'->qK X.prog X.w H h':=fun{a h'} ha hs b ob e=>by
  obtain⟨_,_,EK⟩:=ha;refine(I.cp b ob e).oq (fun c w' hc q=>(hs.2 c ?_).trans q) (fun _ q=>q) fun _ _ q=>q
  rintro rfl
  rcases hc with rfl|hc
  ·rw[EK]at e;cases e
  ·rw[EK]at hc;cases hc
 rcases hx with hk|hk
 ·refine wpAny_storeName_local hk hn (fun h' OB hs=>?_) zG;obtain⟨oL,_,_,EL,_⟩:=id hn;refine h _ ⟨I.ok,I.os,I.bare,⟨fun b o e n hb hx=>?_,fun b o e n hb hx=>?_,I.base.free,fun b o e hx=>?_,I.base.lL,I.base.ki,I.base.mC⟩,⟨_,OB,fun j y v' e1 e2 e3=>?_⟩,fun y c e=>?_,I.free,I.eZ,fun p hp=>?_,tracked ⟨oL,EL,I.free⟩ hs,by simpa using I.len⟩ ⟨_,hs,.inl rfl⟩
  ·exact(hs.2 b (bu (cy (aO e) I.ok.above))).trans (I.base.keep b o e n hb hx)
  ·obtain⟨sl,e1⟩:=I.base.slot b o e n hb hx;exact⟨sl,(hs.2 b (bu (cy (aO e) I.ok.above))).trans e1⟩
  ·obtain⟨o',e1⟩:=I.base.there b o e hx;exact⟨o',(hs.2 b (bu (cy (aO e) I.ok.above))).trans e1⟩
  ·by_cases hj:j=i
   ·subst hj;rw[hi]at e1;cases e1;rw[nG Up]at e2;cases e2;exact⟨aa,r,.inl ⟨hk,by simp⟩⟩
   ·rw[lr (Ne.symm hj)]at e2;obtain⟨u',r',q⟩:=hl j y v' e1 e2 e3;refine⟨u',r',?_⟩;rcases q with⟨k,e⟩|⟨k,c,e,z⟩
    ·refine .inl ⟨k,?_⟩;have:y≠x:=fun e=>hj (r8 hN e1 (e▸hi));simp[this,e]
    ·exact .inr ⟨k,c,e,z.sameBut hs (Gs y c e)⟩
  ·obtain⟨w',z⟩:=I.cell y c e;exact⟨w',z.sameBut hs (Gs y c e)⟩
  ·obtain⟨e,n,ne,nf,d⟩:=I.pin p hp;exact⟨(hs.2 p.1 ne).trans e,n,ne,nf,d⟩
 ·have L9:X.fn x=true:=by
   rcases hf with z|z
   ·exact z
   ·rw[z]at hk;cases hk
  obtain⟨c,hc⟩:=I.ok.has x (.inl hk);obtain⟨w',z⟩:=I.cell x c hc;refine wpAny_storeName_cell I.ok.kind hk hc z (fun h' Uq hs=>?_);obtain⟨oc,PN,YY⟩:=id z;refine h {s with heap:=h'} ⟨I.ok,I.os,I.bare,⟨fun b o e n hb hx=>?_,fun b o e n hb hx=>?_,I.base.free,fun b o e hx=>?_,I.base.lL,I.base.ki,I.base.mC⟩,⟨m,hn.sameBut hs (Ne.symm (Gs x c hc)),fun j y v' e1 e2 e3=>?_⟩,fun y c' e=>?_,I.free,I.eZ,fun p hp=>?_,tracked ⟨oc,PN,I.eZ x c hc⟩ hs,by simpa using I.len⟩ ⟨c,hs,.inr hc⟩
  ·exact(hs.2 b (bu (cy (aO e) (I.ok.OA x c L9 hc)))).trans (I.base.keep b o e n hb hx)
  ·obtain⟨sl,e1⟩:=I.base.slot b o e n hb hx;exact⟨sl,(hs.2 b (bu (cy (aO e) (I.ok.OA x c L9 hc)))).trans e1⟩
  ·obtain⟨o',e1⟩:=I.base.there b o e hx;exact⟨o',(hs.2 b (bu (cy (aO e) (I.ok.OA x c L9 hc)))).trans e1⟩
  ·by_cases hj:j=i
   ·subst hj;rw[hi]at e1;cases e1;rw[nG Up]at e2;cases e2;exact⟨aa,r,.inr ⟨.inl hk,c,hc,Uq⟩⟩
   ·rw[lr (Ne.symm hj)]at e2;obtain⟨u',r',q⟩:=hl j y v' e1 e2 e3;refine⟨u',r',?_⟩;rcases q with q|⟨k,c',e,z'⟩
    ·exact .inl q
    ·refine .inr ⟨k,c',e,z'.sameBut hs ?_⟩
     rintro rfl
     exact hj (r8 hN e1 (I.ok.inj _ _ _ e hc▸hi))
  ·by_cases hcc:c'=c
   ·subst hcc;exact⟨_,Uq⟩
   ·obtain⟨w2,z2⟩:=I.cell y c' e;exact⟨w2,z2.sameBut hs hcc⟩
  ·obtain⟨e,n,ne,nf,d⟩:=I.pin p hp;refine⟨(hs.2 p.1 ?_).trans e,n,ne,nf,d⟩;intro q;rw[q,PN]at e;have q':oc=p.2:=Option.some.inj e;exact d w' (by rw[<-q'];exact YY)
theorem wg{M:Model}{v:V}{Q:Unit->Shared->Prop}(I:Inv X U Z H s)(hN:X.N.Nodup)(hi:X.N[i]?=some x)(hx:Loc X.env.scope x)(r:RelV v aa)
  (h:∀s',Inv X U (Z.set i (some v)) H s'->Q () s') (hf:ye X x:=by first|exact .inl rfl|exact .inr rfl|assumption):wpAny M A (storeName X.env x aa) Q E s:=
 yC I hN hi hx r (fun s' I' _=>h s' I') hf
theorem Inv.Ur {s':Shared}{ch:List Addr}(I:Inv X U Z H s)(ho:s'.os=s.os)(u:Un (je X.stack) ch H H' s.heap s'.heap)(cp:qK X.prog X.w H' s'.heap)(hg:AllBare s'.gens)
  (yB:∀b∈ch,(b∈X.ex\/X.fq.heap.objs.size<=b)/\b≠X.env.locals/\(∀x c,X.env.cells.lookup x=some c->c≠b)/\∀p∈X.pn++U,p.1≠b):Inv X U Z H' s':=by
 obtain⟨h',g',d',t',o'⟩:=s';have e:o'=s.os:=ho;subst e;exact I.call (g':=g') (t':=t') (d':=d') u cp hg yB
end
abbrev XK:=Value->Option Addr->Hp->Prop
abbrev St:=List (Option V)
variable {Z:St}
abbrev VK:=V->Hp->Prop
abbrev TE:=St->Hp->VK->Prop
abbrev TT:=St->Hp->(Bool->Hp->Prop)->Prop
abbrev TA:=St->Hp->(List V->Hp->Prop)->Prop
structure Ends where
 nx:St->Hp->Prop
 rt:VK
 bk:St->Hp->Prop:=fun _ _=>False
 ct:St->Hp->Prop:=fun _ _=>False
abbrev TS:=Ends->St->Hp->Prop
def EP(X:Cx)(U:List (Addr×Obj))(Z:St)(Q:VK)(u:Value)(s':Shared):Prop:=∃v H',Inv X U Z H' s'/\RelV v u/\Q v H'
def TP(X:Cx)(U:List (Addr×Obj))(Z:St)(Q:Bool->Hp->Prop)(b:Bool)(s':Shared):Prop:=∃H',Inv X U Z H' s'/\Q b H'
def AP(X:Cx)(U:List (Addr×Obj))(Z:St)(Q:List V->Hp->Prop)(us:List Value)(s':Shared):Prop:=∃vs H',Inv X U Z H' s'/\Vals vs us/\Q vs H'
def SP(X:Cx)(U:List (Addr×Obj))(D:Ends)(f:Flow)(s':Shared):Prop:=
 match f with
 |.next=>∃cK H',Inv X U cK H' s'/\D.nx cK H'
 |.brk=>∃cK H',Inv X U cK H' s'/\D.bk cK H'
 |.cont=>∃cK H',Inv X U cK H' s'/\D.ct cK H'
 |.ret u=>∃v cK H',Inv X U cK H' s'/\RelV v u/\D.rt v H'
def PE(X:Cx)(e:Expr)(t:TE):Prop:=
 ∀(U:List (Addr×Obj)) (s:Shared) (Z:St) (H:Hp) (Q:VK),Inv X U Z H s->t Z H Q->wpAny (model X.prog X.w) X.A (eval e X.env) (EP X U Z Q) X.xe s
def PT(X:Cx)(e:Expr)(t:TT):Prop:=
 ∀(U:List (Addr×Obj)) (s:Shared) (Z:St) (H:Hp) (Q:Bool->Hp->Prop),Inv X U Z H s->t Z H Q->wpAny (model X.prog X.w) X.A (isTrue e X.env (eval e X.env)) (TP X U Z Q) X.xe s
def PW(X:Cx)(e:Expr)(t:TT):Prop:=
 ∀(whole:Sem Value) (U:List (Addr×Obj)) (s:Shared) (Z:St) (H:Hp) (Q:Bool->Hp->Prop),Inv X U Z H s->t Z H Q->wpAny (model X.prog X.w) X.A (isTrue e X.env whole) (TP X U Z Q) X.xe s
theorem PW.pt {t:TT}(h:PW X e t):PT X e t:=h _
def PA(X:Cx)(es:List Expr)(t:TA):Prop:=
 ∀(pos:Pos) (U:List (Addr×Obj)) (s:Shared) (Z:St) (H:Hp) (Q:List V->Hp->Prop),Inv X U Z H s->t Z H Q->wpAny (model X.prog X.w) X.A (spliced (backTo pos (starEach es X.env))) (AP X U Z Q) X.xe s
def PS(X:Cx)(st:Stmt)(t:TS):Prop:=
 ∀(U:List (Addr×Obj)) (s:Shared) (Z:St) (H:Hp) (D:Ends),Inv X U Z H s->t D Z H->wpAny (model X.prog X.w) X.A (exec st X.env) (SP X U D) X.xe s
def nC(X:Cx)(st:List Stmt)(t:TS):Prop:=
 ∀(U:List (Addr×Obj)) (s:Shared) (Z:St) (H:Hp) (D:Ends),Inv X U Z H s->t D Z H->wpAny (model X.prog X.w) X.A (execs st X.env) (SP X U D) X.xe s
theorem dA{α:Type}{t:Sem α}{Q Q':α->Shared->Prop}{M:Model}(h:wpAny M A t Q E s)(hQ:∀a s,Q a s->Q' a s):wpAny M A t Q' E s:=dq h hQ fun _ _ x=>x
section
def YZ(i:Nat):TE:=fun Z H Q=>∃v,Z[i]?=some (some v)/\Q v H
def tC(v:V):TE:=fun _ H Q=>Q v H
theorem PQ(hN:X.N[i]?=some x)(hv:Yi X.env.scope x)(hd:Db x:=by decide) (Dk:(x==("__classdict__":Str))=false:=by decide):PE X (.Name x pos) (YZ i):=by
 intro U s Z H Q I h;obtain⟨v,e,h⟩:=h;obtain⟨m,hn,hl⟩:=I.loc;obtain⟨u,r,l⟩:=hl i x v hN e hv;have fin:EP X U Z Q u s:=⟨v,H,I,r,h⟩;rcases l with⟨hk,hm⟩|⟨hk,c,hc,OC⟩
 ·exact wpAny_Name (wpAny_loadName_local I.ok.kind hk hn hm fin) hd
 ·rcases hk with hk|hk
  ·exact wpAny_Name (wpAny_loadName_cell I.ok.kind hk hc OC fin) hd
  ·exact wpAny_Name (wpAny_loadName_free I.ok.kind hk hc OC fin Dk) hd
theorem PR{i j pos}:PE X (.Constant (.int i) j pos) (tC (.int i)):=fun _ _ _ H _ I h=>wpAny_Constant_int ⟨.int i,H,I.tok _,⟨_,rfl⟩,h⟩
theorem Us{b j pos}:PE X (.Constant (.bool b) j pos) (tC (.bl b)):=fun _ _ _ H _ I h=>Constant_bool ⟨.bl b,H,I,rfl,h⟩
theorem PU{j pos}:PE X (.Constant .none j pos) (tC .bO):=fun _ _ _ H _ I h=>Constant_none ⟨.bO,H,I,rfl,h⟩
theorem PV{x j pos}:PE X (.Constant (.str x) j pos) (tC (.str x)):=fun _ _ _ H _ I h=>Calls.Constant_str ⟨.str x,H,I.tok _,⟨_,rfl⟩,h⟩
def Gl(X:Cx)(x:Str):Prop:=X.env.kindOf x=some .globalImplicit
theorem pE(I:Inv X U Z H s)(hg:Gl X x)(hm:X.mg x=some aa)(h:Q aa s)
  (hd:Db x:=by decide):wpAny (model X.prog X.w) X.A (eval (.Name x pos) X.env) Q E s:=
 vI I.ok.kind hg (Calls.loadGlobal_global (by rw[I.ok.glob];exact I.mod.glob.keeps I.bk) hm h) hd
theorem t5{u:Value}(I:Inv X U Z H s)(hg:Gl X x)(hm:X.mg x=none)(hv:bootBuiltins x=some u)(h:Q u s)
  (hn:x≠"__name__":=by decide) (hd:Db x:=by decide):wpAny (model X.prog X.w) X.A (eval (.Name x pos) X.env) Q E s:=by
 obtain⟨mb,h1,h2⟩:=I.mod.blt;exact vI I.ok.kind hg (Calls.loadGlobal_builtin (by rw[I.ok.glob];exact I.mod.glob.keeps I.bk) hm (by rw[I.ok.blt];exact h1.keeps I.bk) ((h2 x hn).trans hv) h) hd
theorem zH{v:V}(hg:Gl X x)(hm:X.mg x=some aa)(r:RelV v aa)(hd:Db x:=by decide):PE X (.Name x pos) (tC v):=
 fun _ _ _ H _ I h=>pE I hg hm ⟨v,H,I,r,h⟩ hd
theorem EM{v:V}(hg:Gl X x)(hm:X.mg x=none)(hv:bootBuiltins x=some aa)(r:RelV v aa)(hn:x≠"__name__":=by decide) (hd:Db x:=by decide):PE X (.Name x pos) (tC v):=
 fun _ _ _ H _ I h=>t5 I hg hm hv ⟨v,H,I,r,h⟩ hn hd
variable {a b:Expr}{ta tb:TE}
variable {tA Yj:TT}{c8:List Expr}
def Y0(t u:TT):TT:=fun Z H Q=>t Z H fun c H1=>if c=true then u Z H1 Q else Q false H1
def tOr(t u:TT):TT:=fun Z H Q=>t Z H fun c H1=>if c=true then Q true H1 else u Z H1 Q
def Y1(t:TT):TT:=fun Z H Q=>t Z H fun c H1=>Q (!c) H1
theorem pw_and1(ha:PT X a tA):PW X (.BoolOp .And [a] pos) tA:=by
 intro wh U s Z H Q I h;refine isTrue_and (dA (ha U s Z H Q I h) fun c s1 e=>?_);cases c with
 |true=>exact isTrue_and_nil e
 |false=>exact e
theorem pw_or1(ha:PT X a tA):PW X (.BoolOp .Or [a] pos) tA:=by
 intro wh U s Z H Q I h;refine isTrue_or (dA (ha U s Z H Q I h) fun c s1 e=>?_);cases c with
 |false=>exact isTrue_or_nil e
 |true=>exact e
theorem pw_and(ha:PT X a tA)(hb:PW X (.BoolOp .And (b::c8) pos) Yj):PW X (.BoolOp .And (a::b::c8) pos) (Y0 tA Yj):=by
 intro wh U s Z H Q I h;refine isTrue_and (dA (ha U s Z H _ I h) fun c s1 ⟨H1,I1,q1⟩=>?_);cases c with
 |true=>exact hb wh U s1 Z H1 Q I1 q1
 |false=>exact⟨H1,I1,q1⟩
theorem pw_or(ha:PT X a tA)(hb:PW X (.BoolOp .Or (b::c8) pos) Yj):PW X (.BoolOp .Or (a::b::c8) pos) (tOr tA Yj):=by
 intro wh U s Z H Q I h;refine isTrue_or (dA (ha U s Z H _ I h) fun c s1 ⟨H1,I1,q1⟩=>?_);cases c with
 |true=>exact⟨H1,I1,q1⟩
 |false=>exact hb wh U s1 Z H1 Q I1 q1
theorem Io(ha:PT X a tA):PT X (.UnaryOp .Not a pos) (Y1 tA):=by
 intro U s Z H Q I h;exact isTrue_not (ha U s Z H (fun c H1=>Q (!c) H1) I h)
theorem PX{op}{t:TE}(h:PE X a t):PE X (.BoolOp op [a] pos) t:=fun U s Z H Q I hw=>BoolOp_one (h U s Z H Q I hw)
def tIf(t:TT)(ta tb:TE):TE:=fun Z H Q=>t Z H fun c H1=>if c=true then ta Z H1 Q else tb Z H1 Q
theorem Ip(hc:PT X e tA)(ha:PE X a ta)(hb:PE X b tb):PE X (.IfExp e a b pos) (tIf tA ta tb):=by
 intro U s Z H Q I h;refine wpAny_IfExp (dA (hc U s Z H _ I h) fun d s1 ⟨H1,I1,q1⟩=>?_);cases d with
 |true=>exact ha U s1 Z H1 Q I1 q1
 |false=>exact hb U s1 Z H1 Q I1 q1
end
def kB(K:Frag)(H:Hp)(a:Addr)(xs:List V):Prop:=
 Rd H a (.lst xs)\/
  ∃(o:Obj) (bE:Array Value) (n:Nat),K.lookup a=some o/\o.cls=.type "list"/\o.dict=none/\o.data=.seq bE n/\bE.size<=sizeLine/\Vals xs bE.toList
def g9(K:Frag)(H:Hp)(a:Addr)(xs:List V):Prop:=
 Rd H a (.tup xs)\/
  ∃(o:Obj) (bE:Array Value) (n:Nat),K.lookup a=some o/\o.cls=.type "tuple"/\o.data=.seq bE n/\bE.size<=sizeLine/\Vals xs bE.toList
def Y2:Value->Option V
 |.none=>some .bO
 |.bool b=>some (.bl b)
 |.int i _=>some (.int i)
 |.str x _=>some (.str x)
 |.bytes b _=>some (.Ox b)
 |.float b _=>some (.Gp b)
 |.ref a=>some (.ref a)
 |.type n=>some (.ty n)
 |_=>none
theorem RelV.abs {x:V}{u:Value}(r:RelV x u):Y2 u=some x:=by
 cases x with
 |bO=>cases r;rfl
 |bl _=>cases r;rfl
 |int _=>obtain⟨t,rfl⟩:=r;rfl
 |str _=>obtain⟨t,rfl⟩:=r;rfl
 |Ox _=>obtain⟨t,rfl⟩:=r;rfl
 |Gp _=>obtain⟨t,rfl⟩:=r;rfl
 |_=>cases r;rfl
theorem RelV.inj {x y:V}{u:Value}(r:RelV x u)(q:RelV y u):x=y:=Option.some.inj (r.abs.symm.trans q.abs)
theorem Vals.inj:∀{xs ys:List V} {us:List Value},Vals xs us->Vals ys us->xs=ys
 |_,_,_,.nil,.nil=>rfl
 |_,_,_,.cons r t,.cons r' t'=>by rw[r.inj r',Vals.inj t t']
section
variable {xs ys:List V}
theorem kB.of (h:H a=some (.lst xs)):kB K H a xs:=.inl (.inl h)
theorem g9.of (h:H a=some (.tup xs)):g9 K H a xs:=.inl (.inl h)
theorem Inv.list (I:Inv X U Z H s)(h:kB X.K H a xs):∃bE:List Value,Vals xs bE/\PlainL s.heap a bE.toArray/\xs.length<=sizeLine:=by
 rcases h with h|⟨o,bE,n,hk,hc,hd,hs,hz,r⟩
 ·obtain⟨z,bE,n,r,e⟩:=h.ok I.cp;exact⟨bE,r,⟨_,n,e,rfl,rfl,rfl⟩,z⟩
 ·refine⟨bE.toList,r,⟨o,n,I.kM a o hk,hc,hd,by simpa using hs⟩,?_⟩;have e:=r.length;simp only[fj]at e;omega
theorem Inv.tuple (I:Inv X U Z H s)(h:g9 X.K H a xs):∃bE:List Value,Vals xs bE/\IsTup s.heap a bE.toArray/\xs.length<=sizeLine:=by
 rcases h with h|⟨o,bE,n,hk,hc,hs,hz,r⟩
 ·obtain⟨z,bE,r,p⟩:=h.ok I.cp;exact⟨bE,r,p,z⟩
 ·refine⟨bE.toList,r,⟨o,I.kM a o hk,hc,n,by simpa using hs⟩,?_⟩;have e:=r.length;simp only[fj]at e;omega
theorem Inv.Iq (I:Inv X U Z H s)(h:kB X.K H a xs)(h':kB X.K H a ys):xs=ys:=by
 obtain⟨bE,r,⟨o,n,e,_,_,d⟩,_⟩:=I.list h;obtain⟨r9,r',⟨o',n',e',_,_,d'⟩,_⟩:=I.list h';rw[e]at e';cases e';rw[d]at d';injection d' with d1 _
 have:bE=r9:=by simpa using cq Array.toList d1
 subst this;exact r.inj r'
theorem Inv.pF (I:Inv X U Z H s)(h:g9 X.K H a xs)(h':g9 X.K H a ys):xs=ys:=by
 obtain⟨bE,r,⟨o,e,_,n,d⟩,_⟩:=I.tuple h;obtain⟨r9,r',⟨o',e',_,n',d'⟩,_⟩:=I.tuple h';rw[e]at e';cases e';rw[d]at d';injection d' with d1 _
 have:bE=r9:=by simpa using cq Array.toList d1
 subst this;exact r.inj r'
end
abbrev Cx.yi (X:Cx)(E:Value->Shared->Prop):Cx:={X with xe:=E}
abbrev Cx.HZ (X:Cx):Cx:=X.yi fun _ _=>False
theorem Cx.Ok.yi (ok:X.Ok)(E:Value->Shared->Prop):(X.yi E).Ok:=
 ⟨ok.mod,ok.kind,ok.glob,ok.blt,ok.above,ok.inj,ok.has,ok.OA,ok.hd,ok.frames,ok.LO,ok.TH,ok.bs,ok.Gr,ok.zE,ok.Bi,ok.p5,ok.Ij⟩
theorem Cx.Ok.ou (ok:(X.yi E).Ok):X.Ok:=
 ⟨ok.mod,ok.kind,ok.glob,ok.blt,ok.above,ok.inj,ok.has,ok.OA,ok.hd,ok.frames,ok.LO,ok.TH,ok.bs,ok.Gr,ok.zE,ok.Bi,ok.p5,ok.Ij⟩
theorem Inv.yi (I:Inv X U Z H s)(E:Value->Shared->Prop):Inv (X.yi E) U Z H s:=⟨I.ok.yi E,I.os,I.bare,I.base,I.loc,I.cell,I.free,I.eZ,I.pin,I.cp,I.len⟩
theorem Inv.ou (I:Inv (X.yi E) U Z H s):Inv X U Z H s:=⟨I.ok.ou,I.os,I.bare,I.base,I.loc,I.cell,I.free,I.eZ,I.pin,I.cp,I.len⟩
theorem SP.ou {D:Ends}{f:Flow}{s':Shared}(h:SP (X.yi E) U D f s'):SP X U D f s':=by
 cases f with
 |next=>obtain⟨cK,H',I,q⟩:=h;exact⟨cK,H',I.ou,q⟩
 |brk=>obtain⟨cK,H',I,q⟩:=h;exact⟨cK,H',I.ou,q⟩
 |cont=>obtain⟨cK,H',I,q⟩:=h;exact⟨cK,H',I.ou,q⟩
 |ret u=>obtain⟨v,cK,H',I,r,q⟩:=h;exact⟨v,cK,H',I.ou,r,q⟩
theorem nC.HZ {st:List Stmt}{t:TS}(h:nC X.HZ st t):nC X st t:=fun U s Z H D I hw=>
 dq (h U s Z H D (I.yi _) hw) (fun _ _ q=>q.ou) fun _ _ z=>False.elim z
section
variable {st:Stmt}{t u:TS}{te:TE}
def Ut:TS:=fun D Z H=>D.nx Z H
def Y3(t u:TS):TS:=fun D Z H=>t {D with nx:=u D} Z H
theorem EN:nC X [] Ut:=fun _ _ Z H _ I h=>rQ ⟨Z,H,I,h⟩
theorem Bj(h1:PS X st t)(h2:nC X ac u):nC X (st::ac) (Y3 t u):=by
 intro U s Z H D I h;refine wpAny_execs_cons (dA (h1 U s Z H {D with nx:=u D} I h) fun f s1 q=>?_);cases f with
 |next=>
  obtain⟨cK,H',I',q⟩:=q;exact h2 U s1 cK H' D I' q
 |_=>exact q
theorem EO(h1:PS X st t):nC X [st] t:=by
 intro U s Z H D I h;refine wpAny_execs_cons (dA (h1 U s Z H D I h) fun f s1 q=>?_);cases f with
 |next=>exact rQ q
 |_=>exact q
theorem Inv.quiet (I:Inv X U Z H s):interactive X.env=false:=by simp[interactive,I.ok.kind]
def Uu(te:TE):TS:=fun D Z H=>te Z H fun _ H1=>D.nx Z H1
theorem L_(he:PE X e te)(hs:swapsWith e none pos.line X.env=pure false:=by rfl):PS X (.Expr e pos) (Uu te):=by
 intro U s Z H D I h;exact wpAny_Expr_any (dA (he U s Z H _ I h) fun v s1 ⟨x,H1,I1,r1,q1⟩=>⟨Z,H1,I1,q1⟩) I.quiet hs
def Y4(te:TE):TS:=fun D Z H=>te Z H D.rt
theorem Ir(he:PE X e te):PS X (.Return (some e) pos) (Y4 te):=by
 intro U s Z H D I h;exact wpAny_Return_some (dA (he U s Z H _ I h) fun v s1 ⟨x,H1,I1,r1,q1⟩=>⟨x,Z,H1,I1,r1,q1⟩)
def Uv:TS:=fun D _ H=>D.rt .bO H
theorem L':PS X (.Return none pos) Uv:=fun _ _ Z H _ I h=>wpAny_Return_none ⟨.bO,Z,H,I,rfl,h⟩
def Y5(c:TT)(t u:TS):TS:=fun D Z H=>c Z H fun b H1=>if b=true then t D Z H1 else u D Z H1
theorem OD{b:List Stmt}{tc:TT}(hc:PT X e tc)(ha:nC X ac t)(hb:nC X b u):PS X (.If e ac b pos) (Y5 tc t u):=by
 intro U s Z H D I h;refine wpAny_If (dA (hc U s Z H _ I h) fun d s1 ⟨H1,I1,q1⟩=>?_);cases d with
 |true=>exact ha U s1 Z H1 D I1 q1
 |false=>exact hb U s1 Z H1 D I1 q1
end
abbrev TG:=V->St->Hp->(St->Hp->Prop)->Prop
abbrev PY:=List V->St->Hp->(St->Hp->Prop)->Prop
def PG(X:Cx)(target:Expr)(t:TG):Prop:=
 ∀(U:List (Addr×Obj)) (s:Shared) (Z:St) (H:Hp) (v:V) (u:Value) (Q:St->Hp->Prop),Inv X U Z H s->RelV v u->t v Z H Q->
  wpAny (model X.prog X.w) X.A (assign target X.env u) (fun _ s'=>∃cK H',Inv X U cK H' s'/\Q cK H') X.xe s
def Ma(X:Cx)(ts:List Expr)(t:PY):Prop:=
 ∀(U:List (Addr×Obj)) (s:Shared) (Z:St) (H:Hp) (vs:List V) (us:List Value) (Q:St->Hp->Prop),Inv X U Z H s->Vals vs us->t vs Z H Q->
  wpAny (model X.prog X.w) X.A (assignInOrder ((assignEach ts X.env).map (·.2)) us) (fun _ s'=>∃cK H',Inv X U cK H' s'/\Q cK H') X.xe s
def OE(i:Nat):TG:=fun v Z H Q=>Q (Z.set i (some v)) H
theorem ER(hN:X.N.Nodup)(hi:X.N[i]?=some x)(hx:Loc X.env.scope x)(hf:ye X x:=by first|exact .inl rfl|exact .inr rfl|assumption):PG X (.Name x pos) (OE i):=by
 intro U s Z H v u Q I r h;exact wpAny_assign_Name (wg I hN hi hx r (fun s' I'=>⟨_,H,I',h⟩) hf)
def Y6:PY:=fun vs Z H Q=>vs=[]/\Q Z H
def Uw(t:TG)(u:PY):PY:=fun vs Z H Q=>∃v r,vs=v::r/\t v Z H fun cK H'=>u r cK H' Q
theorem Mb:Ma X [] Y6:=by
 intro U s Z H vs us Q I r h;obtain⟨e,h⟩:=h;subst e;cases r;exact assignInOrder_nil ⟨Z,H,I,h⟩
theorem Iu{t:TG}{u:PY}(h1:PG X e t)(h2:Ma X es u)
  (hs:(assignEach (e::es) X.env).map (·.2)=assign e X.env::(assignEach es X.env).map (·.2):=by rfl):Ma X (e::es) (Uw t u):=by
 intro U s Z H vs us Q I r h;obtain⟨v,vr,e1,h⟩:=h;subst e1;cases r with
 |cons r rr=>
  rw[hs];refine assignInOrder_cons (dA (h1 U s Z H _ _ _ I r h) fun _ s1 ⟨Yk,H1,I1,q1⟩=>?_);exact h2 U s1 Yk H1 _ _ Q I1 rr q1
def Y7(K:Frag)(n:Nat)(t:PY):TG:=fun v Z H Q=>∃a xs,v=.ref a/\g9 K H a xs/\xs.length=n/\t xs Z H Q
theorem PZ{t:PY}{n:Nat}(hc:X.calm=true)(h:Ma X es t)
  (hn:(assignEach es X.env).length=n:=by rfl) (bQ:(assignEach es X.env).findIdx? (·.1)=none:=by rfl):PG X (.Tuple es i pos) (Y7 X.K n t):=by
 intro U s Z H v u Q I r hw;obtain⟨a,xs,e1,hq,hl,hw⟩:=hw;subst e1;cases r;obtain⟨bE,rv,ht,hz⟩:=I.tuple hq;refine assign_Tuple_tuple (I.ok.hd hc) ht (by simp[hn,<-hl,rv.length]) bQ fun h' hx=>?_
 have I1:Inv X U Z H {s with heap:=h'}:=I.kept (t':=s.toks) fun b o e=>hx b o (bu (aO e)) e;exact h U _ Z H xs _ Q I1 (by simpa using rv) hw
def Ux(te:TE)(g:TG):TS:=fun D Z H=>te Z H fun x H1=>g x Z H1 D.nx
theorem Iw{te:TE}{g:TG}(he:PE X e te)(hg:PG X tg g)(hs:swapsWithSole [tg] e pos.line X.env=pure false:=by rfl) (hw:swappedStores [tg] e X.env=pure none:=by rfl)
  (h1:(assignEach [tg] X.env).map (·.2)=[assign tg X.env]:=by rfl):PS X (.Assign [tg] e pos) (Ux te g):=by
 intro U s Z H D I h;refine wpAny_Assign_stores (dA (he U s Z H _ I h) fun v s1 ⟨x,H1,I1,r1,q1⟩=>?_) hs hw;rw[h1];exact dA (hg U s1 Z H1 x v _ I1 r1 q1) fun _ s2 q=>q
theorem Iy{te:TE}(hN:X.N.Nodup)(hi:X.N[i]?=some x)(hx:Loc X.env.scope x)(he:PE X e te)(hs:swapsWith e (some (.Name x p)) pos.line X.env=pure false:=by rfl) (hf:ye X x:=by first|exact .inl rfl|exact .inr rfl|assumption):
  PS X (.Assign [.Name x p] e pos) (Ux te (OE i)):=by
 intro U s Z H D I h;refine wpAny_Assign_Name (dA (he U s Z H _ I h) fun v s1 ⟨y,H1,I1,r1,q1⟩=>?_) hs;exact wg I1 hN hi hx r1 (fun s2 I2=>⟨_,H1,I2,q1⟩) hf
structure It where
 go:Nat->Hp->Prop
 Gu:Nat->Hp->V->Hp->Prop
 stop:Nat->Hp->Prop
def kj(X:Cx)(U:List (Addr×Obj))(H:Hp)(b:Addr):Prop:=
 H b=none/\b≠X.env.locals/\b∉X.fs/\(b∈X.ex\/X.fq.heap.objs.size<=b)/\(∀x c,X.env.cells.lookup x=some c->c≠b)/\∀p∈X.pn++U,p.1≠b
theorem Inv.wj {H':Hp}{b:Addr}(I:Inv X U Z H s)(hb:s.heap.objs.size<=b)(hn:H' b=none):kj X U H' b:=by
 refine⟨hn,cU (cy I.lt hb),I.Uo hb,.inr (bP I.sz hb),fun x c e z=>?_,fun p hp z=>?_⟩
 ·obtain⟨v,q⟩:=I.cell x c e;exact absurd (cy q.lt (by rw[z];exact hb)) (dH _)
 ·exact absurd (cy (aO (I.pin p hp).1) (by rw[z];exact hb)) (dH _)
structure Turn(P:Program)(w:World)(K:Frag)(tg:Expr)(J:It)(fp:List Addr)(it:Addr)(tn:Nat->Heap->Prop):Prop where
 mem:it∈fp
 obj:∀i h,tn i h->∀b∈fp,∃o,h.get? b=some o/\∀v,o.data≠ .cell v
 keep:∀i h h',tn i h->(∀b∈fp,∀o,h.get? b=some o->h'.get? b=some o)->tn i h'
 item:∀(X:Cx),X.prog=P->X.w=w->X.K=K->X.calm=true->∀(i:Nat) (U:List (Addr×Obj)) (s:Shared) (Z:St) (H:Hp) (E:Value->Shared->Prop),Inv X U Z H s->(∀b∈fp,kj X U H b)->tn i s.heap->J.go i H->
  wpAny (model P w) X.A (pyNext (.ref it)) (fun r s1=>∃u,r=some u/\
   wpAny (model P w) X.A (letOwnedTupleGo tg (.ref it) u) (fun _ s2=>∃x H',Inv X U Z H' s2/\RelV x u/\J.Gu i H x H'/\tn (i+1) s2.heap/\∀b∈fp,H' b=none) E s1) E s
 done:∀(X:Cx),X.prog=P->X.w=w->X.K=K->X.calm=true->∀(i:Nat) (U:List (Addr×Obj)) (s:Shared) (Z:St) (H:Hp) (E:Value->Shared->Prop),Inv X U Z H s->(∀b∈fp,kj X U H b)->tn i s.heap->J.stop i H->
  wpAny (model P w) X.A (pyNext (.ref it)) (fun r s1=>r=none/\Inv X U Z H s1) E s
 self:∀(A:Around) (i:Nat) (s:Shared) (Q:Value->Shared->Prop) (E:Value->Shared->Prop),tn i s.heap->Q (.ref it) s->wpAny (model P w) A (pyIter (.ref it)) Q E s
abbrev TI:=St->Hp->(It->Hp->Prop)->Prop
def Uy(X:Cx)(U:List (Addr×Obj))(Z:St)(tg:Expr)(R:It->Hp->Prop)(Yl:Value)(s2:Shared):Prop:=
 ∃(it:Addr) (fp:List Addr) (tn:Nat->Heap->Prop) (J:It) (H':Hp),Yl=.ref it/\Inv X U Z H' s2/\Turn X.prog X.w X.K tg J fp it tn/\tn 0 s2.heap/\(∀b∈fp,kj X U H' b)/\R J H'
def PI(X:Cx)(tg c0:Expr)(wi:TI):Prop:=
 ∀(U:List (Addr×Obj)) (s:Shared) (Z:St) (H:Hp) (R:It->Hp->Prop),Inv X U Z H s->wi Z H R->
  wpAny (model X.prog X.w) X.A (eval c0 X.env) (fun v s1=>wpAny (model X.prog X.w) X.A (pyIter v) (Uy X U Z tg R) X.xe s1) X.xe s
theorem yD{M:Model}{s:Shared}{o:Obj}{n:String}{vs:Array Value}{Q:Unit->Shared->Prop}(ho:s.heap.get? a=some o)(hc:o.cls=.type n)(hd:o.data=.fields vs)
  (hn:["enumerate","zip","dict_itemiterator","dict_reverseitemiterator","odict_iterator","itertools.zip_longest","itertools.pairwise"].contains n=false) (hQ:Q () s):wpAny M A (letOwnedTupleGo tg (.ref a) aa) Q E s:=by
 unfold letOwnedTupleGo;cases tg<;>first
  |exact aC hQ
  |(cases aa<;>first
    |exact aC hQ
    |(refine ak (om ho ?_)
      rw[hc,hd];show wpAny M A (if(["enumerate","zip","dict_itemiterator","dict_reverseitemiterator","odict_iterator","itertools.zip_longest","itertools.pairwise"].contains n&&vs[0]?==some (rawInt _))=true then _ else _) Q E s;rw[ay (by intro h;rw[hn,v_]at h;cases h)];exact aC hQ))
def Itl(K:Frag)(a:Addr):It:=
 ⟨fun i H=>∃xs x,kB K H a xs/\xs[i]?=some x,fun i H x H'=>H'=H/\∀xs,kB K H a xs->xs[i]?=some x,fun i H=>∃xs,kB K H a xs/\xs.length<=i⟩
def Itt(K:Frag)(a:Addr):It:=
 ⟨fun i H=>∃xs x,g9 K H a xs/\xs[i]?=some x,fun i H x H'=>H'=H/\∀xs,g9 K H a xs->xs[i]?=some x,fun i H=>∃xs,g9 K H a xs/\xs.length<=i⟩
def Ym(lo:Int)(n:Nat):It:=⟨fun i _=>i<n,fun i H x H'=>H'=H/\x=.int (lo+i),fun i _=>n<=i⟩
theorem Gv(a it:Addr):Turn P w K tg (Itl K a) [it] it (fun i h=>h.IsListIter it a i) where
 mem:=by simp
 obj:=fun i h st b hb=>by
  have e:b=it:=by simpa using hb
  subst e;obtain⟨o,e,c,d⟩:=st;exact⟨o,e,fun v z=>by rw[d]at z;cases z⟩
 keep:=fun i h h' st k=>st.at fun o e=>k it (by simp) o e
 item:=by
  intro X hP hw hK hc i U s Z H E I hf st hg;subst hP hw hK;obtain⟨xs,x,hq,hx⟩:=hg;obtain⟨bE,rv,p,hz⟩:=I.list hq;obtain⟨u,hu,ru⟩:=rv.get hx;obtain⟨f0,f1,f2,f3,f4,f5⟩:=hf it (by simp);refine wpAny_pyNext_list_item st p.isList (x:=u) (by simpa using hu) fun h' wk sb=>?_
  have I1:Inv X U Z H {s with heap:=h'}:=I.turned (t':=s.toks) (fun b o hb e=>(sb.2 b hb).trans e) f0 f1 f3 f4 f5;obtain⟨o,e,c,d⟩:=id wk;exact⟨u,rfl,yD (s:={s with heap:=h'}) e c d (by decide) ⟨x,H,I1,ru,⟨rfl,fun ys hy=>by rw[I.Iq hy hq];exact hx⟩,wk,fun b hb=>(hf b hb).1⟩⟩
 done:=by
  intro X hP hw hK hc i U s Z H E I hf st hg;subst hP hw hK;obtain⟨xs,hq,hx⟩:=hg;obtain⟨bE,rv,p,hz⟩:=I.list hq;obtain⟨f0,f1,f2,f3,f4,f5⟩:=hf it (by simp);have hl:=rv.length;exact wpAny_pyNext_list_end (I.ok.hd hc) st p.isList (by simp;omega) fun h' eb=>⟨rfl,I.turned (t':=s.toks) (fun b o hb e=>eb b o hb e) f0 f1 f3 f4 f5⟩
 self:=fun _ _ _ _ _ st h=>wpAny_pyIter_listiter st h
theorem Dm(a it:Addr):Turn P w K tg (Itt K a) [it] it (fun i h=>h.IsTupleIter it a i) where
 mem:=by simp
 obj:=fun i h st b hb=>by
  have e:b=it:=by simpa using hb
  subst e;obtain⟨o,e,c,d⟩:=st;exact⟨o,e,fun v z=>by rw[d]at z;cases z⟩
 keep:=fun i h h' st k=>st.at fun o e=>k it (by simp) o e
 item:=by
  intro X hP hw hK hc i U s Z H E I hf st hg;subst hP hw hK;obtain⟨xs,x,hq,hx⟩:=hg;obtain⟨bE,rv,p,hz⟩:=I.tuple hq;obtain⟨u,hu,ru⟩:=rv.get hx;obtain⟨f0,f1,f2,f3,f4,f5⟩:=hf it (by simp);refine wpAny_pyNext_tuple_item st (show s.heap.IsTuple a bE.toArray from p) (x:=u) (by simpa using hu) fun h' wk sb=>?_
  have I1:Inv X U Z H {s with heap:=h'}:=I.turned (t':=s.toks) (fun b o hb e=>(sb.2 b hb).trans e) f0 f1 f3 f4 f5;obtain⟨o,e,c,d⟩:=id wk;exact⟨u,rfl,yD (s:={s with heap:=h'}) e c d (by decide) ⟨x,H,I1,ru,⟨rfl,fun ys hy=>by rw[I.pF hy hq];exact hx⟩,wk,fun b hb=>(hf b hb).1⟩⟩
 done:=by
  intro X hP hw hK hc i U s Z H E I hf st hg;subst hP hw hK;obtain⟨xs,hq,hx⟩:=hg;obtain⟨bE,rv,p,hz⟩:=I.tuple hq;obtain⟨f0,f1,f2,f3,f4,f5⟩:=hf it (by simp);have hl:=rv.length;exact wpAny_pyNext_tuple_end (I.ok.hd hc) st (show s.heap.IsTuple a bE.toArray from p) (by simp;omega) fun h' eb=>⟨rfl,I.turned (t':=s.toks) (fun b o hb e=>eb b o hb e) f0 f1 f3 f4 f5⟩
 self:=fun _ _ _ _ _ st h=>wpAny_pyIter_tupleiter st h
theorem Dn(it:Addr)(lo:Int)(n:Nat):Turn P w K tg (Ym lo n) [it] it (fun i h=>IsRangeIter h it (lo+(i:Nat)*1) ((n:Int) - (i:Nat)) 1) where
 mem:=by simp
 obj:=fun i h st b hb=>by
  have e:b=it:=by simpa using hb
  subst e;exact⟨_,st,fun v z=>by
   have z':Data.fields _=Data.cell v:=z;cases z'⟩
 keep:=fun i h h' st k=>k it (by simp) _ st
 item:=by
  intro X hP hw hK hc i U s Z H E I hf st hg;subst hP hw hK;obtain⟨f0,f1,f2,f3,f4,f5⟩:=hf it (by simp);have W:=Walks.range (prog:=X.prog) (w:=X.w) (I.ok.hd hc) it lo 1 n;refine W.item i s _ _ hg st fun v h' tk hv wk kk=>?_
  obtain⟨t,rfl⟩:=hv;have I1:Inv X U Z H {s with heap:=h',toks:=tk}:=I.turned (fun b o hb e=>kk b o (by simpa using hb) e) f0 f1 f3 f4 f5;refine⟨_,rfl,yD (s:={s with heap:=h',toks:=tk}) (n:="range_iterator") wk rfl rfl (by decide) ⟨.int (lo+i),H,I1,⟨t,?_⟩,⟨rfl,rfl⟩,wk,fun b hb=>(hf b hb).1⟩⟩;rw[Int.mul_one]
 done:=by
  intro X hP hw hK hc i U s Z H E I hf st hg;subst hP hw hK;obtain⟨f0,f1,f2,f3,f4,f5⟩:=hf it (by simp);exact wpAny_pyNext_range_end (I.ok.hd hc) st (by have:n<=i:=hg;omega) fun h' eb=>⟨rfl,I.turned (t':=s.toks) (fun b o hb e=>eb b o hb e) f0 f1 f3 f4 f5⟩
 self:=fun _ _ _ _ _ st h=>wpAny_pyIter_rangeiter st h
theorem Iz{R:It->Hp->Prop}{lo hi:Int}{t u v:Tok}(I:Inv X U Z H s)(h1:-(2 ^62)<=lo)(h2:lo<2 ^62)(h3:-(2 ^62)<=hi)(h4:hi<2 ^62)
  (q:R (Ym lo (hi - lo).toNat) H):wpAny (model X.prog X.w) X.A (pyIter (.ref s.heap.objs.size)) (Uy X U Z tg R) E {s with heap:=s.heap.push {cls:=.type "range",data:=.fields #[.int lo t,.int hi u,.int 1 v]},toks:=i}:=by
 refine wpAny_pyIter_range (IsRange.new ..) (small_one h1 h2 h3 h4) ?_
 have I1:Inv X U Z H {s with heap:=s.heap.push {cls:=.type "range",data:=.fields #[.int lo t,.int hi u,.int 1 v]},toks:=i}:=I.kept fun b o e=>bh _ e;refine⟨(s.heap.push {cls:=.type "range",data:=.fields #[.int lo t,.int hi u,.int 1 v]}).objs.size,[(s.heap.push {cls:=.type "range",data:=.fields #[.int lo t,.int hi u,.int 1 v]}).objs.size],_,_,H,rfl,
  I1.kept (t':=i) fun b o e=>bh _ e,Dn _ lo (hi - lo).toNat,?_,fun b hb=>?_,q⟩
 ·have e1:lo+((0:Nat):Int)*1=lo:=by simp
  have e2:(((hi - lo).toNat:Nat):Int) - ((0:Nat):Int)=Builtin.Range.rangeSize lo hi 1:=by rw[rangeSize_one];split<;>omega
  show IsRangeIter _ _ (lo+((0:Nat):Int)*1) ((((hi - lo).toNat:Nat):Int) - ((0:Nat):Int)) 1;rw[e1,e2];exact bG _ rfl
 ·have e:b=(s.heap.push {cls:=.type "range",data:=.fields #[.int lo t,.int hi u,.int 1 v]}).objs.size:=by simpa using hb
  subst e;exact I1.wj (aQ _) (I1.cp.fresh (aQ _))
def Uz(ta:TA):TI:=fun Z H R=>ta Z H fun vs H1=>∃j:Int,vs=[.int j]/\-(2 ^62)<=j/\j<2 ^62/\R (Ym 0 j.toNat) H1
theorem Gw{ta:TA}(hg:Gl X "range")(hm:X.mg "range"=none)(ha:PA X [o] ta)(hs:starEach [o] X.env=[(false,eval o X.env)]:=by rfl):PI X tg (.Call (.Name "range" p) [o] [] pos) (Uz ta):=by
 intro U s Z H R I h;refine Call_ (t5 I hg hm boot_range (vE (dA (ha pos U s Z H _ I h) fun us s1 ⟨vs,H1,I1,r1,q1⟩=>?_) hs rfl));obtain⟨j,e,q1,q2,q⟩:=q1;subst e;cases r1 with
 |cons r rr=>
  cases rr;obtain⟨t,rfl⟩:=r;exact call_range_1 (Iz I1 (by omega) (by omega) q1 q2 (by simpa using q))
def Y8(wi:TI)(g:TG)(tb:TS):TS:=fun D Z H=>wi Z H fun J H1=>∃W:Nat->Nat->St->Hp->Prop,(∃m,W 0 m Z H1)/\∀i m Z H,W i m Z H->
 (J.stop i H/\D.nx Z H)\/(J.go i H/\∃N:St->Hp->Prop,(∀cK H',N cK H'->∃m',m'<m/\W (i+1) m' cK H')/\∀x H',J.Gu i H x H'->g x Z H' fun yj H2=>tb {D with nx:=N,ct:=N,bk:=D.nx} yj H2)
def wm(fp:List Addr)(h:Heap):List (Addr×Obj):=fp.filterMap fun b=>(h.get? b).map fun o=>(b,o)
theorem mD{fp:List Addr}{h:Heap}{o:Obj}(hb:a∈fp)(e:h.get? a=some o):(a,o)∈wm fp h:=ky.mpr ⟨a,hb,by rw[e];rfl⟩
theorem Gx{fp:List Addr}{h:Heap}{p:Addr×Obj}(hp:p∈wm fp h):p.1∈fp/\h.get? p.1=some p.2:=by
 obtain⟨b,hb,e⟩:=ky.mp hp;cases q:h.get? b with
 |none=>rw[q]at e;cases e
 |some o=>
  rw[q]at e;have e':(b,o)=p:=Option.some.inj e;subst e';exact⟨hb,q⟩
theorem Inv.pinned {fp:List Addr}(I:Inv X U Z H s)(hf:∀b∈fp,kj X U H b)(ho:∀b∈fp,∃o,s.heap.get? b=some o/\∀v,o.data≠ .cell v):Inv X (U++wm fp s.heap) Z H s:=
 I.jr fun p hp=>(cR.mp hp).elim (fun z=>I.pin p (cI _ z)) fun z=>by
   obtain⟨hb,e⟩:=Gx z;obtain⟨f0,f1,f2,_⟩:=hf p.1 hb;obtain⟨o,e',d⟩:=ho p.1 hb;rw[e]at e';cases e';exact⟨e,f0,f1,f2,d⟩
theorem Inv.r_ {pl:List (Addr×Obj)}(I:Inv X (U++pl) Z H s):Inv X U Z H s:=I.jr fun p hp=>I.pin p (cI _ (jk _ hp))
theorem IA{c0:Expr}{wi:TI}{g:TG}{tb:TS}(hp:PassesOwn (model X.prog X.w) X.A X.env X.xe)(hc:X.calm=true)(hi:PI X tg c0 wi)(hg:PG X tg g)(hb:nC X ac tb)
  (hs:∀x,foldedSetIterable c0 X.env x=pure x:=by intro _;rfl):PS X (.For tg c0 ac [] pos) (Y8 wi g tb):=by
 intro U s Z H D I h;refine wpAny_For (dA (hi U s Z H _ I h) fun v s1 h1=>dA h1 fun Yl s2 h2=>?_) hs;obtain⟨it,fp,tn,J,H2,e,I2,T,Mc,f2,W,⟨m0,w0⟩,turn⟩:=h2;subst e;have Dp:∀{H':Hp},(∀b∈fp,H' b=none)->∀b∈fp,kj X U H' b:=fun hn b hb=>⟨hn b hb,(f2 b hb).2⟩;refine codeAny_forLoop_any (fun n s'=>∃i cK H',Inv X U cK H' s'/\tn i s'.heap/\(∀b∈fp,H' b=none)/\W i n cK H') ?_ m0 ⟨0,Z,H2,I2,Mc,fun b hb=>(f2 b hb).1,w0⟩
 rintro n s3 ⟨i,OF,H3,I3,st3,fr3,w3⟩
 rcases turn i n OF H3 w3 with⟨stop,qn⟩|⟨go,N,hN,step⟩
 ·refine n6 hp (dA (T.done X rfl rfl rfl hc i U s3 OF H3 X.xe I3 (Dp fr3) st3 stop) fun r s4 ⟨hr,I4⟩=>?_);subst hr;exact rQ ⟨OF,H3,I4,qn⟩
 ·refine n6 hp (dA (T.item X rfl rfl rfl hc i U s3 OF H3 X.xe I3 (Dp fr3) st3 go) fun r s4 ⟨u,hr,h4⟩=>?_);subst hr;refine n6 hp (dA h4 fun _ s5 ⟨x,H5,I5,r5,y5,TJ,Yn⟩=>?_);have I5':=I5.pinned (Dp Yn) (T.obj _ _ TJ);refine n6 hp (dA (hg _ s5 OF H5 x u _ I5' r5 (step x H5 y5)) fun _ s6 ⟨Y9,H6,I6,q6⟩=>?_);refine n6 hp (dA (hb _ s6 Y9 H6 _ I6 q6) fun f s7 q7=>?_);have again:∀{IB:St} {H7:Hp},Inv X (U++wm fp s5.heap) IB H7 s7->N IB H7->∃m,m<n/\∃i cK H',Inv X U cK H' s7/\tn i s7.heap/\(∀b∈fp,H' b=none)/\W i m cK H':=fun{IB H7} I7 n7=>by
   obtain⟨m',hm,w7⟩:=hN IB H7 n7;refine⟨m',hm,i+1,IB,H7,I7.r_,T.keep _ _ _ TJ fun b hb o e=>(I7.pin (b,o) (cI _ (cI _ (mD hb e)))).1,fun b hb=>?_,w7⟩;obtain⟨o,e,d⟩:=T.obj _ _ TJ b hb;exact(I7.pin (b,o) (cI _ (cI _ (mD hb e)))).2.1
  cases f with
  |next=>obtain⟨IB,H7,I7,n7⟩:=q7;exact again I7 n7
  |cont=>obtain⟨IB,H7,I7,n7⟩:=q7;exact again I7 n7
  |brk=>obtain⟨IB,H7,I7,q7⟩:=q7;exact⟨IB,H7,I7.r_,q7⟩
  |ret v=>obtain⟨x7,IB,H7,I7,r7,q7⟩:=q7;exact⟨x7,IB,H7,I7.r_,r7,q7⟩
abbrev R2:=V->V->Hp->VK->Prop
def t7(X:Cx)(f:Value->Value->Sem Value)(r:R2):Prop:=
 ∀(U:List (Addr×Obj)) (s:Shared) (Z:St) (H:Hp) (x y:V) (v u:Value) (Q:VK),Inv X U Z H s->RelV x v->RelV y u->r x y H Q->
  wpAny (model X.prog X.w) X.A (f v u) (EP X U Z Q) X.xe s
def Y_(X:Cx)(f:Value->Sem Value)(r:V->Hp->VK->Prop):Prop:=
 ∀(U:List (Addr×Obj)) (s:Shared) (Z:St) (H:Hp) (x:V) (v:Value) (Q:VK),Inv X U Z H s->RelV x v->r x H Q->
  wpAny (model X.prog X.w) X.A (f v) (EP X U Z Q) X.xe s
def fG(X:Cx)(f:Value)(r:List V->Hp->VK->Prop):Prop:=
 ∀(U:List (Addr×Obj)) (s:Shared) (Z:St) (H:Hp) (xs:List V) (us:List Value) (Q:VK),Inv X U Z H s->Vals xs us->r xs H Q->
  wpAny (model X.prog X.w) X.A (call f us) (EP X U Z Q) X.xe s
def Y'(X:Cx)(r:V->Hp->(Bool->Hp->Prop)->Prop):Prop:=
 ∀(U:List (Addr×Obj)) (s:Shared) (Z:St) (H:Hp) (x:V) (v:Value) (Q:Bool->Hp->Prop),Inv X U Z H s->RelV x v->r x H Q->
  wpAny (model X.prog X.w) X.A (truthy v) (TP X U Z Q) X.xe s
def P0(r:R2)(ta tb:TE):TE:=fun Z H Q=>ta Z H fun x H1=>tb Z H1 fun y H2=>r x y H2 Q
def tUn(r:V->Hp->VK->Prop)(ta:TE):TE:=fun Z H Q=>ta Z H fun x H1=>r x H1 Q
def rI(C:Int->Int->Prop)(g:Int->Int->V):R2:=fun x y H Q=>∃i j,x=.int i/\y=.int j/\C i j/\Q (g i j) H
def P4(g:Int->Int->V):R2:=fun x y H Q=>∃i j,x=.int i/\y=.int j/\Q (g i j) H
def rU(g:Int->V):V->Hp->VK->Prop:=fun x H Q=>∃i,x=.int i/\Q (g i) H
section
variable {ta tb tc:TE}
theorem P5(ha:PE X e ta)(hb:PE X o tb){R:V->V->Hp->Prop}(I:Inv X U Z H s)
  (h:ta Z H fun x H1=>tb Z H1 fun y H2=>R x y H2) {f:Value->Value->Sem Value}
  (hf:∀v u s2 x y H2,Inv X U Z H2 s2->RelV x v->RelV y u->R x y H2->wpAny (model X.prog X.w) X.A (f v u) Q X.xe s2):
  wpAny (model X.prog X.w) X.A (eval e X.env) (fun v cC=>wpAny (model X.prog X.w) X.A (eval o X.env) (fun u se=>wpAny (model X.prog X.w) X.A (f v u) Q X.xe se) X.xe cC) X.xe s:=by
 refine dA (ha U s Z H _ I h) fun v s1 ⟨x,H1,I1,r1,q1⟩=>?_
 refine dA (hb U s1 Z H1 _ I1 q1) fun u s2 ⟨y,H2,I2,r2,q2⟩=>?_
 exact hf v u s2 x y H2 I2 r1 r2 q2
theorem UA{op:Operator}{r:R2}(ho:t7 X (binaryOp op) r)(ha:PE X e ta)(hb:PE X o tb):PE X (.BinOp e op o pos) (P0 r ta tb):=by
 intro U s Z H Q I h;exact wpAny_BinOp (P5 ha hb I h fun v u s2 x y H2 I2 rx ry q=>ho U s2 Z H2 x y v u Q I2 rx ry q)
theorem UB{op:UnaryOp}{r:V->Hp->VK->Prop}(ho:Y_ X (unaryOp op) r)(ha:PE X e ta):PE X (.UnaryOp op e pos) (tUn r ta):=by
 intro U s Z H Q I h;exact UnaryOp_ (dA (ha U s Z H _ I h) fun v s1 ⟨x,H1,I1,r1,q1⟩=>ho U s1 Z H1 x v Q I1 r1 q1)
theorem opI{f:Value->Value->Sem Value}{C:Int->Int->Prop}{g:Int->Int->Int}
  (rule:∀(i j:Int) (t u:Tok) (s:Shared) (Q:Value->Shared->Prop) (E:Value->Shared->Prop),C i j->Q (.int (g i j) s.toks) {s with toks:=s.toks+1}->wpAny (model X.prog X.w) X.A (f (.int i t) (.int j u)) Q E s):
  t7 X f (rI C fun i j=>.int (g i j)):=by
 intro U s Z H x y v u Q I rx ry h;obtain⟨i,j,rfl,rfl,hc,q⟩:=h;obtain⟨t,rfl⟩:=rx;obtain⟨t',rfl⟩:=ry;exact rule i j t t' s _ _ hc ⟨.int (g i j),H,I.tok _,⟨_,rfl⟩,q⟩
theorem Za{f:Value->Value->Sem Value}{g:Int->Int->Int}
  (rule:∀(i j:Int) (t u:Tok) (s:Shared) (Q:Value->Shared->Prop) (E:Value->Shared->Prop),Q (.int (g i j) s.toks) {s with toks:=s.toks+1}->wpAny (model X.prog X.w) X.A (f (.int i t) (.int j u)) Q E s):
  t7 X f (P4 fun i j=>.int (g i j)):=by
 intro U s Z H x y v u Q I rx ry h;obtain⟨i,j,rfl,rfl,q⟩:=h;obtain⟨t,rfl⟩:=rx;obtain⟨t',rfl⟩:=ry;exact rule i j t t' s _ _ ⟨.int (g i j),H,I.tok _,⟨_,rfl⟩,q⟩
theorem Md{f:Value->Value->Sem Value}{g:Int->Int->Bool}
  (rule:∀(i j:Int) (t u:Tok) (s:Shared) (Q:Value->Shared->Prop) (E:Value->Shared->Prop),Q (.bool (g i j)) s->wpAny (model X.prog X.w) X.A (f (.int i t) (.int j u)) Q E s):
  t7 X f (P4 fun i j=>.bl (g i j)):=by
 intro U s Z H x y v u Q I rx ry h;obtain⟨i,j,rfl,rfl,q⟩:=h;obtain⟨t,rfl⟩:=rx;obtain⟨t',rfl⟩:=ry;exact rule i j t t' s _ _ ⟨.bl (g i j),H,I,rfl,q⟩
def IC(i j:Int):Prop:=(-(2 ^64)<i/\i<2 ^64)\/(-(2 ^64)<j/\j<2 ^64)
theorem IC.ok {i j:Int}(h:IC i j):IntMulOk i j:=by
 rcases h with⟨h1,h2⟩|⟨h1,h2⟩
 ·exact .of_left (intBits_le_64 h1 h2)
 ·exact .of_right (intBits_le_64 h1 h2)
theorem P6:t7 X (binaryOp .Add) (P4 fun i j=>.int (i+j)):=Za fun _ _ _ _ _ _ _ q=>add_int q
theorem P7:t7 X (binaryOp .Mult) (rI IC fun i j=>.int (i*j)):=opI fun _ _ _ _ _ _ _ hc q=>mul_int q hc.ok
theorem P8:t7 X (binaryOp .Mod) (rI (fun _ j=>0<j) fun i j=>.int (i % j)):=opI fun i j _ _ _ _ _ hc q=>by
 have h1:(0:Int)<j:=hc;exact mod_int' (by omega) (by rw[Int.fmod_eq_emod_of_nonneg i (by omega)];exact q)
theorem unI{f:Value->Sem Value}{g:Int->Int}
  (rule:∀(i:Int) (t:Tok) (s:Shared) (Q:Value->Shared->Prop) (E:Value->Shared->Prop),Q (.int (g i) s.toks) {s with toks:=s.toks+1}->wpAny (model X.prog X.w) X.A (f (.int i t)) Q E s):
  Y_ X f (rU fun i=>.int (g i)):=by
 intro U s Z H x v Q I rx h;obtain⟨i,rfl,q⟩:=h;obtain⟨t,rfl⟩:=rx;exact rule i t s _ _ ⟨.int (g i),H,I.tok _,⟨_,rfl⟩,q⟩
theorem P9:Y_ X (unaryOp .USub) (rU fun i=>.int (-i)):=unI fun _ _ _ _ _ q=>neg_int q
end
section
variable {b:Expr}{ta tb tc:TE}
theorem t8{Q:VK}{k k':Bool}(I:Inv X U Z H s)(q:Q (.bl k) H)(e:k=k'):EP X U Z Q (.bool k') s:=by
 subst e;exact⟨.bl k,H,I,rfl,q⟩
theorem UC:t7 X (compareOp .Lt) (P4 fun i j=>.bl (decide (i<j))):=Md fun _ _ _ _ _ _ _ q=>lt_int q
theorem UD:t7 X (compareOp .LtE) (P4 fun i j=>.bl (decide (i<=j))):=Md fun _ _ _ _ _ _ _ q=>le_int q
theorem UE:t7 X (compareOp .Gt) (P4 fun i j=>.bl (decide (j<i))):=Md fun _ _ _ _ _ _ _ q=>gt_int q
theorem UG:t7 X (compareOp .GtE) (P4 fun i j=>.bl (decide (j<=i))):=Md fun _ _ _ _ _ _ _ q=>ge_int q
theorem Gy:t7 X (compareOp .Lt) (fun x y H Q=>∃i j,x=.str i/\y=.str j/\Q (.bl (decide (i.cps.toList<j.cps.toList))) H):=by
 intro U s Z H x y v u Q I rx ry h;obtain⟨i,j,rfl,rfl,q⟩:=h;obtain⟨t,rfl⟩:=rx;obtain⟨t',rfl⟩:=ry;exact lt_str (t8 I q rfl)
theorem Gz:t7 X (compareOp .In) (fun x y H Q=>∃i j,x=.str i/\y=.str j/\Q (.bl (!(Builtin.Str.occurrences j i 0 j.length 1).isEmpty)) H):=by
 intro U s Z H x y v u Q I rx ry h;obtain⟨i,j,rfl,rfl,q⟩:=h;obtain⟨t,rfl⟩:=rx;obtain⟨t',rfl⟩:=ry;exact in_str (t8 I q rfl)
theorem P_:t7 X (compareOp .Is) (fun x y H Q=>y=.bO/\Q (.bl (decide (x=.bO))) H):=by
 intro U s Z H x y v u Q I rx ry h;obtain⟨rfl,q⟩:=h;cases ry;refine is_none_gen (t8 I q ?_);cases x<;>first
  |(cases rx;rfl)
  |(obtain⟨t,rfl⟩:=rx;rfl)
theorem zI:t7 X (compareOp .NotIn) (fun x y H Q=>∃i j,x=.str i/\y=.str j/\Q (.bl (!(!(Builtin.Str.occurrences j i 0 j.length 1).isEmpty))) H):=by
 intro U s Z H x y v u Q I rx ry h;obtain⟨i,j,rfl,rfl,q⟩:=h;obtain⟨t,rfl⟩:=rx;obtain⟨t',rfl⟩:=ry;exact notIn_str (t8 I q rfl)
theorem zJ(b:Expr){op:CmpOp}(h:op≠ .In:=by decide) (h2:op≠ .NotIn:=by decide):behindInMarks op b=false:=by
 have e1:(op==CmpOp.In)=false:=by cases op<;>first|rfl|exact absurd rfl h
 have e2:(op==CmpOp.NotIn)=false:=by cases op<;>first|rfl|exact absurd rfl h2
 cases b<;>simp[behindInMarks,e1,e2]
theorem Me{op:CmpOp}{r:R2}(ho:t7 X (compareOp op) r)(ha:PE X o ta)(hb:PE X b tb)(hm:behindInMarks op b=false):PE X (.Compare o [op] [b] pos) (P0 r ta tb):=by
 intro U s Z H Q I h;exact wpAny_Compare1 (P5 ha hb I h fun v u s2 x y H2 I2 rx ry q=>ho U s2 Z H2 x y v u Q I2 rx ry q) hm
def UH(t:TE):TT:=fun Z H Q=>t Z H fun x H'=>∃k,x=.bl k/\Q k H'
theorem Mf{op:CmpOp}{r:R2}(ho:t7 X (compareOp op) r)(ha:PE X o ta)(hb:PE X b tb)(hm:behindInMarks op b=false):PT X (.Compare o [op] [b] pos) (UH (P0 r ta tb)):=by
 intro U s Z H Q I h;refine wpAny_isTrue_Compare1 (dA (ha U s Z H _ I h) fun v s1 ⟨x,H1,I1,r1,q1⟩=>dA (hb U s1 Z H1 _ I1 q1) fun u s2 ⟨y,H2,I2,r2,q2⟩=>
  dA (ho U s2 Z H2 x y v u _ I2 r1 r2 q2) fun tg s3 ⟨z,H3,I3,r3,k,e,q3⟩=>?_) hm
 subst e;cases r3;exact nV ⟨H3,I3,q3⟩
def Mg(K:Frag)(x:V)(H:Hp)(k:Bool):Prop:=
 match x with
 |.bO=>k=false
 |.bl b=>k=b
 |.int i=>k=(i !=0)
 |.str y=>y.length<=sizeLine/\k=((y.length:Int) !=0)
 |.Ox y=>y.size<=sizeLine/\k=((y.size:Int) !=0)
 |.ref p=>(∃xs,kB K H p xs/\k=!xs.isEmpty)\/(∃xs,g9 K H p xs/\k=!xs.isEmpty)\/∃kvs,Rd H p (.dK kvs)/\k=!kvs.isEmpty
 |_=>False
theorem Dq{κ:Type}{kvs:List (κ×V)}{vs:List (κ×Value)}(r:KV kvs vs):(!vs.isEmpty)=!kvs.isEmpty:=by
 cases r<;>rfl
theorem wo{xs:List V}{bE:List Value}(r:Vals xs bE):(!bE.toArray.isEmpty)=!xs.isEmpty:=by
 cases r<;>simp
theorem wq:(sizeLine:Nat)<2 ^63:=by rw[c_];decide
theorem ID:Y' X (fun x H Q=>∃k,Mg X.K x H k/\Q k H):=by
 intro U s Z H x v Q I rx h;obtain⟨k,e,q⟩:=h;have hl:=wq;have hs:sizeLine=16777216:=c_;cases x with
 |bO=>
  cases rx;have e':k=false:=e;subst e';exact truthy_none ⟨H,I,q⟩
 |bl b=>
  cases rx;have e':k=b:=e;subst e';exact nV ⟨H,I,q⟩
 |int i=>
  obtain⟨t,rfl⟩:=rx;have e':k=(i !=0):=e;subst e';exact PySem.P.truthy_int ⟨H,I,q⟩
 |str y=>
  obtain⟨t,rfl⟩:=rx;obtain⟨hy,e'⟩:y.length<=sizeLine/\k=((y.length:Int) !=0):=e;subst e';exact PySem.P.truthy_str (by omega) ⟨H,I.tok _,q⟩
 |Ox y=>
  obtain⟨t,rfl⟩:=rx;obtain⟨hy,e'⟩:y.size<=sizeLine/\k=((y.size:Int) !=0):=e;subst e';exact PySem.W.truthy_bytes (by omega) ⟨H,I.tok _,q⟩
 |ref p=>
  cases rx;have e':(∃xs,kB X.K H p xs/\k=!xs.isEmpty)\/(∃xs,g9 X.K H p xs/\k=!xs.isEmpty)\/∃kvs,Rd H p (.dK kvs)/\k=!kvs.isEmpty:=e;rcases e' with⟨xs,hx,e'⟩|⟨xs,hx,e'⟩|⟨kvs,hx,e'⟩
  ·subst e';obtain⟨bE,r,pl,hz⟩:=I.list hx;have b9:=r.length;exact wpAny_truthy_list pl.isList (by simp only[cn];omega) ⟨H,I.tok _,by rw[wo r];exact q⟩
  ·subst e';obtain⟨bE,r,pl,hz⟩:=I.tuple hx;have b9:=r.length;exact truthy_tuple pl (by simp only[cn];omega) ⟨H,I.tok _,by rw[wo r];exact q⟩
  ·subst e';obtain⟨hz,hS,vs,r,m⟩:kvs.length<=sizeLine/\(p==sysModules)=false/\∃vs,KV kvs vs/\s.heap.DictOf (bC X.prog X.w) p vs:=hx.ok I.cp;have b9:kvs.length=vs.length:=Paired.length r;exact wpAny_truthy_dict hS m (by omega) ⟨H,I.tok _,by rw[Dq r];exact q⟩
 |_=>exact fe e
theorem Bk(ha:PE X o ta)(he:∀whole,isTrue o X.env whole=(do let v<-whole;standAt o.pos;holding [v] (truthy v))):
  PT X o (fun Z H Q=>ta Z H fun x H'=>∃k,Mg X.K x H' k/\Q k H'):=by
 intro U s Z H Q I h;exact isTrue_plain (dA (ha U s Z H _ I h) fun v s1 ⟨x,H1,I1,r1,q1⟩=>ID U s1 Z H1 x v Q I1 r1 q1) (he _)
theorem Dr:t7 X (binaryOp .Add) (fun x y H Q=>∃i j,x=.str i/\y=.str j/\i.length+j.length<=sizeLine/\Q (.str (i++j)) H):=by
 intro U s Z H x y v u Q I rx ry h;obtain⟨i,j,rfl,rfl,hz,q⟩:=h;obtain⟨t,rfl⟩:=rx;obtain⟨t',rfl⟩:=ry;exact add_str (fun t' tk=>⟨.str (i++j),H,I.tok _,⟨_,rfl⟩,q⟩) hz
theorem vals1{x:V}{us:List Value}(r:Vals [x] us):∃u,us=[u]/\RelV x u:=by
 cases r with
 |cons r1 r2=>cases r2;exact⟨_,rfl,r1⟩
theorem vals2{x y:V}{us:List Value}(r:Vals [x,y] us):∃u w',us=[u,w']/\RelV x u/\RelV y w':=by
 cases r with
 |cons r1 r2=>
  cases r2 with
  |cons r3 r4=>cases r4;exact⟨_,_,rfl,r1,r3⟩
theorem GA(hc:X.calm=true):fG X (.builtin "max") (fun xs H Q=>∃i j,xs=[.int i,.int j]/\Q (.int (if j>i then j else i)) H):=by
 intro U s Z H xs us Q I r h;obtain⟨i,j,rfl,q⟩:=h;obtain⟨u,w',rfl,⟨t,rfl⟩,⟨t',rfl⟩⟩:=vals2 r;refine max_two_ints (I.ok.hd hc) fun h' tk k=>⟨_,H,I.kept k,?_,q⟩;by_cases hj:j>i
 ·rw[au hj,au hj];exact⟨_,rfl⟩
 ·rw[ay hj,ay hj];exact⟨_,rfl⟩
theorem yE:fG X (.type "int") (fun xs H Q=>(∃i,xs=[.int i]/\Q (.int i) H)\/∃k,xs=[.bl k]/\Q (.int (if k then 1 else 0)) H):=by
 intro U s Z H xs us Q I r h;rcases h with⟨i,rfl,q⟩|⟨k,rfl,q⟩
 ·obtain⟨u,rfl,t,rfl⟩:=vals1 r;exact call_int_int ⟨.int i,H,I,⟨_,rfl⟩,q⟩
 ·obtain⟨u,rfl,r1⟩:=vals1 r;cases r1;exact call_int_bool ⟨.int (if k then 1 else 0),H,I.tok _,⟨_,rfl⟩,q⟩
def Zb(K:Frag)(x:V)(H:Hp)(n:Nat):Prop:=
 match x with
 |.str y=>y.length<=sizeLine/\n=y.length
 |.Ox y=>y.size<=sizeLine/\n=y.size
 |.ref p=>(∃xs,kB K H p xs/\n=xs.length)\/∃xs,g9 K H p xs/\n=xs.length
 |_=>False
theorem sf:fG X (.builtin "len") (fun xs H Q=>∃x n,xs=[x]/\Zb X.K x H n/\Q (.int n) H):=by
 intro U s Z H xs us Q I r h;obtain⟨x,n,rfl,e,q⟩:=h;obtain⟨u,rfl,rx⟩:=vals1 r;have hl:=wq;have hs:sizeLine=16777216:=c_;cases x with
 |str y=>
  obtain⟨t,rfl⟩:=rx;obtain⟨hy,e'⟩:y.length<=sizeLine/\n=y.length:=e;subst e';exact len_str (by omega) ⟨.int _,H,I.tok _,⟨_,rfl⟩,q⟩
 |Ox y=>
  obtain⟨t,rfl⟩:=rx;obtain⟨hy,e'⟩:y.size<=sizeLine/\n=y.size:=e;subst e';exact PySem.W.len_bytes (by omega) ⟨.int _,H,I.tok _,⟨_,rfl⟩,q⟩
 |ref p=>
  cases rx;have e':(∃xs,kB X.K H p xs/\n=xs.length)\/∃xs,g9 X.K H p xs/\n=xs.length:=e;rcases e' with⟨xs,hx,e'⟩|⟨xs,hx,e'⟩
  ·subst e';obtain⟨bE,r',pl,hz⟩:=I.list hx;have b9:=r'.length;exact Calls.call_len_list pl.isList (by simp only[cn];omega) ⟨.int xs.length,H,I.tok _,⟨_,by simp only[cn];rw[b9]⟩,q⟩
  ·subst e';obtain⟨bE,r',pl,hz⟩:=I.tuple hx;have b9:=r'.length;exact len_tuple pl (by simp only[cn];omega) ⟨.int xs.length,H,I.tok _,⟨_,by simp only[cn];rw[b9]⟩,q⟩
 |_=>exact fe e
end
structure Ds(h:Heap)(x dx C:Addr)(mA:Str->Option Value):Prop where
 obj:h.get? x=some (PySem.W.instObj C dx)
 ns:h.Ns1 dx mA
 ne:dx≠x
theorem GB{h:Heap}(n:h.Ns1 ae mg):∃od,h.get? ae=some od/\∀name,PySem.W.lookIn name od=some (mg name):=by
 obtain⟨o,es,ep,ho,hd,hk,_,hm⟩:=n;refine⟨o,ho,fun name=>?_⟩;have e:=hm name;unfold nsFind findBy at e;rw[<-Array.find?_toList]at e;unfold PySem.W.lookIn;rw[hd];dsimp only;split
 ·rename_i y q;rw[q]at e;exact cq some e
 ·rename_i q;rw[q]at e;have a:es.toList.any (·.refKey)=false:=by
   rw[List.any_eq_false];intro y hy;obtain⟨z,t,IE⟩:=hk y (Array.mem_toList_iff.mp hy);simp[DictEntry.refKey,IE]
  have a':¬es.toList.any (·.refKey)=true:=by rw[a];exact eR
  rw[ay a'];exact cq some e
theorem Ds.look {h:Heap}{x dx C:Addr}{mA:Str->Option Value}(I:Ds h x dx C mA):∃od,PySem.W.InstAt h x (PySem.W.instObj C dx) C (some od)/\∀name,PySem.W.lookIn name od=some (mA name):=
 let⟨od,ho,hl⟩:=GB I.ns
 ⟨od,⟨I.obj,rfl,rfl,ho⟩,hl⟩
section
variable {dx C f:Addr}{name:Str}
theorem get_map{expr:Bool}(X:K.In s.heap)(I:Ds s.heap ae dx C mg)(hg:PySem.W.plainGet K C name=true)(hh:PySem.W.hasDictIn K C=true)
  (ha:PySem.W.findIn K (.ref C) name=some none) (hv:mg name=some aa) (IF:PySem.W.handedIn aa=true) (h:Q aa {s with toks:=s.toks+1}):
  wpAny (model P w) A (getAttr (.ref ae) name expr) Q E s:=by
 obtain⟨od,J,hl⟩:=I.look;exact PySem.W.get_value X J (nL hg).1 (PySem.W.findObj_own hh ha rfl (by rw[hl,hv])) IF h
theorem IG{pl:Sem Bool}{Q:Value×List Value->Shared->Prop}(X:K.In s.heap)(I:Ds s.heap ae dx C mg)(hg:PySem.W.plainGet K C name=true)
  (hf:PySem.W.findIn K (.ref C) name=some (some (.ref f))) (ht:PySem.W.isFn K (.ref f)=true) (hv:mg name=none) (h:Q (.ref f,[.ref ae]) s):
  wpAny (model P w) A (getMethod (.ref ae) name pl) Q E s:=by
 obtain⟨od,J,hl⟩:=I.look;exact PySem.W.method_fn X J (nL hg).1 (nL hg).2 hf (dZ.mp ht) (by show(PySem.W.lookIn name od).map (·.isSome)=some false;rw[hl,hv];rfl) h
theorem Mh{Q:Unit->Shared->Prop}(X:K.In s.heap)(I:Ds s.heap ae dx C mg)
  (hs:PySem.W.findIn K (.ref C) "__setattr__"=some (some (.builtin "object.__setattr__"))) (hp:PySem.W.plainOver K C=true) (ht:PySem.W.takerIn K C name=some none) (hh:PySem.W.hasDictIn K C=true)
  (hw:PySem.Within mg ps) (hsz:ps.length<=sizeLine)
  (h:∀h',Ds h' ae dx C (fun y=>if y=name then some aa else mg y)->Heap.SameBut dx s.heap h'->Q () {s with heap:=h',toks:=s.toks+2}):
  wpAny (model P w) A (setAttr (.ref ae) name aa) Q E s:=by
 obtain⟨od,J,hl⟩:=I.look;refine PySem.W.set_plain X J hs (PySem.W.osa_open (s:={s with toks:=s.toks+1}) (r:=none) X J hp ht fun b=>?_);obtain⟨cd,hc,L7⟩:=PySem.W.any_some hh;have hx:s.heap.get? ae=some ⟨.ref C,some dx,.plain,#[]⟩:=I.obj;refine ak (aC (ak (ak (wpAny_loadPart hx (ak (PySem.W.Looks.here (s:={s with toks:=s.toks+1}) (PySem.W.looks_clsIn X hc) ?_))))));rw[L7];refine aC (a:=some dx) (ak (aC (ak ?_)));refine wpAny_nsSet1 (s:={s with toks:=s.toks+1}) I.ns fun h' P' UI=>?_
 obtain⟨oD,esD,epD,hoD,hdD,hcD⟩:=P'.count (PySem.Within.cons name aa hw);refine ak (wpAny_lookBehind hoD (by rw[hdD];exact pastItsLine_dict (bP hcD (by rw[cG];omega))) ?_);exact aC (h _ ⟨(UI.2 _ (Ne.symm I.ne)).trans I.obj,P',I.ne⟩ UI)
theorem IH{R:Result->Shared->Prop}{vs:List Value}{kw:List (Str×Value)}(X:K.In s.heap)(hm:PySem.W.makesIn K C=true)
  (hi:PySem.W.findIn K (.ref C) "__init__"=some (some (.ref f))) (hf:PySem.W.typeIn K (.ref f)=some (.type "function"))
  (h:codeAny (model P w) (A.under (.builtin "type.__call__" ⟨.ref C::vs,kw⟩)) (.call (.ref f) ⟨.ref (s.heap.objs.size+1)::vs,kw⟩) (PySem.W.InitBack (s.heap.objs.size+1) R)
   {s with heap:=(s.heap.push PySem.W.emptyDict).push (PySem.W.instObj C s.heap.objs.size)}):
  codeAny (model P w) A (.call (.ref C) ⟨vs,kw⟩) R s:=by
 obtain⟨hh,g,d,t,os⟩:=s;exact PySem.W.make_core (PySem.W.makes_of X hm) (rW X hi) (fun self=>PySem.W.bind_fn X self hf) (.inl rfl) h
end
def lM(f:Str)(v:V):List (Str×V)->List (Str×V)
 |[]=>[(f,v)]
 |(g,x)::r=>if g=f then(g,v)::r else(g,x)::lM f v r
theorem uy(f g:Str)(v:V):∀fs:List (Str×V),(lM f v fs).lookup g=if g=f then some v else fs.lookup g
 |[]=>by
  show List.lookup g [(f,v)]=_;by_cases h:g=f
  ·have hb:(g==f)=true:=dZ.mpr h;simp only[List.lookup,hb,au h]
  ·have hb:(g==f)=false:=iw.mpr h;simp only[List.lookup,hb,ay h]
 |(k,x)::r=>by
  have ih:=uy f g v r;rw[show lM f v ((k,x)::r)=(if k=f then(k,v)::r else(k,x)::lM f v r)from rfl];by_cases hk:k=f
  ·rw[au hk];by_cases h:g=k
   ·have hb:(g==k)=true:=dZ.mpr h;simp only[List.lookup,hb,au (h.trans hk)]
   ·have hb:(g==k)=false:=iw.mpr h;simp only[List.lookup,hb,ay (fun e:g=f=>h (e.trans hk.symm))]
  ·rw[ay hk];by_cases h:g=k
   ·have hb:(g==k)=true:=dZ.mpr h;simp only[List.lookup,hb,ay (fun e:g=f=>hk (h.symm.trans e))]
   ·have hb:(g==k)=false:=iw.mpr h;simp only[List.lookup,hb];exact ih
theorem t9(f:Str)(v:V):∀fs:List (Str×V),f∈(lM f v fs).map (·.1)/\∀g,g∈fs.map (·.1)->g∈(lM f v fs).map (·.1)
 |[]=>⟨by simp[lM],fun g h=>by simp at h⟩
 |(k,x)::r=>by
  obtain⟨i1,i2⟩:=t9 f v r;rw[show lM f v ((k,x)::r)=(if k=f then(k,v)::r else(k,x)::lM f v r)from rfl];by_cases hk:k=f
  ·rw[au hk];subst hk;exact⟨by simp,fun g h=>by simpa using h⟩
  ·rw[ay hk];refine⟨?_,fun g h=>?_⟩
   ·rw[ba];exact bF _ i1
   ·rw[ba]at h⊢;rcases aV.mp h with e|e
    ·exact aV.mpr (.inl e)
    ·exact bF _ (i2 g e)
theorem uz(f:Str)(v:V):∀fs:List (Str×V),(lM f v fs).length<=fs.length+1
 |[]=>by simp[lM]
 |(k,x)::r=>by
  have ih:=uz f v r;rw[show lM f v ((k,x)::r)=(if k=f then(k,v)::r else(k,x)::lM f v r)from rfl];by_cases hk:k=f
  ·rw[au hk,cG,cG];omega
  ·rw[ay hk,cG,cG];omega
theorem kL.some_of {v:V}{o:Option Value}(r:kL (some v) o):∃u,o=some u/\RelV v u:=by
 cases o with
 |none=>exact fe r
 |some u=>exact⟨u,rfl,r⟩
theorem kL.none_of {o:Option Value}(r:kL none o):o=none:=by
 cases o with
 |none=>rfl
 |some u=>exact fe r
theorem GC{v:V}{u:Value}(r:RelV v u):PySem.W.handedIn u=true:=by
 cases v with
 |bO=>cases(show u=Value.none from r);rfl
 |bl b=>cases(show u=Value.bool b from r);rfl
 |int i=>obtain⟨t,e⟩:=(show∃t,u=Value.int i t from r);cases e;rfl
 |str x=>obtain⟨t,e⟩:=(show∃t,u=Value.str x t from r);cases e;rfl
 |Ox b=>obtain⟨t,e⟩:=(show∃t,u=Value.bytes b t from r);cases e;rfl
 |Gp b=>obtain⟨t,e⟩:=(show∃t,u=Value.float b t from r);cases e;rfl
 |ref a=>cases(show u=Value.ref a from r);rfl
 |ty n=>cases(show u=Value.type n from r);rfl
section
variable {H':Hp}{h h':Heap}{dx:Addr}{fs fs':List (Str×V)}
theorem sg(cp:qK P w H h)(e:H a=some (.ins ae dx fs)):∃mA,Ds h a dx ae mA/\(∀f,kL (fs.lookup f) (mA f))/\PySem.Within mA (fs.map (·.1))/\fs.length<=1000/\H dx=some (.own a):=by
 obtain⟨d,z,ne,ob,mA,n,r,q⟩:=(show cu P w H h a (.ins ae dx fs)from cp a _ e);exact⟨mA,⟨ob,n,ne⟩,r,q,z,d⟩
end
structure Dt(K:Frag)(C:Addr):Prop where
 pg:PySem.W.plainGet K C Str.empty=true
 hd:PySem.W.hasDictIn K C=true
 po:PySem.W.plainOver K C=true
 sa:PySem.W.findIn K (.ref C) "__setattr__"=some (some (.builtin "object.__setattr__"))
theorem Dt.get {C:Addr}(c:Dt K C)(f:Str):PySem.W.plainGet K C f=true:=c.pg
def qL(K:Frag)(C:Addr)(f:Str):Prop:=PySem.W.findIn K (.ref C) f=some none
theorem qL.UJ {C:Addr}{f:Str}(n:qL K C f):PySem.W.takerIn K C f=some none:=by
 unfold PySem.W.takerIn;rw[show PySem.W.findIn K (.ref C) f=some none from n]
 rfl
structure Meth(K:Frag)(C:Addr)(m:Str)(f:Addr):Prop where
 at_:PySem.W.findIn K (.ref C) m=some (some (.ref f))
 fn:PySem.W.isFn K (.ref f)=true
 kp:PySem.W.keepIn K (.ref f)=true
section
variable {C:Addr}{fs:List (Str×V)}{f:Str}{v:V}
theorem Du{b:Bool}(I:Inv X U Z H s)(e:H a=some (.ins C ae fs))(c:Dt X.K C)(n:qL X.K C f)(l:fs.lookup f=some v)
  (h:∀u s',Inv X U Z H s'->RelV v u->Q u s'):wpAny (model X.prog X.w) A (getAttr (.ref a) f b) Q E s:=by
 obtain⟨mA,O,r,_,_,_⟩:=sg I.cp e;obtain⟨u,hu,ru⟩:=kL.some_of (v:=v) (o:=mA f) (by rw[<-l];exact r f);exact get_map I.kM O (c.get f) c.hd n hu (GC ru) (h u _ (I.tok _) ru)
theorem wt{g:Addr}{pl:Sem Bool}{Q:Value×List Value->Shared->Prop}(I:Inv X U Z H s)(e:H a=some (.ins C ae fs))(c:Dt X.K C)(k:Meth X.K C x g)(l:fs.lookup x=none)
  (h:Q (.ref g,[.ref a]) s):wpAny (model X.prog X.w) A (getMethod (.ref a) x pl) Q E s:=by
 obtain⟨mA,O,r,_,_,_⟩:=sg I.cp e;have hn:mA x=none:=kL.none_of (by rw[<-l];exact r x);exact IG I.kM O (c.get x) k.at_ k.fn hn h
theorem Dv{y:V}{Q:Unit->Shared->Prop}(I:Inv X U Z H s)(e:H a=some (.ins C ae fs))(c:Dt X.K C)(n:qL X.K C f)(hl:fs.length<1000)(ry:RelV y aa)
  (h:∀s',Inv X U Z (upd H a (.ins C ae (lM f y fs))) s'->Q () s'):wpAny (model X.prog X.w) A (setAttr (.ref a) f aa) Q E s:=by
 obtain⟨mA,O,r,wi,_,ho⟩:=sg I.cp e;have hz:(fs.map (·.1)).length<=sizeLine:=by rw[aK,c_];omega
 refine Mh I.kM O c.sa c.po n.UJ c.hd wi hz fun h' O' sb=>h _ ?_
 have hd:∃o,h'.get? ae=some o:=let⟨o,_,_,e',_⟩:=O'.ns;⟨o,e'⟩
 refine I.write (x:=a) (e:=ae) (by rw[e];exact True.intro) (.inr ho) (fun b q hb z=>(sb.2 b hb).trans z) hd ?_
 refine⟨by rw[aF O.ne];exact ho,?_,O.ne,O'.obj,_,O'.ns,fun g=>?_,fun g hg=>?_⟩
 ·have:=uz f y fs;omega
 ·show kL ((lM f y fs).lookup g) (if g=f then some aa else mA g);rw[uy];by_cases q:g=f
  ·rw[au q,au q];exact ry
  ·rw[ay q,ay q];exact r g
 ·by_cases q:g=f
  ·rw[q];exact(t9 f y fs).1
  ·refine(t9 f y fs).2 g (wi g fun z=>hg ?_);show(if g=f then some aa else mA g)=none;rw[ay q];exact z
theorem Inv.made (I:Inv X U Z H s):Inv X U Z (upd (upd H s.heap.objs.size (.own (s.heap.objs.size+1))) (s.heap.objs.size+1) (.ins C s.heap.objs.size []))
  {s with heap:=(s.heap.push PySem.W.emptyDict).push (PySem.W.instObj C s.heap.objs.size)}:=by
 have e1:(s.heap.push PySem.W.emptyDict).get? s.heap.objs.size=some PySem.W.emptyDict:=bG s.heap rfl;have e2:((s.heap.push PySem.W.emptyDict).push (PySem.W.instObj C s.heap.objs.size)).get? (s.heap.objs.size+1)=some (PySem.W.instObj C s.heap.objs.size):=by
  have:=bG (s.heap.push PySem.W.emptyDict) (o:=PySem.W.instObj C s.heap.objs.size) rfl;rwa[iK]at this
 have e3:(s.heap.push PySem.W.emptyDict).Ns s.heap.objs.size (fun _=>none):=⟨PySem.W.emptyDict,#[],_,e1,rfl,(fun e he=>absurd he (by simp)),fun _=>rfl⟩;have I1:=I.laid (a:=s.heap.objs.size) (o:=.own (s.heap.objs.size+1)) (h':=s.heap.push PySem.W.emptyDict) (t':=s.toks) (fun b u q=>bh _ q) (aQ _) ⟨_,e1⟩;refine I1.laid (a:=s.heap.objs.size+1) (o:=.ins C s.heap.objs.size []) (t':=s.toks) (fun b u q=>bh _ q) (Nat.le_of_eq (iK _ _)) ?_
 have ne:s.heap.objs.size≠s.heap.objs.size+1:=bu (nR _);refine⟨by rw[aF ne,a_],dF _,ne,e2,fun _=>none,(Heap.Ns1.of_empty e3).at fun o q=>bh _ q,fun _=>True.intro,fun y hy=>absurd rfl hy⟩
theorem ES{env:Env}(hb:attributeBase e f env (eval e env)=eval e env)
  (h:wpAny (model P w) A (eval e env) (fun o cC=>wpAny (model P w) A (getAttr o f true) Q E cC) E s):wpAny (model P w) A (eval (.Attribute e f pos) env) Q E s:=
 Attribute_any_ h (by rw[arm_eval_Attribute,hb])
end
def Zc(K:Frag)(ta:TE)(f:Str):TE:=fun Z H Q=>ta Z H fun x H1=>∃a C dx fs v,x=.ref a/\H1 a=some (.ins C dx fs)/\Dt K C/\qL K C f/\fs.lookup f=some v/\Q v H1
def Zd(K:Frag)(ta tv:TE)(f:Str):TS:=fun D Z H=>tv Z H fun y H1=>ta Z H1 fun x H2=>∃a C dx fs,x=.ref a/\H2 a=some (.ins C dx fs)/\Dt K C/\qL K C f/\fs.length<1000/\
 D.nx Z (upd H2 a (.ins C dx (lM f y fs)))
section
variable {f:Str}{ta tv:TE}
theorem II(he:PE X e ta)(hb:attributeBase e f X.env (eval e X.env)=eval e X.env):PE X (.Attribute e f pos) (Zc X.K ta f):=by
 intro U s Z H Q I h;refine ES hb (dA (he U s Z H _ I h) fun u s1 ⟨x,H1,I1,rx,a,C,dx,fs,v,ex,ea,c,n,l,q⟩=>?_);subst ex;obtain rfl:u=Value.ref a:=rx;exact Du I1 ea c n l fun u' s2 I2 ru=>⟨v,H1,I2,ru,q⟩
theorem Qa(ha:PE X o ta)(hv:PE X tg tv)(hs:swapsWith tg (some (.Attribute o f p)) pos.line X.env=pure false):PS X (.Assign [.Attribute o f p] tg pos) (Zd X.K ta tv f):=by
 intro U s Z H D I h;refine plainObj_wpAny_Assign_Attribute (dA (hv U s Z H _ I h) fun u s1 ⟨y,H1,I1,ry,q⟩=>dA (ha U s1 Z H1 _ I1 q) fun ov s2 ⟨x,H2,I2,rx,a,C,dx,fs,ex,ea,c,n,l,q2⟩=>?_) hs;subst ex;obtain rfl:ov=Value.ref a:=rx;exact Dv I2 ea c n l ry fun s3 I3=>⟨Z,_,I3,q2⟩
end
section
variable {b:Bool}
inductive sj(K:Frag)(H:Hp):V->Value->Prop where
 |bO:sj K H .bO (.type "NoneType")
 |bl (x:Bool):sj K H (.bl x) (.type "bool")
 |int (i:Int):sj K H (.int i) (.type "int")
 |str (x:Str):sj K H (.str x) (.type "str")
 |Gp (x:UInt64):sj K H (.Gp x) (.type "float")
 |lst {a:Addr} {xs:List V} (e:H a=some (.lst xs)):sj K H (.ref a) (.type "list")
 |kg {a:Addr} {o:Obj} {xs:List V} (e:H a=some (.kg o (.lst xs))):sj K H (.ref a) (.type "list")
 |tup {a:Addr} {xs:List V} (e:H a=some (.tup xs)):sj K H (.ref a) (.type "tuple")
 |dK {a:Addr} {kvs:List (Key×V)} (e:H a=some (.dK kvs)):sj K H (.ref a) (.type "dict")
 |dT {a:Addr} {kvs:List (List Key×V)} (e:H a=some (.dT kvs)):sj K H (.ref a) (.type "dict")
 |ins {a C dx:Addr} {fs:List (Str×V)} (e:H a=some (.ins C dx fs)) (cl:Dt K C) (ha:PySem.W.findIn K (.ref C) "__class__"=some (some (.builtin "object.__class__")))
   (hn:PySem.W.specialIn K (.builtin "object.__class__") "__get__"=some (some (.builtin "getset_descriptor.__get__"))) (htk:PySem.W.takesIn K (.builtin "object.__class__")=some true)
   (hm:PySem.W.mroIn K C (.type "object")=some true):sj K H (.ref a) (.ref C)
theorem lN{x:V}{u t:Value}(I:Inv X U Z H s)(rx:RelV x u)(ty:sj X.K H x t)(e:PySem.W.kitOne X.K t aa=some b)(h:∀tk,Q (.bool b) {s with toks:=tk}):
  wpAny (model X.prog X.w) A (call (.builtin "isinstance") [u,aa]) Q E s:=by
 cases ty with
 |bO=>cases(show u=Value.none from rx);exact dX PySem.W.kitx_none I.kM True.intro e (fun z=>nomatch z) h
 |bl y=>cases(show u=Value.bool y from rx);exact dX PySem.W.kitx_bool I.kM True.intro e (fun z=>nomatch z) h
 |int i=>obtain⟨t,q⟩:=(show∃t,u=Value.int i t from rx);cases q;exact dX PySem.W.kitx_int I.kM True.intro e (fun z=>nomatch z) h
 |str y=>obtain⟨t,q⟩:=(show∃t,u=Value.str y t from rx);cases q;exact dX PySem.W.kitx_str I.kM True.intro e (fun z=>nomatch z) h
 |Gp y=>obtain⟨t,q⟩:=(show∃t,u=Value.float y t from rx);cases q;exact dX PySem.W.kitx_float I.kM True.intro e (fun z=>nomatch z) h
 |@lst a xs ea=>
  cases(show u=Value.ref a from rx);obtain⟨_,_,n,_,h1⟩:=(show cu X.prog X.w H s.heap a (.lst xs)from I.cp a _ ea);exact dX vS I.kM ⟨_,h1,rfl⟩ e (fun z=>nomatch z) h
 |@kg a ob xs ea=>
  cases(show u=Value.ref a from rx);obtain⟨_,_,_,n,_,h1⟩:=(show cu X.prog X.w H s.heap a (.kg ob (.lst xs))from I.cp a _ ea);exact dX vS I.kM ⟨_,h1,rfl⟩ e (fun z=>nomatch z) h
 |@tup a xs ea=>
  cases(show u=Value.ref a from rx);obtain⟨_,_,_,p⟩:=(show cu X.prog X.w H s.heap a (.tup xs)from I.cp a _ ea);obtain⟨o,h1,h2,_⟩:=p;exact dX PySem.W.kitx_tuple I.kM ⟨o,h1,h2⟩ e (fun z=>nomatch z) h
 |@dK a kvs ea=>
  cases(show u=Value.ref a from rx);obtain⟨_,_,vs,_,p⟩:=(show cu X.prog X.w H s.heap a (.dK kvs)from I.cp a _ ea);obtain⟨o,es,ep,h1,h2,_⟩:=p;exact dX rE I.kM ⟨o,h1,h2.1⟩ e (fun z=>nomatch z) h
 |@dT a kvs ea=>
  cases(show u=Value.ref a from rx);obtain⟨_,_,xs,_,o,es,ep,h1,h2,_⟩:=(show cu X.prog X.w H s.heap a (.dT kvs)from I.cp a _ ea);exact dX rE I.kM ⟨o,h1,h2.1⟩ e (fun z=>nomatch z) h
 |@ins a C dx fs ea cl ha hn htk hm=>
  cases(show u=Value.ref a from rx);obtain⟨mA,O,_⟩:=sg I.cp ea;obtain⟨od,J,_⟩:=O.look;exact dX (PySem.W.kitx_own (cl.get _) cl.hd ha hn htk hm) I.kM J e (fun z=>nomatch z) h
end
structure cz(k:Nat)(A:Around):Prop where
 hd:A.handled=none
 dp:A.depth+3*k+5<recursionLimit
 un:A.units+16*k+200<cLine
theorem cz.mono {j k:Nat}(r:cz k A)(h:j<=k):cz j A:=⟨r.hd,by have:=r.dp;omega,by have:=r.un;omega⟩
theorem cz.deeper {k:Nat}(r:cz (k+1) A)(env:Env):cz k (A.deeper env):=
 ⟨r.hd,by have:=r.dp;show A.depth+1+3*k+5<_;omega,by have:=r.un;show A.units+3+16*k+200<_;omega⟩
theorem cz.in1 {k:Nat}(r:cz (k+1) A):cz k A.in1:=
 ⟨r.hd,by have:=r.dp;show A.depth+3*k+5<_;omega,by have:=r.un;show A.units+1+16*k+200<_;omega⟩
theorem Dw{us:List Value}{kw:List (Str×Value)}:(A.under (.builtin "type.__call__" ⟨.ref a::us,kw⟩)).depth=A.depth+1:=by
 first|rfl|simp[Around.under,Code.weight,Code.isCreation,Code.isGuard,Code.isCaller,Code.frames,Code.isFrame,guardIds]
theorem Dx{us:List Value}{kw:List (Str×Value)}:(A.under (.builtin "type.__call__" ⟨.ref a::us,kw⟩)).units=A.units+1:=by
 first|rfl|simp[Around.under,Code.cUnits,Code.frames,Code.isFrame]
theorem cz.make {k:Nat}(r:cz (k+1) A)(C:Addr)(us:List Value)(kw:List (Str×Value)):cz k (A.under (.builtin "type.__call__" ⟨.ref C::us,kw⟩)):=
 ⟨r.hd,by have:=r.dp;rw[Dw];omega,by have:=r.un;rw[Dx];omega⟩
theorem cz.depth {k:Nat}(r:cz k A):A.depth<recursionLimit:=by have:=r.dp;omega
theorem cz.units {k:Nat}(r:cz k A):A.units+64<cLine:=by have:=r.un;omega
def Qb:TA:=fun _ H Q=>Q [] H
def UK(ta:TE)(tr:TA):TA:=fun Z H Q=>ta Z H fun x H1=>tr Z H1 fun xs H2=>Q (x::xs) H2
section
variable {te:TE}{t:TA}
theorem qM:PA X [] Qb:=fun _ _ _ _ H Q I h=>nW ⟨[],H,I,.nil,h⟩
theorem kC(ha:PE X e te)(hr:PA X es t)(hs:starEach (e::es) X.env=(false,eval e X.env)::starEach es X.env:=by rfl):PA X (e::es) (UK te t):=by
 intro pos U s Z H Q I h;rw[hs];show wpAny _ _ (spliced ((false,eval e X.env)::backTo pos (starEach es X.env))) _ _ s;refine jK (dA (ha U s Z H _ I h) fun u s1 ⟨x,H1,I1,r1,q1⟩=>?_);exact dA (hr pos U s1 Z H1 _ I1 q1) fun us s2 ⟨xs,H2,I2,r2,q2⟩=>⟨x::xs,H2,I2,.cons r1 r2,q2⟩
def Ze(t:TA):TE:=fun Z H Q=>t Z H fun xs H1=>xs.length<=sizeLine/\∀p,H1 p=none->Q (.ref p) (upd H1 p (.tup xs))
def Zf(t:TA):TE:=fun Z H Q=>t Z H fun xs H1=>xs.length<=sizeLine/\∀p,H1 p=none->Q (.ref p) (upd H1 p (.lst xs))
theorem Qc{x1}(h:PA X es t):PE X (.Tuple es x1 pos) (Ze t):=by
 intro U s Z H Q I hq;refine wpAny_Tuple_spliced (dA (h pos U s Z H _ I hq) fun us s1 ⟨xs,H1,I1,r,z,q⟩=>⟨by rw[<-r.length];exact z,?_⟩);have hf:H1 s1.heap.objs.size=none:=I1.cp.fresh (aQ _);refine⟨.ref s1.heap.objs.size,upd H1 s1.heap.objs.size (.tup xs),I1.laid (t':=s1.toks) (fun b u e=>bh _ e) (aQ _) ?_,rfl,q _ hf⟩;exact⟨z,us,r,⟨_,bG _ rfl,rfl,_,rfl⟩⟩
theorem IJ(h:PA X es t):PE X (.List es pos) (Zf t):=by
 intro U s Z H Q I hq;refine wpAny_List_spliced (dA (h pos U s Z H _ I hq) fun us s1 ⟨xs,H1,I1,r,z,q⟩=>⟨by rw[<-r.length];exact z,?_⟩);have hf:H1 s1.heap.objs.size=none:=I1.cp.fresh (aQ _);refine⟨.ref s1.heap.objs.size,upd H1 s1.heap.objs.size (.lst xs),I1.laid (t':=s1.toks) (fun b u e=>bh _ e) (aQ _) ?_,rfl,q _ hf⟩;exact⟨z,us,0,r,bG _ rfl⟩
end
abbrev Sp:=List V->Hp->VK->XK->Prop
abbrev Bl:=List Env->Hp->Shared->XK->Value->Shared->Prop
structure yk(P:Program)(w:World)(K:Frag)(mg:Str->Option Value)(base:Heap)(A:Around)(outer:List Env)(s:Shared)(H:Hp):Prop where
 frames:A.frames=some outer
 mod:Mod K mg base
 bs:∀b o,base.get? b=some o->s.heap.get? b=some o/\H b=none
 Gr:base.objs.size<=s.heap.objs.size
 p5:s.heap.FunFrames base outer
 Ij:∀b∈je outer,H b=none
 cp:qK P w H s.heap
 bare:AllBare s.gens
def CE(outer:List Env)(P:Program)(w:World)(H:Hp)(s:Shared)(Q:VK)(u:Value)(s':Shared):Prop:=
 ∃v H',s'.os=s.os/\AllBare s'.gens/\Un (je outer) [] H H' s.heap s'.heap/\qK P w H' s'.heap/\RelV v u/\Q v H'
def CR(CX:Bl)(outer:List Env)(P:Program)(w:World)(H:Hp)(s:Shared)(Q:VK)(E:XK)(r:Result)(s':Shared):Prop:=
 match r with
 |.ok (.ret u)=>CE outer P w H s Q u s'
 |.ok _=>False
 |.error e=>CX outer H s E e s'
structure dw(P:Program)(w:World)(K:Frag)(mg:Str->Option Value)(base:Heap)(CX:Bl)(k:Nat)(f:Addr)(fd:FuncData)(ps:List Str)(sp:Sp):Prop where
 len:∀vs H Q E,sp vs H Q E->vs.length=ps.length
 run:∀(A:Around) (outer:List Env) (s:Shared) (H:Hp) (args:Args) (us:List Value) (vs:List V) (Q:VK) (E:XK),cz k A->yk P w K mg base A outer s H->BindsTo s fd args (ps.zip us)->Vals vs us->sp vs H Q E->
  codeAny (model P w) A (.call (.ref f) args) (CR CX outer P w H s Q E) s
theorem dw.mono {base:Heap}{CX:Bl}{j k:Nat}{f:Addr}{fd:FuncData}{sp:Sp}(F:dw P w K mg base CX j f fd ps sp)(h:j<=k):
  dw P w K mg base CX k f fd ps sp:=⟨F.len,fun A outer s H args us vs Q E hr=>F.run A outer s H args us vs Q E (hr.mono h)⟩
theorem yk.make {base:Heap}{outer:List Env}(e:yk P w K mg base A outer s H)(C:Addr)(us:List Value)(kw:List (Str×Value)):
  yk P w K mg base (A.under (.builtin "type.__call__" ⟨.ref C::us,kw⟩)) outer s H:=⟨by first|exact e.frames|(simpa[Around.under,Code.envs,Code.isFrame,pushEnvs]using e.frames),e.mod,e.bs,e.Gr,e.p5,e.Ij,e.cp,e.bare⟩
theorem yk.in1 {base:Heap}{outer:List Env}(e:yk P w K mg base A outer s H):
  yk P w K mg base A.in1 outer s H:=⟨e.frames,e.mod,e.bs,e.Gr,e.p5,e.Ij,e.cp,e.bare⟩
section
variable {s':Shared}
theorem Inv.Qd (I:Inv X U Z H s):yk X.prog X.w X.K X.mg X.base X.A X.stack s H:=
 ⟨I.ok.frames,I.ok.mod,I.bs,bP I.ok.Gr I.sz,I.stack,I.vh,I.cp,I.bare⟩
theorem Inv.after {Q:VK}{u:Value}(I:Inv X U Z H s)(h:CE X.stack X.prog X.w H s Q u s'):EP X U Z Q u s':=by
 obtain⟨v,H',os,bare,un,cp,r,q⟩:=h;obtain⟨hh,g,d,t,os'⟩:=s';obtain rfl:os'=s.os:=os;exact⟨v,H',I.call (h':=hh) (g':=g) (d':=d) (t':=t) (ch:=[]) un cp bare (fun b z=>absurd z (by simp)),r,q⟩
end
def OG(sp:Sp)(wu:List V)(E:XK)(t:TA):TE:=fun Z H Q=>t Z H fun vs H1=>sp (vs++wu) H1 Q E
def OH(C:Addr)(m:Str)(sp:Sp)(wu:List V)(E:XK)(ta:TE)(t:TA):TE:=fun Z H Q=>ta Z H fun x H1=>∃a dx fs,x=.ref a/\H1 a=some (.ins C dx fs)/\fs.lookup m=none/\
 t Z H1 fun vs H2=>sp (x::(vs++wu)) H2 Q E
def OI(C:Addr)(sp:Sp)(wu:List V)(E:XK)(t:TA):TE:=fun Z H Q=>t Z H fun vs H1=>∀x dx,H1 x=none->H1 dx=none->dx≠x->
 sp (.ref x::(vs++wu)) (upd (upd H1 dx (.own x)) x (.ins C dx [])) (fun v H2=>v=.bO/\Q (.ref x) H2) E
def Binds(K:Frag)(fd:FuncData)(ps:List Str)(ds:List Value):Prop:=
 ∀(s:Shared) (us:List Value),K.In s.heap->(us++ds).length=ps.length->BindsTo s fd ⟨us,[]⟩ (ps.zip (us++ds))
theorem Binds.all {fd:FuncData}(h:∀us:List Value,us.length=ps.length->bindArgs fd ⟨us,[]⟩=pure (ps.zip us)):Binds K fd ps []:=fun s us _ hl=>by
 rw[jm]at hl⊢;exact .of_eq (h us hl)
def Passes(CX:Bl)(X:Cx)(E:XK):Prop:=∀(U:List (Addr×Obj)) (Z:St) (H:Hp) (s:Shared) (e:Value) (s':Shared),Inv X U Z H s->CX X.stack H s E e s'->X.xe e s'
section
variable {CX:Bl}{k:Nat}{f C:Addr}{fd:FuncData}{sp:Sp}{wu:List V}{ds:List Value}{E:XK}{m:Str}{ta:TE}{t:TA}
theorem Dy{Q:VK}{us:List Value}{vs:List V}(F:dw X.prog X.w X.K X.mg X.base CX k f fd ps sp)(hr:cz k X.A)(hb:Binds X.K fd ps ds)(hd:Vals wu ds)(hx:Passes CX X E)
  (I:Inv X U Z H s) (r:Vals vs us) (h:sp (vs++wu) H Q E):wpAny (model X.prog X.w) X.A (call (.ref f) us) (EP X U Z Q) X.xe s:=by
 have r2:Vals (vs++wu) (us++ds):=r.append hd;have hl:(us++ds).length=ps.length:=by rw[<-r2.length];exact F.len _ _ _ _ h
 refine oo (gH (F.run X.A X.stack s H ⟨us,[]⟩ (us++ds) (vs++wu) Q E hr I.Qd (hb s us I.kM hl) r2 h) fun r s' hq=>?_);cases r with
 |error e=>exact hx U Z H s e s' I hq
 |ok fl=>
  cases fl with
  |ret u=>exact I.after hq
  |_=>exact False.elim hq
theorem ET(F:dw X.prog X.w X.K X.mg X.base CX k f fd ps sp)(hr:cz k X.A)(hg:Gl X x)(hm:X.mg x=some (.ref f))(hk:PySem.W.keepIn X.K (.ref f)=true)(hb:Binds X.K fd ps ds)(hd:Vals wu ds)(hx:Passes CX X E)
  (ha:PA X (e::es) t) (eM:Db x:=by decide) (he:starEach (e::es) X.env=(false,eval e X.env)::starEach es X.env:=by rfl) (ny:(backTo pos (starEach es X.env)).any (·.1)=false:=by rfl):
  PE X (.Call (.Name x p) (e::es) [] pos) (OG sp wu E t):=by
 intro U s Z H Q I h;refine lA (pE I hg hm ?_ eM);refine vO (h₀:=X.base) I.ok.mod.Oz hk (dA (ha pos U s Z H _ I h) fun us s1 ⟨vs,H1,I1,r,q⟩=>⟨I1.kM,?_⟩) he ny;exact Dy F hr hb hd hx I1 r q
theorem EU{pl:Sem Bool}(he:PE X o ta)(c:Dt X.K C)(hm:Meth X.K C m f)(F:dw X.prog X.w X.K X.mg X.base CX k f fd ps sp)(hr:cz k X.A)(hb:Binds X.K fd ps ds)(hd:Vals wu ds)(hx:Passes CX X E)(ha:PA X (e::es) t)
  (bQ:starEach (e::es) X.env=(false,eval e X.env)::starEach es X.env:=by rfl) (ny:(backTo pos (starEach es X.env)).any (·.1)=false:=by rfl)
  (ht:eval (.Call (.Attribute o m b8) (e::es) [] pos) X.env=r6 pos b8 o m (e::es) X.env pl:=by rfl):
  PE X (.Call (.Attribute o m b8) (e::es) [] pos) (OH C m sp wu E ta t):=by
 intro U s Z H Q I h;refine PySem.W.methodCall_KW (pl:=pl) (dA (he U s Z H _ I h) fun u s1 ⟨x,H1,I1,rx,a,dx,fs,ex,ea,l,q⟩=>?_) ht;subst ex;obtain rfl:u=Value.ref a:=rx;refine wt I1 ea c hm l ?_
 refine vO (first:=[.ref a]) (h₀:=X.base) I.ok.mod.Oz hm.kp (dA (ha pos U s1 Z H1 _ I1 q) fun us s2 ⟨vs,H2,I2,r,q2⟩=>⟨I2.kM,?_⟩) bQ ny;exact Dy (us:=.ref a::us) (vs:=.ref a::vs) F hr hb hd hx I2 (.cons rfl r) q2
theorem Bm{pl:Sem Bool}(he:PE X o ta)(c:Dt X.K C)(hm:Meth X.K C m f)(F:dw X.prog X.w X.K X.mg X.base CX k f fd ps sp)(hr:cz k X.A)(hb:Binds X.K fd ps ds)(hd:Vals wu ds)(hx:Passes CX X E)
  (ht:eval (.Call (.Attribute o m b8) [] [] pos) X.env=r6 pos b8 o m [] X.env pl:=by rfl):
  PE X (.Call (.Attribute o m b8) [] [] pos) (OH C m sp wu E ta Qb):=by
 intro U s Z H Q I h;refine PySem.W.methodCall_KW (pl:=pl) (dA (he U s Z H _ I h) fun u s1 ⟨x,H1,I1,rx,a,dx,fs,ex,ea,l,q⟩=>?_) ht;subst ex;obtain rfl:u=Value.ref a:=rx;refine wt I1 ea c hm l ?_
 exact PySem.W.callWith_K0 (first:=[.ref a]) I1.kM hm.kp (Dy (us:=[.ref a]) (vs:=[.ref a]) F hr hb hd hx I1 (.cons rfl .nil) q)
structure Mk(K:Frag)(C f:Addr):Prop where
 makes:PySem.W.makesIn K C=true
 init:PySem.W.findIn K (.ref C) "__init__"=some (some (.ref f))
 fn:PySem.W.isFn K (.ref f)=true
 kp:PySem.W.keepIn K (.ref C)=true
theorem Bo{Q:VK}{us:List Value}{vs:List V}(M:Mk X.K C f)(F:dw X.prog X.w X.K X.mg X.base CX k f fd ps sp)(hr:cz (k+1) X.A)(hb:Binds X.K fd ps ds)(hd:Vals wu ds)
  (hx:Passes CX X E) (I:Inv X U Z H s) (r:Vals vs us)
  (h:∀x dx,H x=none->H dx=none->dx≠x->sp (.ref x::(vs++wu)) (upd (upd H dx (.own x)) x (.ins C dx [])) (fun v H2=>v=.bO/\Q (.ref x) H2) E):
  wpAny (model X.prog X.w) X.A (call (.ref C) us) (EP X U Z Q) X.xe s:=by
 have hq:=h (s.heap.objs.size+1) s.heap.objs.size (I.cp.fresh (oj _)) (I.cp.fresh (aQ _)) (bu (nR _));have I2:=Inv.made (C:=C) I;have r2:Vals (V.ref (s.heap.objs.size+1)::(vs++wu)) (Value.ref (s.heap.objs.size+1)::(us++ds)):=.cons rfl (r.append hd);have hl:(Value.ref (s.heap.objs.size+1)::us++ds).length=ps.length:=by
  have e:=r2.length;rw[F.len _ _ _ _ hq]at e;exact e.symm
 refine oo (IH (f:=f) I.kM M.makes M.init (dZ.mp M.fn) (gH (F.run _ X.stack _ _ ⟨Value.ref (s.heap.objs.size+1)::us,[]⟩ (Value.ref (s.heap.objs.size+1)::(us++ds)) _ _ E (hr.make C us [])
  (I2.Qd.make C us []) (hb _ (Value.ref (s.heap.objs.size+1)::us) I2.kM hl) r2 hq) fun r s' UL=>?_))
 cases r with
 |error e=>exact hx U Z _ _ e s' I2 UL
 |ok fl=>
  cases fl with
  |ret u=>
   obtain⟨v,H',I3,rv,ev,q3⟩:=I2.after UL;subst ev;exact⟨rv,⟨V.ref (s.heap.objs.size+1),H',I3,rfl,q3⟩⟩
  |_=>exact False.elim UL
theorem Mi(M:Mk X.K C f)(F:dw X.prog X.w X.K X.mg X.base CX k f fd ps sp)(hr:cz (k+1) X.A)(hg:Gl X x)(hm:X.mg x=some (.ref C))(hb:Binds X.K fd ps ds)(hd:Vals wu ds)(hx:Passes CX X E)
  (ha:PA X (e::es) t) (eM:Db x:=by decide) (he:starEach (e::es) X.env=(false,eval e X.env)::starEach es X.env:=by rfl) (ny:(backTo pos (starEach es X.env)).any (·.1)=false:=by rfl):
  PE X (.Call (.Name x p) (e::es) [] pos) (OI C sp wu E t):=by
 intro U s Z H Q I h;refine lA (pE I hg hm ?_ eM);refine vO (h₀:=X.base) I.ok.mod.Oz M.kp (dA (ha pos U s Z H _ I h) fun us s1 ⟨vs,H1,I1,r,q⟩=>⟨I1.kM,?_⟩) he ny;exact Bo M F hr hb hd hx I1 r q
theorem IK(M:Mk X.K C f)(F:dw X.prog X.w X.K X.mg X.base CX k f fd ps sp)(hr:cz (k+1) X.A)(hg:Gl X x)(hm:X.mg x=some (.ref C))(hb:Binds X.K fd ps ds)(hd:Vals wu ds)(hx:Passes CX X E)
  (eM:Db x:=by decide):PE X (.Call (.Name x p) [] [] pos) (OI C sp wu E Qb):=by
 intro U s Z H Q I h;refine lA (pE I hg hm ?_ eM);exact PySem.W.callWith_K0 I.kM M.kp (Bo (us:=[]) M F hr hb hd hx I .nil h)
end
structure gc(N P:List Str)(sc:Scope):Prop where
 kind:sc.kind=.function
 co:sc.isCoroutine=false
 gen:sc.isGenerator=false
 nd:N.Nodup
 pre:N.take P.length=P
 par:∀x∈P,sc.names.lookup x=some .local\/sc.names.lookup x=some .cell
 Qe:∀y∈sc.names,y.2≠ .free
theorem yF{kindOf:Str->Option NameKind}:∀{binds:List (Str×Value)} {m:Str->Option Value},(∀v,(x,v)∉binds)->bindL kindOf binds m x=m x
 |[],_,_=>rfl
 |(n,v)::r,m,h=>by
  unfold bindL;rw[yF fun w hw=>h w (bF _ hw)];split
  ·have:x≠n:=by rintro rfl;exact h v bM
   simp[this]
  ·rfl
theorem yG{kindOf:Str->Option NameKind}:∀{binds:List (Str×Value)} {m:Str->Option Value},(∀v,(x,v)∉binds)->bindC kindOf binds m x=m x
 |[],_,_=>rfl
 |(n,v)::r,m,h=>by
  unfold bindC;rw[yG fun w hw=>h w (bF _ hw)];split
  ·rfl
  ·have:x≠n:=by rintro rfl;exact h v bM
   simp[this]
theorem yH{kindOf:Str->Option NameKind}{v:Value}:∀{P:List Str} {vs:List Value} {i:Nat} {m:Str->Option Value},P.Nodup->P[i]?=some x->vs[i]?=some v->kindOf x=some .local->
  bindL kindOf (P.zip vs) m x=some v
 |[],_,_,_,_,h,_,_=>by simp at h
 |_::_,[],_,_,_,_,h,_=>by simp at h
 |p::P,w::vs,0,m,nd,h1,h2,hk=>by
  simp at h1 h2;subst h1;subst h2;show bindL kindOf ((p,w)::P.zip vs) m p=_;unfold bindL;rw[yF fun v hv=>(f9.mp nd).1 (rL hv).1,au hk];simp
 |p::P,w::vs,i+1,m,nd,h1,h2,hk=>by
  show bindL kindOf ((p,w)::P.zip vs) m x=_;unfold bindL;exact yH (i:=i) (f9.mp nd).2 (by simpa using h1) (by simpa using h2) hk
theorem yI{kindOf:Str->Option NameKind}{v:Value}:∀{P:List Str} {vs:List Value} {i:Nat} {m:Str->Option Value},P.Nodup->P[i]?=some x->vs[i]?=some v->kindOf x≠some .local->
  bindC kindOf (P.zip vs) m x=some v
 |[],_,_,_,_,h,_,_=>by simp at h
 |_::_,[],_,_,_,_,h,_=>by simp at h
 |p::P,w::vs,0,m,nd,h1,h2,hk=>by
  simp at h1 h2;subst h1;subst h2;show bindC kindOf ((p,w)::P.zip vs) m p=_;unfold bindC;rw[yG fun v hv=>(f9.mp nd).1 (rL hv).1,ay hk];simp
 |p::P,w::vs,i+1,m,nd,h1,h2,hk=>by
  show bindC kindOf ((p,w)::P.zip vs) m x=_;unfold bindC;exact yI (i:=i) (f9.mp nd).2 (by simpa using h1) (by simpa using h2) hk
def start(N:List Str)(vs:List V):St:=vs.map some++List.replicate (N.length - vs.length) none
def nz(CX:Bl)(P:Program)(w:World)(K:Frag)(mg:Str->Option Value)(base:Heap)(N:List Str)(qual:Str)(scope:Scope)(f:Addr)(cd:Value)(A:Around)(outer:List Env)(s:Shared)(H:Hp)(E:XK):Cx where
 prog:=P
 w:=w
 K:=K
 mg:=mg
 base:=base
 A:=A.deeper (envOfC qual scope s.heap.objs.size f cd)
 N:=N
 fq:=s
 Bh:=H
 env:=envOfC qual scope s.heap.objs.size f cd
 outer:=outer
 stack:=envOfC qual scope s.heap.objs.size f cd::outer
 ex:=[]
 calm:=true
 fn:=fun _=>true
 pn:=[]
 xe:=fun e s'=>wpAny (model P w) (A.deeper (envOfC qual scope s.heap.objs.size f cd)) (leaving (envOfC qual scope s.heap.objs.size f cd) e) (fun _ Qf=>CX outer H s E e Qf) (fun e' Qf=>CX outer H s E e' Qf) s'
theorem Bp{sc:Scope}{n:Nat}(h:sc.names.lookup x=some .cell):∃c,(cellsFrom n sc.names []).lookup x=some c:=by
 have q:=PySem.W.cellsFrom_some sc.names n [] (.inl h);exact rb.mp q
theorem GD{CX:Bl}{base:Heap}{N:List Str}{qual:Str}{scope:Scope}{outer:List Env}{s1:Shared}{E:XK}{us:List Value}{vs:List V}
  (S:gc N ps scope) (hd:A.handled=none) (e0:yk P w K mg base A outer s H) (hl:vs.length=ps.length) (r:Vals vs us)
  (x:InCallC s s.heap.objs.size (bindL (envOfC qual scope s.heap.objs.size ae aa).kindOf (ps.zip us) fun _=>none) (cellsFrom (s.heap.objs.size+1) scope.names []) (bindC (envOfC qual scope s.heap.objs.size ae aa).kindOf (ps.zip us) fun _=>none) s1):
  Inv (nz CX P w K mg base N qual scope ae aa A outer s H E) [] (start N vs) H s1:=by
 have ny:ps.length<=N.length:=by have:=cq List.length S.pre;rw[List.length_take]at this;omega
 obtain⟨h1,tk,rfl,hk⟩:=x.done;have UM:∀b:Addr,b∉(nz CX P w K mg base N qual scope ae aa A outer s H E).ex:=fun b z=>absurd (show b∈([]:List Addr)from z) (by simp);refine⟨⟨e0.mod,S.kind,rfl,rfl,aQ _,fun y z c h1 h2=>?_,fun y hy=>?_,fun y c _ h=>?_,fun _=>hd,Around.frames_deeper e0.frames,.inr ⟨rfl,rfl⟩,fun b z=>absurd z (UM b),e0.bs,e0.Gr,fun b _ _=>UM b,fun b z=>absurd z (UM b),e0.p5,e0.Ij⟩,
  rfl,e0.bare,Un.kept hk,⟨_,x.toInCall.ns,fun i y v h1 h2 h3=>?_⟩,fun y c h=>⟨_,x.cell y c h⟩,e0.cp.fresh (aQ _),fun y c h=>?_,fun p hp=>absurd (show p∈([]:List (Addr×Obj))from hp) (by simp),e0.cp.kept hk,?_⟩
 ·exact name_of_addr x.apart (kr h1) (kr h2)
 ·have hy:scope.names.lookup y=some .cell\/scope.names.lookup y=some .free:=hy;rcases hy with hy|hy
  ·exact Bp hy
  ·exact absurd rfl (S.Qe _ (kr hy))
 ·exact cT (x.above y c (kr h))
 ·have hi:i<vs.length:=by
   unfold start at h2;by_cases hi:i<vs.length
   ·exact hi
   ·rw[vF (by simpa using hi)]at h2;rw[rg]at h2;split at h2<;>cases h2
  have ha:vs[i]?=some v:=by
   unfold start at h2;rw[nE (by simpa using hi),bA]at h2;cases e:vs[i]? with
   |none=>rw[e]at h2;cases h2
   |some a=>rw[e]at h2;cases h2;rfl
  obtain⟨u,hu,rv⟩:=r.get ha;have hp:ps[i]?=some y:=by
   rw[<-S.pre,List.getElem?_take_of_lt (by omega)];exact h1
  have ndP:ps.Nodup:=by rw[<-S.pre];exact S.nd.sublist (List.take_sublist _ _)
  refine⟨u,rv,?_⟩;rcases S.par y (dm hp)with k|k
  ·exact .inl ⟨k,yH ndP hp hu k⟩
  ·obtain⟨c,e⟩:=Bp (n:=s.heap.objs.size+1) k;refine .inr ⟨.inl k,c,e,?_⟩;have q:=x.cell y c e;rw[yI ndP hp hu (by show scope.names.lookup y≠_;rw[k];decide)]at q;exact q
 ·exact e0.cp.fresh (cT (x.above y c (kr h)))
 ·unfold start;show _=N.length;rw[dW,aK,vM];omega
theorem OJ{CX:Bl}{base:Heap}{name qual:Str}{params:Arguments}{scope:Scope}{kV doc pm eY ct oc:Value}{an od:Option Addr}
  {IL:Array (Option Value)} {N:List Str} {sp:Sp} (lk:K.lookup a=some ⟨oc,od,.func (PySem.W.fnOf name qual params ac scope aa kV doc pm an eY ct),IL⟩) (Dk:PySem.W.codeIn K eY qual=true) (S:gc N ps scope)
  (len:∀vs H Q E,sp vs H Q E->vs.length=ps.length)
  (jV:∀(A:Around) (outer:List Env) (s:Shared) (H:Hp) (vs:List V) (Q:VK) (E:XK),cz i (A.deeper (envOfC qual scope s.heap.objs.size a eY))->sp vs H Q E->
   ∃t,nC (nz CX P w K mg base N qual scope a eY A outer s H E) ac t/\t {nx:=fun _ H'=>Q .bO H',rt:=Q} (start N vs) H):
  dw P w K mg base CX (i+1) a (PySem.W.fnOf name qual params ac scope aa kV doc pm an eY ct) ps sp:=by
 refine⟨len,fun A outer s H args us vs Q E hr e0 hb r IM=>?_⟩;have hl:=len _ _ _ _ IM;have KX:K.In s.heap:=e0.mod.Oz.keeps fun b o e=>(e0.bs b o e).1;have lim:s.heap.NoLimit:=e0.mod.nolimit.keeps fun b o e=>(e0.bs b o e).1;have UN:∀y∈ps.zip us,scope.names.lookup y.1=some .local\/(scope.names.lookup y.1=some .cell/\((cellsFrom (s.heap.objs.size+1) scope.names []).lookup y.1).isSome=true):=fun⟨n,v⟩ hy=>by
  rcases S.par n (rL hy).1 with q|q
  ·exact .inl q
  ·exact .inr ⟨q,PySem.W.cellsFrom_some _ _ _ (.inl q)⟩
 refine codeAny_call_function hr.depth (KX _ _ lk) rfl S.co S.gen rfl (PySem.W.codeRec_of KX Dk) (hb _ _ _ _ ?_);refine wpAny_newFunctionEnv_cells S.kind UN fun env he s1 x=>?_
 subst he;refine⟨lim.keeps x.toInCall.keep,codeAny_func ?_⟩;obtain⟨t,ht,hq⟩:=jV A outer s H vs Q E (hr.deeper _) IM;have I:Inv (nz CX P w K mg base N qual scope a eY A outer s H E) [] (start N vs) H s1:=GD S hr.hd e0 hl r x;refine dq (ht [] s1 (start N vs) H _ I hq) (fun fl s' hs=>?_) fun e s' hs=>hs;have fin:∀{cK:St} {H':Hp} {v:V} {u:Value},Inv (nz CX P w K mg base N qual scope a eY A outer s H E) [] cK H' s'->RelV v u->Q v H'->CE outer P w H s Q u s':=
  fun{cK H' v u} J rv q=>⟨v,H',J.os,J.bare,J.base,J.cp,rv,q⟩
 cases fl with
 |ret u=>
  obtain⟨v,cK,H',J,rv,q⟩:=hs;exact fin J rv q
 |next=>
  obtain⟨cK,H',J,q⟩:=hs;exact fin (v:=V.bO) (u:=Value.none) J rfl q
 |brk=>
  obtain⟨_,_,_,q⟩:=hs;exact False.elim q
 |cont=>
  obtain⟨_,_,_,q⟩:=hs;exact False.elim q
section
variable {t:TA}{id T:String}{r:List V->Hp->VK->Prop}
def Zg(r:List V->Hp->VK->Prop)(t:TA):TE:=fun Z H Q=>t Z H fun vs H1=>r vs H1 Q
theorem oz(hc:fG X (.builtin id) r)(hg:Gl X x)(hm:X.mg x=none)(hv:bootBuiltins x=some (.builtin id))(ha:PA X (e::es) t)(hn:x≠"__name__":=by decide) (eM:Db x:=by decide)
  (he:starEach (e::es) X.env=(false,eval e X.env)::starEach es X.env:=by rfl) (ny:(backTo pos (starEach es X.env)).any (·.1)=false:=by rfl):PE X (.Call (.Name x p) (e::es) [] pos) (Zg r t):=by
 intro U s Z H Q I h;refine lA (t5 I hg hm hv ?_ hn eM);exact PyProof.Rows.callWith_builtin1 (dA (ha pos U s Z H _ I h) fun us s1 ⟨vs,H1,I1,r1,q1⟩=>hc U s1 Z H1 vs us Q I1 r1 q1) he ny
theorem t_(hc:fG X (.type T) r)(hg:Gl X x)(hm:X.mg x=none)(hv:bootBuiltins x=some (.type T))(ha:PA X (e::es) t)(hn:x≠"__name__":=by decide) (eM:Db x:=by decide)
  (he:starEach (e::es) X.env=(false,eval e X.env)::starEach es X.env:=by rfl) (ny:(backTo pos (starEach es X.env)).any (·.1)=false:=by rfl):PE X (.Call (.Name x p) (e::es) [] pos) (Zg r t):=by
 intro U s Z H Q I h;refine lA (t5 I hg hm hv ?_ hn eM);exact vE (dA (ha pos U s Z H _ I h) fun us s1 ⟨vs,H1,I1,r1,q1⟩=>hc U s1 Z H1 vs us Q I1 r1 q1) he ny
end
abbrev TO:=St->Hp->(Option Int->Hp->Prop)->Prop
def PO(X:Cx)(e:Option Expr)(t:TO):Prop:=
 ∀(U:List (Addr×Obj)) (s:Shared) (Z:St) (H:Hp) (Q:Option Int->Hp->Prop),Inv X U Z H s->t Z H Q->
  wpAny (model X.prog X.w) X.A (evalPart e X.env) (fun u s'=>∃o H',Inv X U Z H' s'/\IsPart u o/\Q o H') X.xe s
def Mj:TO:=fun _ H Q=>Q none H
def UO(t:TE):TO:=fun Z H Q=>t Z H fun x H1=>∃i,x=.int i/\Q (some i) H1
section
variable {te:TE}{lo hi:Option Expr}{tl th:TO}{p2:Pos}
theorem Ml:PO X none Mj:=by
 intro U s Z H Q I h;rw[evalPart_none];exact aC ⟨none,H,I,.none,h⟩
theorem Mm(h:PE X e te):PO X (some e) (UO te):=by
 intro U s Z H Q I hw;rw[evalPart_some];refine dA (h U s Z H _ I hw) fun u s1 ⟨x,H1,I1,r1,q1⟩=>?_
 obtain⟨i,rfl,q⟩:=q1;obtain⟨t,rfl⟩:=r1;exact⟨some i,H1,I1,.int i t,q⟩
def TK(X:Cx)(r:V->Option Int->Option Int->Hp->VK->Prop):Prop:=
 ∀(U:List (Addr×Obj)) (s:Shared) (Z:St) (H:Hp) (x:V) (v vl vu:Value) (lo hi:Option Int) (sl:Addr) (Q:VK),Inv X U Z H s->RelV x v->s.heap.IsSliceOf sl vl vu .none->IsPart vl lo->IsPart vu hi->r x lo hi H Q->
  ∃T id,typeLookup (.type T) "__getitem__"=pure (some (.builtin id))/\s.TypeIs v T/\wpAny (model X.prog X.w) X.A (getItem v (.ref sl)) (EP X U Z Q) X.xe s
def tSl(r:V->Option Int->Option Int->Hp->VK->Prop)(te:TE)(tl th:TO):TE:=fun Z H Q=>te Z H fun x H1=>tl Z H1 fun l H2=>th Z H2 fun u H3=>r x l u H3 Q
theorem IP{r:V->Option Int->Option Int->Hp->VK->Prop}(hr:TK X r)(he:PE X e te)(hl:PO X lo tl)(hu:PO X hi th):PE X (.Subscript e (.Slice lo hi none p2) pos) (tSl r te tl th):=by
 intro U s Z H Q I h;refine Subscript_ (dA (he U s Z H _ I h) fun v s1 ⟨x,H1,I1,r1,q1⟩=>?_);refine wpAny_Slice (dA (hl U s1 Z H1 _ I1 q1) fun vl s2 ⟨l,H2,I2,pl,q2⟩=>dA (hu U s2 Z H2 _ I2 q2) fun vu s3 ⟨u,H3,I3,pu,q3⟩=>?_);rw[evalPart_none];refine aC ?_
 have I4:Inv X U Z H3 {s3 with heap:=s3.heap.push {cls:=.type "slice",data:=.fields #[vl,vu,.none]}}:=I3.kept (t':=s3.toks) fun b ob q=>bh _ q;obtain⟨T,id,hT,ht,hg⟩:=hr U {s3 with heap:=s3.heap.push {cls:=.type "slice",data:=.fields #[vl,vu,.none]}} Z H3 x v vl vu l u s3.heap.objs.size Q I4 r1 (Heap.IsSliceOf.new ..) pl pu q3;show wpAny (model X.prog X.w) X.A (subscriptTail e (.Slice lo hi none p2) v (.ref s3.heap.objs.size)) (EP X U Z Q) X.xe {s3 with heap:=s3.heap.push {cls:=.type "slice",data:=.fields #[vl,vu,.none]}};exact tail_any (ops:=[.ref s3.heap.objs.size,v]) ht hT hg (by with_unfolding_all rfl)
def Bq(xs:List V)(lo hi:Option Int):List V:=(xs.drop (HT.gb xs.length 0 lo)).take (HT.gb xs.length xs.length hi - HT.gb xs.length 0 lo)
theorem uA(xs:List V)(lo hi:Option Int):(Bq xs lo hi).length<=xs.length:=by
 unfold Bq;rw[List.length_take,List.length_drop];omega
def Zh(K:Frag):V->Option Int->Option Int->Hp->VK->Prop:=fun x lo hi H Q=>∃a xs,x=.ref a/\g9 K H a xs/\
 ¬(HT.gb xs.length 0 lo=0/\HT.gb xs.length xs.length hi=xs.length)/\∀p,H p=none->Q (.ref p) (upd H p (.tup (Bq xs lo hi)))
theorem Qg:TK X (Zh X.K):=by
 intro U s Z H x v vl vu lo hi sl Q I rx hs pl pu h;obtain⟨a,xs,rfl,hx,hw,q⟩:=h;cases rx;obtain⟨bE,r,ht,hz⟩:=I.tuple hx;have b9:bE.toArray.size=xs.length:=by rw[cn];exact r.length.symm
 refine⟨"tuple",_,vG.lookup,ht.typeIs,?_⟩;refine HT.rZ ht hs pl pu (by rw[b9];exact hw) ?_ (by rw[b9];exact hz)
 rw[b9];refine⟨.ref s.heap.objs.size,_,I.laid (t':=s.toks) (o:=.tup (Bq xs lo hi)) (fun b ob q=>bh _ q) (aQ _) ?_,rfl,q _ (I.cp.fresh (aQ _))⟩;exact⟨bP (uA xs lo hi) hz,_,(r.drop (HT.gb xs.length 0 lo)).take (HT.gb xs.length xs.length hi - HT.gb xs.length 0 lo),IsTup.new _ _⟩
def UP(K:Frag):R2:=fun x y H Q=>∃a b xs ys,x=.ref a/\y=.ref b/\g9 K H a xs/\g9 K H b ys/\xs≠[]/\xs.length+ys.length<=sizeLine/\
 (ys=[]->Q (.ref a) H)/\(ys≠[]->∀p,H p=none->Q (.ref p) (upd H p (.tup (xs++ys))))
theorem Vals.zK {xs:List V}{us:List Value}(r:Vals xs us):us=[]↔xs=[]:=by
 cases r with
 |_=>simp
theorem Mn:t7 X (binaryOp .Add) (UP X.K):=by
 intro U s Z H x y v u Q I rx ry h;obtain⟨a,b,xs,ys,rfl,rfl,ha,hb,hx,hz,q1,q2⟩:=h;cases rx;cases ry;obtain⟨bE,r1,p1,_⟩:=I.tuple ha;obtain⟨wx,r2,p2,_⟩:=I.tuple hb;refine HT.LZ p1 p2 (fun z=>hx (r1.zK.mp z)) (fun z=>⟨.ref a,H,I,rfl,q1 (r2.zK.mp z)⟩) (fun z=>?_) (by rw[<-r1.length,<-r2.length];exact hz);refine⟨.ref s.heap.objs.size,_,I.laid (t':=s.toks) (o:=.tup (xs++ys)) (fun b ob q=>bh _ q) (aQ _) ?_,rfl,q2 (fun w=>z (r2.zK.mpr w)) _ (I.cp.fresh (aQ _))⟩;exact⟨by rw[dW];exact hz,_,r1.append r2,IsTup.new _ _⟩
end
def LP(n:Nat)(i:Int):Option Nat:=if 0<=i then(if i<n then some i.toNat else none)else if-(n:Int)<=i then some (i+n).toNat else none
def ua{α:Type}(xs:List α)(i:Int):Option α:=(LP xs.length i).bind fun j=>xs[j]?
theorem Mo{n:Nat}{i:Int}{j:Nat}(h:LP n i=some j):seqIndex? i n=some j/\j<n/\-(n:Int)<=i/\i<n:=by
 unfold LP at h;by_cases h0:0<=i
 ·rw[au h0]at h;by_cases h1:i<n
  ·rw[au h1]at h;have e:i.toNat=j:=Option.some.inj h;exact⟨by rw[seqIndex_of h0 h1,e],by omega,by omega,h1⟩
  ·rw[ay h1]at h;cases h
 ·rw[ay h0]at h;by_cases h1:-(n:Int)<=i
  ·rw[au h1]at h;have e:(i+n).toNat=j:=Option.some.inj h;exact⟨by rw[seqIndex_neg (by omega) h1,e],by omega,h1,by omega⟩
  ·rw[ay h1]at h;cases h
theorem zL{α:Type}{xs:List α}{i:Int}{v:α}(h:ua xs i=some v):∃j,seqIndex? i xs.length=some j/\xs[j]?=some v/\j<xs.length/\-(xs.length:Int)<=i/\i<xs.length:=by
 unfold ua at h;cases e:LP xs.length i with
 |none=>rw[e]at h;cases h
 |some j=>
  rw[e]at h;obtain⟨h1,h2,h3,h4⟩:=Mo e;exact⟨j,h1,h,h2,h3,h4⟩
theorem zM{α:Type}{xs:List α}{j:Nat}{v:α}(h:xs[j]?=some v):ua xs (j:Int)=some v:=by
 have hj:j<xs.length:=(fi.mp h).1;have e:LP xs.length (j:Int)=some j:=by
  unfold LP;rw[au (by omega),au (by omega)];simp
 unfold ua;rw[e];exact h
def sk(b:Expr):Prop:=∀o i,subscripted b false o i=operate [o,i] (getItem o i)
def UQ(X:Cx)(r:R2):Prop:=
 ∀(value slice:Expr) (U:List (Addr×Obj)) (s:Shared) (Z:St) (H:Hp) (x y:V) (v u:Value) (Q:VK),Inv X U Z H s->RelV x v->RelV y u->r x y H Q->
  subscripted slice false v u=operate [v,u] (getItem v u)->wpAny (model X.prog X.w) X.A (subscriptTail value slice v u) (EP X U Z Q) X.xe s
def Qh(X:Cx)(id:String)(r:V->List V->Hp->VK->Prop):Prop:=
 ∀(U:List (Addr×Obj)) (s:Shared) (Z:St) (H:Hp) (x:V) (xs:List V) (v:Value) (us:List Value) (Q:VK),Inv X U Z H s->RelV x v->Vals xs us->r x xs H Q->
  wpAny (model X.prog X.w) X.A (call (.builtin id) (v::us)) (EP X U Z Q) X.xe s
section
variable {b:Expr}{ta tb:TE}
theorem OK{r:R2}(hr:UQ X r)(ha:PE X tg ta)(hb:PE X b tb)(hs:sk b):PE X (.Subscript tg b pos) (P0 r ta tb):=by
 intro U s Z H Q I h;exact Subscript_ (P5 ha hb I h fun v u s2 x y H2 I2 rx ry q=>hr tg b U s2 Z H2 x y v u Q I2 rx ry q (hs _ _))
def Zi(K:Frag):R2:=fun x y H Q=>∃p xs i v,x=.ref p/\y=.int i/\kB K H p xs/\ua xs i=some v/\Q v H
def Zj(K:Frag):R2:=fun x y H Q=>∃p xs i v,x=.ref p/\y=.int i/\g9 K H p xs/\ua xs i=some v/\Q v H
def Zk:R2:=fun x y H Q=>∃z i c,x=.str z/\y=.int i/\z.length<=sizeLine/\ua z.cps.toList i=some c/\Q (.str ⟨#[c]⟩) H
theorem EV:UQ X (Zi X.K):=by
 intro value slice U s Z H x y v u Q I rx ry h hs;obtain⟨p,xs,i,z,rfl,rfl,hq,he,q⟩:=h;cases rx;obtain⟨t,rfl⟩:=ry;obtain⟨bE,r,pl,hz⟩:=I.list hq;obtain⟨j,h1,h2,h3,h4,h5⟩:=zL he;obtain⟨w,ew,oA⟩:=r.get h2;have hl:=r.length;have hn:=wq;have fin:EP X U Z Q w s:=⟨z,H,I,oA,q⟩;by_cases h0:0<=i
 ·have hj:i.toNat=j:=by
   rw[seqIndex_of h0 h5]at h1;exact Option.some.inj h1
  exact item_listR pl.isList h0 (by omega) (by rw[hj];simpa using ew) fin hs
 ·have hj:(i+(bE.toArray.size:Int)).toNat=j:=by
   rw[seqIndex_neg (by omega) h4]at h1;rw[cn,<-hl];exact Option.some.inj h1
  exact subscriptTail_builtinR (x:=w) pl.isList.typeIs slot_list_getitem.lookup
   (wpAny_getItem_list_neg (Q:=fun r s'=>r=w/\EP X U Z Q r s') pl.isList (by omega) (by rw[cn]<;>omega) (by omega) (by rw[hj];simpa using ew) ⟨rfl,fin⟩) hs
theorem Qi:UQ X (Zj X.K):=by
 intro value slice U s Z H x y v u Q I rx ry h hs;obtain⟨p,xs,i,z,rfl,rfl,hq,he,q⟩:=h;cases rx;obtain⟨t,rfl⟩:=ry;obtain⟨bE,r,pl,hz⟩:=I.tuple hq;obtain⟨j,h1,h2,h3,h4,h5⟩:=zL he;obtain⟨w,ew,oA⟩:=r.get h2;have hl:=r.length;have hn:=wq;have fin:EP X U Z Q w s:=⟨z,H,I,oA,q⟩;exact subscriptTail_builtinR (x:=w) pl.typeIs vG.lookup
  (getItem_tuple (j:=j) (Q:=fun r s'=>r=w/\EP X U Z Q r s') pl (by omega) (by omega) (by rw[cn,<-hl];exact h1) (by simpa using ew) ⟨rfl,fin⟩) hs
theorem Qj:UQ X Zk:=by
 intro value slice U s Z H x y v u Q I rx ry h hs;obtain⟨z,i,c,rfl,rfl,hz,he,q⟩:=h;obtain⟨t,rfl⟩:=rx;obtain⟨t',rfl⟩:=ry;obtain⟨j,h1,h2,h3,h4,h5⟩:=zL he;have hl:z.cps.toList.length=z.length:=by simp[Str.length]
 rw[hl]at h1 h4 h5;have hn:=wq;exact tail_any (typeIs_str s z t) slot_str_getitem.lookup (getItem_str (c:=c) (by
  have e1:decide (i< -(2 ^63:Int))=false:=eC (by omega);have e2:decide (i>=2 ^63)=false:=eC (by omega);rw[e1,e2,rR]) (by rw[h1];simpa using h2) ⟨.str ⟨#[c]⟩,H,I.tok _,⟨_,rfl⟩,q⟩) hs
theorem zN(lo hi:Option Int)(n:Nat):(sliceBounds lo hi none n).1=((HT.gb n 0 lo:Nat):Int)/\(sliceBounds lo hi none n).2.1=((HT.gb n n hi:Nat):Int)/\(sliceBounds lo hi none n).2.2=1:=by
 refine⟨?_,?_,rfl⟩
 ·cases lo with
  |none=>simp[sliceBounds,HT.gb]
  |some i=>
   simp only[sliceBounds,HT.gb,Option.getD_none,show(1:Int)>0 by decide,bT];by_cases h:i<0
   ·simp only[h,bT]<;>omega
   ·simp only[h,bJ]<;>omega
 ·cases hi with
  |none=>simp[sliceBounds,HT.gb]
  |some i=>
   simp only[sliceBounds,HT.gb,Option.getD_none,show(1:Int)>0 by decide,bT];by_cases h:i<0
   ·simp only[h,bT]<;>omega
   ·simp only[h,bJ]<;>omega
theorem yl(bE:List Value)(lo hi:Option Int):slicePick bE.toArray lo hi none=((bE.drop (HT.gb bE.length 0 lo)).take (HT.gb bE.length bE.length hi - HT.gb bE.length 0 lo)).toArray:=by
 obtain⟨h1,h2,h3⟩:=zN lo hi bE.toArray.size;unfold slicePick;rw[h1,h2,h3];simp only[sliceRange_one,pick_run,cn]<;>rfl
def Zl(K:Frag):V->Option Int->Option Int->Hp->VK->Prop:=fun x lo hi H Q=>∃tg xs,x=.ref tg/\kB K H tg xs/\∀p,H p=none->Q (.ref p) (upd H p (.lst (Bq xs lo hi)))
theorem Mp:TK X (Zl X.K):=by
 intro U s Z H x v vl vu lo hi sl Q I rx hs pl pu h;obtain⟨tg,xs,rfl,hx,q⟩:=h;cases rx;obtain⟨bE,r,ht,hz⟩:=I.list hx;have b9:=r.length;refine⟨"list",_,slot_list_getitem.lookup,ht.isList.typeIs,?_⟩;refine wpAny_getItem_list_slice ht.isList hs pl pu .none (by simp) ?_ (by rw[cn]<;>omega)
 rw[yl,<-b9];refine⟨.ref s.heap.objs.size,_,I.laid (t':=s.toks) (o:=.lst (Bq xs lo hi)) (fun b ob q=>bh _ q) (aQ _) ?_,rfl,q _ (I.cp.fresh (aQ _))⟩;exact⟨bP (uA xs lo hi) hz,_,0,(r.drop (HT.gb xs.length 0 lo)).take (HT.gb xs.length xs.length hi - HT.gb xs.length 0 lo),bG _ rfl⟩
def OL:V->Bool
 |.bO=>true
 |.bl _=>true
 |.int _=>true
 |.str _=>true
 |_=>false
theorem sx:fG X (.type "list") (fun xs H Q=>∃p ys,xs=[.ref p]/\(kB X.K H p ys\/g9 X.K H p ys)/\∀l,H l=none->Q (.ref l) (upd H l (.lst ys))):=by
 intro U s Z H xs us Q I r h;obtain⟨p,ys,rfl,hq,q⟩:=h;obtain⟨u,rfl,rx⟩:=vals1 r;cases rx;have fin:∀(bE:List Value),Vals ys bE->ys.length<=sizeLine->∀(h':Heap) (c':Nat),(∀b o',s.heap.get? b=some o'->h'.get? b=some o')->
   h'.get? s.heap.objs.size=some {cls:=.type "list",dict:=none,data:=.seq bE.toArray c',slots:=#[]}->EP X U Z Q (.ref s.heap.objs.size) {s with heap:=h'}:=fun bE r' hz h' c' kp e=>
  ⟨.ref s.heap.objs.size,_,I.laid (t':=s.toks) kp (aQ _) (show cu X.prog X.w _ h' _ (.lst ys)from⟨hz,bE,c',r',e⟩),rfl,q _ (I.cp.fresh (aQ _))⟩
 rcases hq with hq|hq
 ·obtain⟨bE,r',pl,hz⟩:=I.list hq;have b9:=r'.length;obtain⟨o,ho,hc,n,hd⟩:=pl.isList;exact call_list_seq p (.inl rfl) ho hc hd (fun h' c' kp e=>fin bE r' hz h' c' kp e) (by simp only[cn]<;>omega)
 ·obtain⟨bE,r',pl,hz⟩:=I.tuple hq;have b9:=r'.length;obtain⟨o,ho,hc,n,hd⟩:=pl;exact call_list_seq p (.inr rfl) ho hc hd (fun h' c' kp e=>fin bE r' hz h' c' kp e) (by simp only[cn]<;>omega)
theorem p9:fG X (.type "tuple") (fun xs H Q=>∃p ys,xs=[.ref p]/\((kB X.K H p ys/\∀l,H l=none->Q (.ref l) (upd H l (.tup ys)))\/(g9 X.K H p ys/\Q (.ref p) H))):=by
 intro U s Z H xs us Q I r h;obtain⟨p,ys,rfl,h⟩:=h;obtain⟨u,rfl,rx⟩:=vals1 r;cases rx;rcases h with⟨hq,q⟩|⟨hq,q⟩
 ·obtain⟨bE,r',pl,hz⟩:=I.list hq;have b9:=r'.length;refine call_tuple_list pl.isList (fun h' kp=>?_) (by simp only[cn]<;>omega);have I1:Inv X U Z H {s with heap:=h'}:=I.kept (t':=s.toks) kp;have I2:Inv X U Z (upd H h'.objs.size (.tup ys)) {s with heap:=h'.push {cls:=.type "tuple",data:=.seq bE.toArray}}:=
   I1.laid (t':=s.toks) (fun b o e=>bh _ e) (aQ _) (show cu X.prog X.w _ _ _ (.tup ys)from⟨hz,bE,r',IsTup.new _ _⟩)
  exact⟨.ref h'.objs.size,_,I2,rfl,q _ (I1.cp.fresh (aQ _))⟩
 ·obtain⟨bE,r',pl,hz⟩:=I.tuple hq;exact call_tuple_same pl ⟨.ref p,H,I,rfl,q⟩
def tyV(K:Frag)(T:String)(x:V)(H:Hp):Prop:=match x with
 |.str _=>T="str"
 |.int _=>T="int"
 |.ref p=>(T="list"/\∃xs,kB K H p xs)\/(T="tuple"/\∃o,K.lookup p=some o/\o.cls=.type "tuple"/\o.dict=none)\/
   (T="dict"/\((∃kvs,H p=some (.dK kvs))\/∃kvs,H p=some (.dT kvs)))\/(T="set"/\∃S n,H p=some (.set S n))
 |_=>False
theorem Qk{T:String}{x:V}(I:Inv X U Z H s)(r:RelV x aa)(ty:tyV X.K T x H):
  s.TypeIs aa T/\∀tg,aa=.ref tg->∃ob,s.heap.get? tg=some ob/\ob.dict=none:=by
 cases x with
 |str z=>
  obtain⟨t,rfl⟩:=r;cases(show T="str"from ty);exact⟨typeIs_str s z t,fun _ e=>nomatch e⟩
 |int i=>
  obtain⟨t,rfl⟩:=r;cases(show T="int"from ty);exact⟨typeIs_int s i t,fun _ e=>nomatch e⟩
 |ref p=>
  cases r;rcases ty with⟨rfl,xs,hq⟩|⟨rfl,o,hk,hc,hd⟩|⟨rfl,hk⟩|⟨rfl,S,n,hk⟩
  ·obtain⟨bE,_,pl,_⟩:=I.list hq;refine⟨pl.isList.typeIs,fun tg e=>?_⟩;cases e;obtain⟨o,n,e,c,hd,_⟩:=pl;exact⟨o,e,hd⟩
  ·refine⟨⟨o,I.kM p o hk,hc⟩,fun tg e=>?_⟩;cases e;exact⟨o,I.kM _ o hk,hd⟩
  ·have z:∃o,s.heap.get? p=some o/\o.ExactDict:=by
    rcases hk with⟨kvs,hk⟩|⟨kvs,hk⟩
    ·obtain⟨_,_,_,_,o,_,_,e,ex,_⟩:=I.cp p _ hk;exact⟨o,e,ex⟩
    ·obtain⟨_,_,_,_,o,_,_,e,ex,_⟩:=I.cp p _ hk;exact⟨o,e,ex⟩
   obtain⟨o,e,ex⟩:=z;refine⟨⟨o,e,ex.1⟩,fun tg e2=>?_⟩;cases e2;exact⟨o,e,ex.2.1⟩
  ·obtain⟨o,_,_,_,e,ex,_⟩:=I.cp p _ hk;refine⟨⟨o,e,ex.1⟩,fun tg e2=>?_⟩;cases e2;exact⟨o,e,ex.2.1⟩
 |_=>exact False.elim ty
def tBM(K:Frag)(T:String)(r:V->List V->Hp->VK->Prop)(to:TE)(t:TA):TE:=fun Z H Q=>to Z H fun x H1=>tyV K T x H1/\t Z H1 fun xs H2=>r x xs H2 Q
variable {to:TE}{t:TA}{name:Str}{cN:Pos}{T id:String}{r:V->List V->Hp->VK->Prop}
theorem EW(pa:PlainAttrs T)(slot:Slot T name id)(Mq:typeOf (.builtin id)=pure (.type "method_descriptor"))(hm:Qh X id r)(ho:PE X o to)(ha:PA X (e::es) t)
  (oB:attributeBase o name X.env (eval o X.env)=eval o X.env:=by rfl)
  (Zm:((backTo cN (starEach (e::es) X.env)).all (fun x=>!x.1)&&(backToKw cN (keywordEach [] X.env)).all (fun x=>x.1.isSome)
   &&decide ((e::es).length+([]:List Keyword).length+(if([]:List Keyword).isEmpty then 0 else 1)<30))=true:=by rfl)
  (e_:(b8.endLine==cN.line)=true:=by rfl) (hs:starEach (e::es) X.env=(false,eval e X.env)::starEach es X.env:=by rfl) (Ql:(backTo cN (starEach es X.env)).any (·.1)=false:=by rfl):
  PE X (.Call (.Attribute o name b8) (e::es) [] cN) (tBM X.K T r to t):=by
 intro U s Z H Q I h;refine wpAny_Call_method_late oB Zm e_ rfl (dA (ho U s Z H _ I h) fun v s1 ⟨x,H1,I1,r1,ty,q1⟩=>?_);obtain⟨h1,h2⟩:=Qk I1 r1 ty;refine⟨T,id,pa,slot,Mq,h1,h2,?_⟩;have hA:=ha cN U s1 Z H1 _ I1 q1;rw[hs]at hA⊢;refine mr (by show(false||(backTo cN (starEach es X.env)).any (·.1))=false;rw[Ql]<;>rfl) (my ?_);exact dA hA fun us s2 ⟨vs,H2,I2,r2,q2⟩=>hm U s2 Z H2 x vs v us Q I2 r1 r2 q2
end
def Zn(X:Cx)(id:String)(r:V->List V->Hp->VK->Prop):Prop:=
 ∀(U:List (Addr×Obj)) (s:Shared) (Z:St) (H:Hp) (x:V) (xs:List V) (v:Value) (us:List Value) (Q:VK),Inv X U Z H s->RelV x v->Vals xs us->r x xs H Q->
  wpAny (model X.prog X.w) X.A (call (.builtin id) (v::us)) (EP X U Z Q) X.xe s
theorem Vals.one:∀{x:V} {us:List Value},Vals [x] us->∃u,us=[u]/\RelV x u
 |_,_,.cons r .nil=>⟨_,rfl,r⟩
theorem Vals.dropLast {xs:List V}{us:List Value}(h:Vals xs us):Vals xs.dropLast us.dropLast:=by
 induction h with
 |nil=>exact .nil
 |cons r t ih=>
  cases t with
  |nil=>exact .nil
  |cons q t'=>exact .cons r ih
theorem Vals.rep {xs:List V}{us:List Value}(h:Vals xs us):∀k:Nat,Vals (List.replicate k xs).flatten (List.replicate k us).flatten
 |0=>.nil
 |k+1=>by
  rw[mz,mz,ly,ly];exact Vals.append h (Vals.rep h k)
theorem foldl_rep(bE:List Value):∀(k:Nat) (acc:List Value),
  List.foldl (fun x1 x2=>x1++x2) acc.toArray (List.replicate k bE.toArray)=(acc++(List.replicate k bE).flatten).toArray
 |0,acc=>by simp
 |k+1,acc=>by
  have e:acc.toArray++bE.toArray=(acc++bE).toArray:=by simp
  have e2:(acc++bE)++(List.replicate k bE).flatten=acc++(List.replicate (k+1) bE).flatten:=by
   rw[mz,ly,vU]
  rw[<-e2,<-foldl_rep bE k (acc++bE),<-e,mz,List.foldl_cons]
section
variable {xs ys zs:List V}
theorem Inv.Mr {bE r9:List Value}{n:Nat}{f:Array Value->Array Value}{t':Nat}(I:Inv X U Z H s)(hH:H a=some (.lst xs))
  (e:s.heap.get? a=some {cls:=.type "list",data:=.seq bE.toArray n}) (hf:f bE.toArray=r9.toArray) (hv:Vals ys r9) (hz:ys.length<=sizeLine):
  Inv X U Z (upd H a (.lst ys)) {s with heap:=s.heap.update a (Obj.mapSeq f),toks:=t'}:=by
 have q:=PySem.IsL.update e f;rw[hf]at q;refine I.write (x:=a) (e:=a) (by rw[hH];exact trivial) (.inl rfl) (fun b' u hb hu=>(mv s.heap (Obj.mapSeq f) (Ne.symm hb)).trans hu) ⟨_,q⟩ ?_
 exact⟨hz,r9,_,hv,q⟩
theorem Inv.Ms {bE:List Value}{t':Nat}(I:Inv X U Z H s)(hv:Vals ys bE)(hz:ys.length<=sizeLine):
  Inv X U Z (upd H s.heap.objs.size (.lst ys)) {s with heap:=s.heap.push {cls:=.type "list",data:=.seq bE.toArray},toks:=t'}:=
 I.laid (fun _ _ q=>bh _ q) (aQ _) ⟨hz,bE,0,hv,bG _ rfl⟩
theorem Inv.fresh (I:Inv X U Z H s):H s.heap.objs.size=none:=I.cp.fresh (aQ _)
theorem Inv.ym (I:Inv X U Z H s)(hH:H a=some (.lst xs)):xs.length<=sizeLine/\∃(bE:List Value) (n:Nat),Vals xs bE/\xs.length=bE.length/\s.heap.get? a=some {cls:=.type "list",data:=.seq bE.toArray n}:=by
 obtain⟨z,bE,n,r,e⟩:=I.cp a _ hH;exact⟨z,bE,n,r,r.length,e⟩
theorem IQ(h:i<=sizeLine):Builtin.List.listTooLong i=false:=by
 unfold Builtin.List.listTooLong;exact eC (by omega)
end
def EY:V->List V->Hp->VK->Prop:=fun x vs H Q=>∃l xs y,x=.ref l/\vs=[y]/\H l=some (.lst xs)/\xs.length<sizeLine/\Q .bO (upd H l (.lst (xs++[y])))
theorem g_:Zn X "list.append" EY:=by
 intro U s Z H x vs v us Q I rx rv h;obtain⟨l,xs,y,rfl,rfl,hH,hz,q⟩:=h;cases rx;obtain⟨u,rfl,ru⟩:=rv.one;obtain⟨z,bE,n,r,hl,e⟩:=I.ym hH;refine jU mn ⟨_,e,rfl⟩ F.entry_list_append (F.args_list_append_2 _ _) (PySem.list_append l bE.toArray n u (by rw[cn];omega)) ⟨e,?_⟩;refine⟨.bO,_,I.Mr (r9:=bE++[u]) hH e (by simp) (r.append (.cons ru .nil)) ?_,rfl,q⟩;rw[dW,List.length_singleton];omega
def Zo:R2:=fun x y H Q=>∃l b xs zs,x=.ref l/\y=.ref b/\H l=some (.lst xs)/\H b=some (.lst zs)/\xs.length+zs.length<=sizeLine/\∀p,H p=none->Q (.ref p) (upd H p (.lst (xs++zs)))
theorem Qm:t7 X (binaryOp .Add) Zo:=by
 intro U s Z H x y v u Q I rx ry h;obtain⟨l,b,xs,zs,rfl,rfl,hH,hB,hz,q⟩:=h;cases rx;cases ry;obtain⟨z,bE,n,r,hl,e⟩:=I.ym hH;obtain⟨z2,wx,n2,r2,L4,e2⟩:=I.ym hB;refine PySem.P.add_list e e2 ?_ (by rw[cn,cn];omega)
 have ea:bE.toArray++wx.toArray=(bE++wx).toArray:=by simp
 rw[ea];exact⟨.ref _,_,I.Ms (t':=s.toks) (r.append r2) (by rw[dW];omega),rfl,q _ I.fresh⟩
def Zp:R2:=fun x y H Q=>∃l k xs,x=.ref l/\y=.int k/\H l=some (.lst xs)/\-(2 ^63)<=k/\k<2 ^63/\xs.length*k.toNat<=sizeLine/\
 ∀p,H p=none->Q (.ref p) (upd H p (.lst (List.replicate k.toNat xs).flatten))
theorem len_rep{α:Type}(xs:List α)(k:Nat):(List.replicate k xs).flatten.length=k*xs.length:=by
 induction k with
 |zero=>simp
 |succ k ih=>rw[mz,ly,dW,ih,Nat.succ_mul,Nat.add_comm]
theorem Qn:t7 X (binaryOp .Mult) Zp:=by
 intro U s Z H x y v u Q I rx ry h;obtain⟨l,k,xs,rfl,rfl,hH,h1,h2,hz,q⟩:=h;cases rx;obtain⟨t,rfl⟩:=ry;obtain⟨z,bE,n,r,hl,e⟩:=I.ym hH;have b9:bE.toArray.size*k.toNat<=sizeLine:=by rw[cn,<-hl];exact hz
 have Zq:¬bE.toArray.size*k.toNat>(2 ^63 - 1)/8:=by
  have:(sizeLine:Nat)<=(2 ^63 - 1)/8:=by decide
  omega
 have Zr:¬(!Builtin.List.listFitsIndex k)=true:=by
  rw[fitsIndex_both h1 h2];exact eR
 have UR:¬Builtin.List.listTooLong (bE.toArray.size*k.toNat)=true:=by
  rw[IQ b9];exact eR
 have IS:List.foldl (fun x1 x2=>x1++x2) #[] (List.replicate (if bE.toArray.isEmpty=true then 0 else k.toNat) bE.toArray)=(List.replicate k.toNat bE).flatten.toArray:=by
  have f0:∀m:Nat,List.foldl (fun x1 x2=>x1++x2) #[] (List.replicate m bE.toArray)=(List.replicate m bE).flatten.toArray:=fun m=>by
   have:=foldl_rep bE m [];rw[List.nil_append]at this;exact this
  rw[f0];cases bE with
  |nil=>simp
  |cons a r'=>rw[ay (by simp)]
 refine wpAny_binaryOp_repeat_ref (T:="list") (U:="int") (by decide) ⟨_,e,rfl⟩ (fun s'=>typeIs_int s' k t) noFill_list_mul F.fills_int_mul F.slot_int_rmul repeat_list F.slot_int_index.lookup
  (jU F.slot_int_rmul (typeIs_int s k t) F.entry_int_rmul (F.args_int_rmul_2 _ _) (int___rmul___int_list k t l bE.toArray n)
   ⟨e,rfl,⟨_,e,rfl⟩,jU F.slot_list_mul ⟨_,e,rfl⟩ F.entry_list_mul (F.args_list_mul_2 _ _) (AutoListH.list___mul___list_int_3 l bE.toArray n k t Zr Zq UR) ⟨e,?_⟩⟩)
 rw[IS];exact⟨.ref _,_,I.Ms (t':=s.toks) (r.rep k.toNat) (by rw[len_rep,Nat.mul_comm];exact hz),rfl,q _ I.fresh⟩
section
variable {κ:Type}[DecidableEq κ]
def lO(kvs:List (κ×V))(k:κ):Option V:=(kvs.find? fun kv=>decide (kv.1=k)).map (·.2)
def putK(kvs:List (κ×V))(k:κ)(v:V):List (κ×V):=
 if(kvs.any fun kv=>decide (kv.1=k))=true then kvs.map (fun kv=>if kv.1=k then(kv.1,v)else kv)else kvs++[(k,v)]
def p_(kvs:List (κ×V))(k:κ):List (κ×V):=kvs.filter fun kv=>decide (kv.1≠k)
theorem sA{p:κ×V}{r:List (κ×V)}{k:κ}(e:p.1=k):lO (p::r) k=some p.2:=by simp[lO,jn,e]
theorem sC{p:κ×V}{r:List (κ×V)}{k:κ}(e:¬p.1=k):lO (p::r) k=lO r k:=by simp[lO,jn,e]
theorem Br(k:κ):∀kvs:List (κ×V),(kvs.any fun kv=>decide (kv.1=k))=(lO kvs k).isSome
 |[]=>rfl
 |p::r=>by
  rw[iA];by_cases e:p.1=k
  ·simp only[sA e,iz e,Bool.true_or,mB]
  ·rw[sC e,eC e,jQ];exact Br k r
theorem oC(kvs:List (κ×V))(k:κ)(v:V):(putK kvs k v).length<=kvs.length+1:=by
 unfold putK;split
 ·rw[aK];omega
 ·rw[dW,cG,v5];omega
theorem kL.lP {o:Option V}{u:Option Value}(r:kL o u):o.isSome=u.isSome:=by
 cases o with
 |none=>cases u with
  |none=>rfl
  |some _=>exact fe r
 |some _=>cases u with
  |none=>exact fe r
  |some _=>rfl
theorem kL.getD {o:Option V}{u:Option Value}{d:V}{d':Value}(r:kL o u)(rd:RelV d d'):RelV (o.getD d) (u.getD d'):=by
 cases o with
 |none=>cases u with
  |none=>exact rd
  |some _=>exact fe r
 |some _=>cases u with
  |none=>exact fe r
  |some _=>exact r
theorem KV.val {kvs:List (κ×V)}{vs:List (κ×Value)}(r:KV kvs vs)(k:κ):kL (lO kvs k) (valueAt vs k):=by
 unfold KV at r
 induction r with
 |nil=>exact True.intro
 |@cons p q ps qs h t ih=>
  obtain⟨h1,h2⟩:=h;by_cases e:p.1=k
  ·have e':q.1=k:=h1.symm.trans e;have b:valueAt (q::qs) k=some q.2:=by simp[valueAt,jn,e']
   rw[sA e,b];exact h2
  ·have e':¬q.1=k:=fun z=>e (h1.trans z);have b:valueAt (q::qs) k=valueAt qs k:=by simp[valueAt,jn,e']
   rw[sC e,b];exact ih
theorem KV.any {kvs:List (κ×V)}{vs:List (κ×Value)}(r:KV kvs vs)(k:κ):(kvs.any fun kv=>decide (kv.1=k))=vs.any fun kv=>decide (kv.1=k):=by
 unfold KV at r
 induction r with
 |nil=>rfl
 |cons h t ih=>rw[iA,iA,ih,h.1]
theorem KV.Qo {kvs:List (κ×V)}{vs:List (κ×Value)}(r:KV kvs vs)(k:κ){y:V}{u:Value}(ry:RelV y u):
  KV (kvs.map fun kv=>if kv.1=k then(kv.1,y)else kv) (vs.map fun kv=>if kv.1=k then(kv.1,u)else kv):=by
 unfold KV at r⊢
 induction r with
 |nil=>exact .nil
 |@cons p q ps qs h t ih=>
  rw[ba,ba];refine .cons ?_ ih
  obtain⟨h1,h2⟩:=h;by_cases e:p.1=k
  ·rw[au e,au (h1.symm.trans e)];exact⟨h1,ry⟩
  ·rw[ay e,ay (fun z=>e (h1.trans z))];exact⟨h1,h2⟩
theorem KV.put {kvs:List (κ×V)}{vs:List (κ×Value)}(r:KV kvs vs)(k:κ){y:V}{u:Value}(ry:RelV y u):KV (putK kvs k y) (stored vs k u):=by
 unfold putK stored;rw[r.any k];by_cases e:(vs.any fun kv=>decide (kv.1=k))=true
 ·rw[au e,au e];exact r.Qo k ry
 ·rw[ay e,ay e];exact Paired.snoc r ⟨rfl,ry⟩
theorem KV.drop {kvs:List (κ×V)}{vs:List (κ×Value)}(r:KV kvs vs)(k:κ):KV (p_ kvs k) (without vs k):=by
 unfold KV at r⊢;unfold p_ without
 induction r with
 |nil=>exact .nil
 |@cons p q ps qs h t ih=>
  obtain⟨h1,h2⟩:=h;rw[nT,nT];by_cases e:p.1=k
  ·have a:¬decide (p.1≠k)=true:=by simp[e]
   have b:¬decide (q.1≠k)=true:=by simp[h1.symm.trans e]
   rw[ay a,ay b];exact ih
  ·have e':¬q.1=k:=fun z=>e (h1.trans z);have a:decide (p.1≠k)=true:=by simp[e]
   have b:decide (q.1≠k)=true:=by simp[e']
   rw[au a,au b];exact .cons ⟨h1,h2⟩ ih
theorem KV.keys {kvs:List (κ×V)}{vs:List (κ×Value)}(r:KV kvs vs):kvs.map (·.1)=vs.map (·.1):=by
 unfold KV at r
 induction r with
 |nil=>rfl
 |cons h t ih=>rw[ba,ba,ih,h.1]
theorem KV.length {kvs:List (κ×V)}{vs:List (κ×Value)}(r:KV kvs vs):kvs.length=vs.length:=Paired.length r
theorem IT(kvs:List (κ×V))(k:κ):(p_ kvs k).length<=kvs.length:=nJ _ _
end
theorem oE{P:Program}{w:World}{k:Key}(r:RelV (kV k) aa):(bC P w).is k aa=true:=by
 cases k with
 |inl i=>obtain⟨t,e⟩:=(show∃t,aa=Value.int i t from r);subst e;exact Bf P w i t
 |inr x=>obtain⟨t,e⟩:=(show∃t,aa=Value.str x t from r);subst e;exact Bg P w x t
theorem yJ:∀{ks:List Key} {us:List Value},Vals (ks.map kV) us->ItemsAre (bC P w) ks us
 |[],_,r=>by rw[lG]at r;cases r;exact .nil
 |k::ks,_,r=>by
  rw[ba]at r;cases r with
  |cons h t=>exact .cons (oE h) (yJ t)
abbrev KT(H:Hp):List (List Key×V)->List (List Key×Addr×Value)->Prop:=Paired fun p q=>p.1=q.1/\H q.2.1=some (.tup (p.1.map kV))/\RelV p.2 q.2.2
theorem KT.val {kvs:List (List Key×V)}{xs:List (List Key×Addr×Value)}(r:KT H kvs xs)(k:List Key):kL (lO kvs k) ((atKey xs k).map (·.2)):=by
 induction r with
 |nil=>exact True.intro
 |@cons p q ps qs h t ih=>
  obtain⟨h1,_,h2⟩:=h;by_cases e:p.1=k
  ·have e':q.1=k:=h1.symm.trans e;have b:atKey (q::qs) k=some q.2:=by simp[atKey,jn,e']
   rw[sA e,b];exact h2
  ·have e':¬q.1=k:=fun z=>e (h1.trans z);have b:atKey (q::qs) k=atKey qs k:=by simp[atKey,jn,e']
   rw[sC e,b];exact ih
theorem KT.Qo {kvs:List (List Key×V)}{xs:List (List Key×Addr×Value)}(r:KT H kvs xs)(k:List Key){y:V}{u:Value}(ry:RelV y u):
  KT H (kvs.map fun kv=>if kv.1=k then(kv.1,y)else kv) (xs.map (putAt k u)):=by
 induction r with
 |nil=>exact .nil
 |@cons p q ps qs h t ih=>
  rw[ba,ba];refine .cons ?_ ih
  obtain⟨h1,h2,h3⟩:=h;unfold putAt;by_cases e:p.1=k
  ·rw[au e,au (h1.symm.trans e)];exact⟨h1,h2,ry⟩
  ·rw[ay e,ay (fun z=>e (h1.trans z))];exact⟨h1,h2,h3⟩
theorem KT.put {kvs:List (List Key×V)}{xs:List (List Key×Addr×Value)}(r:KT H kvs xs)(k:List Key){b:Addr}{y:V}{u:Value}(hb:H b=some (.tup (k.map kV)))(ry:RelV y u):
  KT H (putK kvs k y) (storedH xs k b u):=by
 have e:(kvs.any fun kv=>decide (kv.1=k))=(atKey xs k).isSome:=by
  rw[Br,(r.val k).lP,jl]
 unfold putK storedH;rw[e];by_cases q:(atKey xs k).isSome=true
 ·rw[au q,au q];exact r.Qo k ry
 ·rw[ay q,ay q];exact Paired.snoc r ⟨rfl,hb,ry⟩
theorem KT.keeps {H':Hp}{kvs:List (List Key×V)}{xs:List (List Key×Addr×Value)}(r:KT H kvs xs)(ht:∀b ys,H b=some (.tup ys)->H' b=some (.tup ys)):KT H' kvs xs:=
 Paired.PL r fun _ _ z=>⟨z.1,ht _ _ z.2.1,z.2.2⟩
section
variable {h:Heap}
theorem OM{u:HO}(ok:qK P w H h)(e:Rd H a u):cu P w H h a u:=e.ok ok
theorem sD(ok:qK P w H h)(e:Rd H a (.dK kvs)):kvs.length<=sizeLine/\(a==sysModules)=false/\∃vs,KV kvs vs/\h.DictOf (bC P w) a vs:=
 show cu P w H h a (.dK kvs)from OM ok e
theorem EZ(ok:qK P w H h)(e:H a=some (.dK kvs)):kvs.length<=sizeLine/\(a==sysModules)=false/\∃vs,KV kvs vs/\h.DictOf (bC P w) a vs:=sD ok (.inl e)
theorem qN{ks:List Key}(ok:qK P w H h)(e:H a=some (.tup (ks.map kV))):(tupleKind (bC P w)).is h ks a:=by
 obtain⟨_,bE,r,o,h1,h2,n,h3⟩:=(show cu P w H h a (.tup (ks.map kV))from ok a _ e);exact⟨o,bE.toArray,n,h1,h2,h3,by simpa using yJ r⟩
theorem uB{kvs:List (List Key×V)}(ok:qK P w H h)(e:Rd H a (.dT kvs)):kvs.length<=sizeLine/\(a==sysModules)=false/\
  ∃xs,KT H kvs xs/\h.DictOfH (tupleKind (bC P w)) a xs:=by
 obtain⟨z,y,xs,r,o,es,ep,h1,h2,h3,h4,h5⟩:=(show cu P w H h a (.dT kvs)from OM ok e);refine⟨z,y,xs,r,o,es,ep,h1,h2,h3,h4,fun x hx=>?_,h5⟩;have all:∀{l:List (List Key×V)} {m:List (List Key×Addr×Value)},KT H l m->∀x∈m,(tupleKind (bC P w)).is h x.1 x.2.1:=by
  intro l m q
  induction q with
  |nil=>intro x hx;exact nomatch hx
  |@cons p q ps qs hq t ih=>
   intro x hx;rcases aV.mp hx with e|hx
   ·subst e;exact qN ok (by rw[<-hq.1];exact hq.2.1)
   ·exact ih x hx
 exact all r x hx
theorem US{kvs:List (List Key×V)}(ok:qK P w H h)(e:H a=some (.dT kvs)):kvs.length<=sizeLine/\(a==sysModules)=false/\
  ∃xs,KT H kvs xs/\h.DictOfH (tupleKind (bC P w)) a xs:=uB ok (.inl e)
end
def oF(H:Hp)(a:Addr)(y:V)(r:Option V):Prop:=
 (∃kvs k,Rd H a (.dK kvs)/\y=kV k/\r=lO kvs k)\/∃kvs k b,Rd H a (.dT kvs)/\y=.ref b/\H b=some (.tup (k.map kV))/\r=lO kvs k
def Dz(H:Hp)(a:Addr)(y v:V)(H':Hp):Prop:=
 (∃kvs k,H a=some (.dK kvs)/\y=kV k/\kvs.length<sizeLine/\H'=upd H a (.dK (putK kvs k v)))\/
 ∃kvs k b,H a=some (.dT kvs)/\y=.ref b/\H b=some (.tup (k.map kV))/\kvs.length<sizeLine/\H'=upd H a (.dT (putK kvs k v))
theorem oF.k {H:Hp}{k:Key}(e:H a=some (.dK kvs)):oF H a (kV k) (lO kvs k):=.inl ⟨kvs,k,.inl e,rfl,rfl⟩
theorem oF.t {H:Hp}{b:Addr}{kvs:List (List Key×V)}{k:List Key}(e:H a=some (.dT kvs))(eb:H b=some (.tup (k.map kV))):oF H a (.ref b) (lO kvs k):=.inr ⟨kvs,k,b,.inl e,rfl,eb,rfl⟩
theorem Dz.k {H:Hp}{k:Key}{v:V}(e:H a=some (.dK kvs))(hl:kvs.length<sizeLine):Dz H a (kV k) v (upd H a (.dK (putK kvs k v))):=.inl ⟨kvs,k,e,rfl,hl,rfl⟩
theorem Dz.t {H:Hp}{b:Addr}{kvs:List (List Key×V)}{k:List Key}{v:V}(e:H a=some (.dT kvs))(eb:H b=some (.tup (k.map kV)))(hl:kvs.length<sizeLine):
  Dz H a (.ref b) v (upd H a (.dT (putK kvs k v))):=.inr ⟨kvs,k,b,e,rfl,eb,hl,rfl⟩
section
variable {y v:V}{r:Value}{o:Option V}
theorem Inv.big (I:Inv X U Z H s):sysModules<s.heap.objs.size:=by
 have h:mainGlobals<s.heap.objs.size:=(I.mod.glob.keeps I.bk).lt;exact Nat.lt_trans (by decide) h
theorem GF(hu:A.units+1<cLine)(I:Inv X U Z H s)(g:oF H a y (some v))(ry:RelV y aa)(h:∀w' s',Inv X U Z H s'->RelV v w'->Q w' s'):
  wpAny (model X.prog X.w) A (getItem (.ref a) aa) Q E s:=by
 rcases g with⟨kvs,k,e,ey,l⟩|⟨kvs,k,b,e,ey,eb,l⟩
 ·subst ey;obtain⟨z,hd,vs,rel,dd⟩:=sD I.cp e;obtain⟨w',hw,oA⟩:=kL.some_of (v:=v) (o:=valueAt vs k) (by rw[l];exact rel.val k);exact wpAny_getItem_of (oE ry) dd.mapOf hw (h w' _ (I.tok _) oA)
 ·subst ey;cases(show aa=Value.ref b from ry);obtain⟨z,hd,xs,rel,dd⟩:=uB I.cp e;obtain⟨w',hw,oA⟩:=kL.some_of (v:=v) (o:=(atKey xs k).map (·.2)) (by rw[l];exact rel.val k);obtain⟨p,hp,Mt⟩:=Option.map_eq_some_iff.mp hw;refine wpAny_getItem_heap (lB hu) (qN I.cp eb) dd hp ?_
  rw[Mt];exact h w' _ (I.tok _) oA
theorem Zs(hu:A.units+1<cLine)(I:Inv X U Z H s)(g:oF H a y o)(ry:RelV y aa)(h:∀s',Inv X U Z H s'->Q (.bool o.isSome) s'):
  wpAny (model X.prog X.w) A (compareOp .In aa (.ref a)) Q E s:=by
 rcases g with⟨kvs,k,e,ey,l⟩|⟨kvs,k,b,e,ey,eb,l⟩
 ·subst ey;obtain⟨z,hd,vs,rel,dd⟩:=sD I.cp e;refine wpAny_in_of (oE ry) hd dd.mapOf ?_
  rw[<-(rel.val k).lP,<-l];exact h _ (I.tok _)
 ·subst ey;cases(show aa=Value.ref b from ry);obtain⟨z,hd,xs,rel,dd⟩:=uB I.cp e;refine wpAny_in_heap (lB hu) (qN I.cp eb) hd dd ?_
  have q:=(rel.val k).lP;rw[jl]at q;rw[<-q,<-l];exact h _ (I.tok _)
theorem Mu(hu:A.units+1<cLine)(I:Inv X U Z H s)(g:oF H a y o)(ry:RelV y aa)(h:∀s',Inv X U Z H s'->Q (.bool (!o.isSome)) s'):
  wpAny (model X.prog X.w) A (compareOp .NotIn aa (.ref a)) Q E s:=by
 rcases g with⟨kvs,k,e,ey,l⟩|⟨kvs,k,b,e,ey,eb,l⟩
 ·subst ey;obtain⟨z,hd,vs,rel,dd⟩:=sD I.cp e;refine wpAny_notIn_of (oE ry) hd dd.mapOf ?_
  rw[<-(rel.val k).lP,<-l];exact h _ (I.tok _)
 ·subst ey;cases(show aa=Value.ref b from ry);obtain⟨z,hd,xs,rel,dd⟩:=uB I.cp e;refine wpAny_notIn_heap (lB hu) (qN I.cp eb) hd dd ?_
  have q:=(rel.val k).lP;rw[jl]at q;rw[<-q,<-l];exact h _ (I.tok _)
theorem sE{h':Heap}{ob:HO}(I:Inv X U Z H s)(mu:Uk (H a))(hs:Heap.SameBut a s.heap h')(he:∃q,h'.get? a=some q)(new:cu X.prog X.w (upd H a ob) h' a ob):
  Inv X U Z (upd H a ob) {s with heap:=h',toks:=i}:=
 I.write (x:=a) (e:=a) mu (.inl rfl) (fun b q hb z=>(hs.2 b hb).trans z) he new
theorem wy{h':Heap}{vs:List (Key×Value)}(z:kvs.length<=sizeLine)(hd:(a==sysModules)=false)(rel:KV kvs vs)(dd:h'.DictOf (bC P w) a vs):
  cu P w H h' a (.dK kvs):=⟨z,hd,vs,rel,dd⟩
theorem GG{H':Hp}{Q:Unit->Shared->Prop}(hu:A.units+1<cLine)(I:Inv X U Z H s)(g:Dz H a y v H')(ry:RelV y aa)(rv:RelV v r)(h:∀s',Inv X U Z H' s'->Q () s'):
  wpAny (model X.prog X.w) A (setItem (.ref a) aa r) Q E s:=by
 rcases g with⟨kvs,k,e,ey,l,eH⟩|⟨kvs,k,b,e,ey,eb,l,eH⟩
 ·subst ey eH;obtain⟨z,hd,vs,rel,dd⟩:=EZ I.cp e;have hz:vs.length<=sizeLine:=by rw[<-rel.length];exact z
  have hl:(putK kvs k v).length<=sizeLine:=by have:=oC kvs k v;omega
  refine wpAny_setItem_pairs (hsz:=hz) (oE ry) dd fun h' E1 hs=>h _ ?_
  have he:∃q,h'.get? a=some q:=let⟨q,_,_,hq,_⟩:=E1;⟨q,hq⟩
  exact sE I (by rw[e];exact True.intro) hs he (wy hl hd (rel.put k rv) E1)
 ·subst ey eH;cases(show aa=Value.ref b from ry);obtain⟨z,hd,xs,rel,dd⟩:=US I.cp e;have hz:xs.length<=sizeLine:=by rw[<-Paired.length rel];exact z
  have hl:(putK kvs k v).length<=sizeLine:=by have:=oC kvs k v;omega
  refine wpAny_setItem_heap (hsz:=hz) (lB hu) (qN I.cp eb) dd fun h' E1 hs=>h _ ?_
  obtain⟨q,es,ep,hq,h2,h3,h4,_,h5⟩:=E1;refine sE I (by rw[e];exact True.intro) hs ⟨q,hq⟩ ⟨hl,hd,_,(rel.put k eb rv).keeps fun c ys ec=>?_,q,es,ep,hq,h2,h3,h4,h5⟩;rw[aF (Ui ec e (fun z=>nomatch z))];exact ec
end
section
variable {k:Key}
theorem ON{v:V}{more:List Value}(I:Inv X U Z H s)(e:H a=some (.dK kvs))(ry:RelV (kV k) aa)(l:lO kvs k=some v)(hm:more=[]\/∃x,more=[x])
  (h:∀w' s',Inv X U Z (upd H a (.dK (p_ kvs k))) s'->RelV v w'->Q w' s'):wpAny (model X.prog X.w) A (call (.builtin "dict.pop") (.ref a::aa::more)) Q E s:=by
 obtain⟨z,hd,vs,rel,dd⟩:=EZ I.cp e;obtain⟨w',hw,oA⟩:=kL.some_of (v:=v) (o:=valueAt vs k) (by rw[<-l];exact rel.val k);have hp:(keyPart aa).isSome=true:=by
  cases k with
  |inl i=>obtain⟨t,q⟩:=(show∃t,aa=Value.int i t from ry);subst q;rfl
  |inr x=>obtain⟨t,q⟩:=(show∃t,aa=Value.str x t from ry);subst q;rfl
 have ha:argsOk "dict.pop" ⟨.ref a::aa::more,[]⟩:=by
  rcases hm with q|⟨x,q⟩
  ·subst q;exact PySem.F.args_dict_pop_2 _ _
  ·subst q;exact PySem.F.args_dict_pop_3 _ _ _
 refine iL rn dd.typeIs PySem.F.entry_dict_pop ha (meets_dict_pop_there (bC X.prog X.w) a (oE ry) more hm hp)
  ⟨vs,w',dd,by rw[<-rel.length];exact z,hw,fun h' E1 hs=>h w' _ ?_ oA⟩
 have he:∃q,h'.get? a=some q:=let⟨q,_,_,hq,_⟩:=E1;⟨q,hq⟩
 exact sE I (by rw[e];exact True.intro) hs he (wy (bP (IT kvs k) z) hd (rel.drop k) E1)
theorem Qp{r:Value}(I:Inv X U Z H s)(e:H a=some (.dK kvs))(ry:RelV (kV k) aa)(l:lO kvs k=none)(h:∀s',Inv X U Z H s'->Q r s'):
  wpAny (model X.prog X.w) A (call (.builtin "dict.pop") [.ref a,aa,r]) Q E s:=by
 obtain⟨z,hd,vs,rel,dd⟩:=EZ I.cp e;have hn:valueAt vs k=none:=kL.none_of (by rw[<-l];exact rel.val k);have hp:(keyPart aa).isSome=true:=by
  cases k with
  |inl i=>obtain⟨t,q⟩:=(show∃t,aa=Value.int i t from ry);subst q;rfl
  |inr x=>obtain⟨t,q⟩:=(show∃t,aa=Value.str x t from ry);subst q;rfl
 exact iL rn dd.typeIs PySem.F.entry_dict_pop (PySem.F.args_dict_pop_3 _ _ _) (meets_dict_pop_default (bC X.prog X.w) a (oE ry) hd hp r) ⟨vs,dd,hn,h _ (I.tok _)⟩
theorem UT(I:Inv X U Z H s)(e:Rd H a (.dK kvs))(h:∀t s',Inv X U Z H s'->Q (.int kvs.length t) s'):wpAny (model X.prog X.w) A (call (.builtin "len") [.ref a]) Q E s:=by
 obtain⟨z,hd,vs,rel,dd⟩:=sD I.cp e;refine call_len_dict hd dd (by rw[<-rel.length];rw[c_]at z;omega) ?_
 rw[<-rel.length];exact h _ _ (I.tok _)
end
def Mv(i:Expr):Prop:=∀ov iv,subscripted i false ov iv=operate [ov,iv] (getItem ov iv)
theorem Mw{env:Env}{T id:String}
  (hl:typeLookup (.type T) "__getitem__"=pure (some (.builtin id))) (hs:Mv tg)
  (h:wpAny (model P w) A (eval e env) (fun o cC=>wpAny (model P w) A (eval tg env) (fun i se=>se.TypeIs o T/\wpAny (model P w) A (getItem o i) Q E se) E cC) E s):
  wpAny (model P w) A (eval (.Subscript e tg pos) env) Q E s:=by
 refine Subscript_ (dq h (fun o cC eE=>dq eE (fun i se oG=>?_) fun _ _ x=>x) fun _ _ x=>x);obtain⟨hT,oG⟩:=oG;unfold subscriptTail;refine ak ?_
 rw[getitemInPython_of_ne hT.not_modules];refine ak (wpAny_specialOf hT hl ?_);have fin:wpAny (model P w) A (subscripted tg false o i) (fun r Bs=>wpAny (model P w) A (letTemporaryGo e o r>>=fun _=>pure r) Q E Bs) E se:=by
  rw[hs o i];exact wpAny_operating (dq oG (fun r Bs yn=>ak (wpAny_letTemporaryGo (aC yn))) fun _ _ x=>x)
 first
  |exact aC (ak fin)
  |exact ak (aC (ak fin))
  |exact ak fin
theorem Bt{y:V}{o:Option V}(I:Inv X U Z H s)(g:oF H a y o):s.TypeIs (.ref a) "dict":=by
 rcases g with⟨kvs,k,e,_,_⟩|⟨kvs,k,b,e,_,_,_⟩
 ·obtain⟨_,_,vs,_,dd⟩:=sD I.cp e;exact dd.typeIs
 ·obtain⟨_,_,xs,_,dd⟩:=uB I.cp e;exact dd.typeIs
def UU(td ty tv:TE):TS:=fun D Z H=>tv Z H fun v H1=>td Z H1 fun x H2=>ty Z H2 fun y H3=>∃a H4,x=.ref a/\Dz H3 a y v H4/\D.nx Z H4
section
variable {td ty tv:TE}
theorem Mx(hu:X.A.units+1<cLine)(ho:PE X o td)(hi:PE X e ty)(hv:PE X tg tv)(hs:swapsWith tg (some (.Subscript o e p)) pos.line X.env=pure false):
  PS X (.Assign [.Subscript o e p] tg pos) (UU td ty tv):=by
 intro U s Z H D I h;refine wpAny_Assign_Subscript (dA (hv U s Z H _ I h) fun r s1 ⟨v,H1,I1,rv,q1⟩=>dA (ho U s1 Z H1 _ I1 q1) fun u s2 ⟨x,H2,I2,rx,q2⟩=>dA (hi U s2 Z H2 _ I2 q2) fun iv s3 ⟨y,H3,I3,ry,a,H4,ex,g,q3⟩=>?_) hs;subst ex;obtain rfl:u=Value.ref a:=rx;exact GG hu I3 g ry rv fun s4 I4=>⟨Z,H4,I4,q3⟩
end
theorem Bu(h:Heap)(hb:sysModules<h.objs.size):cu P w H (h.push {cls:=.type "dict",data:=.dict #[]}) h.objs.size (.dK []):=
 ⟨dF _,iw.mpr (Ne.symm (bu hb)),[],.nil,Heap.DictOf.new h⟩
def Qq:TE:=fun _ H Q=>∀p,H p=none->Q (.ref p) (upd H p (.dK []))
theorem IU:PE X (.Dict [] [] pos) Qq:=fun U s Z H Q I h=>
 wpAny_Dict_empty ⟨.ref s.heap.objs.size,_,I.laid (a:=s.heap.objs.size) (o:=.dK []) (t':=s.toks) (fun _ _ q=>bh _ q) (aQ _) (Bu s.heap I.big),rfl,h _ (I.cp.fresh (aQ _))⟩
def wz:List (TE×TE)->St->Hp->(List (V×V)->Hp->Prop)->Prop
 |[],_,H,Q=>Q [] H
 |(tk,tv)::r,Z,H,Q=>tk Z H fun x H1=>tv Z H1 fun y H2=>wz r Z H2 fun ps H3=>Q ((x,y)::ps) H3
abbrev VV:List (V×V)->List (Value×Value)->Prop:=Paired fun p q=>RelV p.1 q.1/\RelV p.2 q.2
def TL(X:Cx)(pos:Pos)(keys:List (Option Expr))(values:List Expr)(zO:List (TE×TE)):Prop:=
 ∀(U:List (Addr×Obj)) (s:Shared) (Z:St) (H:Hp) (Q:List (V×V)->Hp->Prop),Inv X U Z H s->wz zO Z H Q->
  wpAny (model X.prog X.w) X.A (evalPairs (pairTrees keys values X.env pos)) (fun vs s'=>∃ps H',Inv X U Z H' s'/\VV ps vs/\Q ps H') X.xe s
theorem E2:TL X pos [] [] []:=fun U s Z H Q I h=>pairTrees_nil_walk ⟨[],H,I,.nil,h⟩
theorem Bv{ks:List (Option Expr)}{tk tv:TE}{zO:List (TE×TE)}(hk:PE X e tk)(hv:PE X o tv)(hr:TL X pos ks es zO):
  TL X pos (some e::ks) (o::es) ((tk,tv)::zO):=fun U s Z H Q I h=>
 pairTrees_cons_walk (dA (hk U s Z H _ I h) fun u s1 ⟨x,H1,I1,rx,q1⟩=>dA (hv U s1 Z H1 _ I1 q1) fun w2 s2 ⟨y,H2,I2,ry,q2⟩=>
  dA (hr U s2 Z H2 _ I2 q2) fun ws s3 ⟨ps,H3,I3,rel,q3⟩=>⟨(x,y)::ps,H3,I3,.cons ⟨rx,ry⟩ rel,q3⟩)
def hJ(kvs more:List (Key×V)):List (Key×V):=more.foldl (fun acc kv=>putK acc kv.1 kv.2) kvs
theorem KV.merge:∀{more:List (Key×V)} {rs:List (Key×Value)} {kvs:List (Key×V)} {vs:List (Key×Value)},KV more rs->KV kvs vs->KV (hJ kvs more) (merged vs rs):=by
 intro more rs kvs vs r;unfold KV at r
 induction r generalizing kvs vs with
 |nil=>intro q;exact q
 |@cons p q ps qs h t ih=>
  intro r0;have e:KV (putK kvs p.1 p.2) (stored vs q.1 q.2):=by
   have:=r0.put p.1 h.2;rw[<-h.1];exact this
  exact ih e
theorem iB:∀(more kvs:List (Key×V)),(hJ kvs more).length<=kvs.length+more.length
 |[],kvs=>by show kvs.length<=kvs.length+0;omega
 |p::r,kvs=>by
  have h1:=iB r (putK kvs p.1 p.2);have h2:=oC kvs p.1 p.2;show(hJ (putK kvs p.1 p.2) r).length<=_;rw[cG];omega
theorem wA{P:Program}{w:World}:∀{kvs:List (Key×V)} {ws:List (Value×Value)},VV (kvs.map fun kv=>(kV kv.1,kv.2)) ws->∃rs,Carries (bC P w) ws rs/\KV kvs rs
 |[],_,r=>by rw[lG]at r;cases r;exact⟨[],True.intro,.nil⟩
 |p::kvs,_,r=>by
  rw[ba]at r;cases r with
  |@cons a b as bs h t=>
   obtain⟨rs,c,q⟩:=wA (P:=P) (w:=w) t;obtain⟨b1,b2⟩:=b;exact⟨(p.1,b2)::rs,⟨oE h.1,rfl,c⟩,.cons ⟨rfl,h.2⟩ q⟩
def UW(zO:List (TE×TE)):TE:=fun Z H Q=>∀p,H p=none->wz zO Z (upd H p (.dK [])) fun ps H2=>H2 p=some (.dK [])/\∃kvs:List (Key×V),ps=kvs.map (fun kv=>(kV kv.1,kv.2))/\kvs.length<=15/\Q (.ref p) (upd H2 p (.dK (hJ [] kvs)))
theorem E3{keys:List (Option Expr)}{zO:List (TE×TE)}(h:TL X pos keys es zO)(tY:keys.all (·.isSome)=true)(hl:keys.length=es.length)(h0:keys≠[])
  (My:keys.length<=15):PE X (.Dict keys es pos) (UW zO):=by
 intro U s Z H Q I q;have hn:=I.cp.fresh (aQ s.heap.objs.size);have I1:=I.laid (a:=s.heap.objs.size) (o:=.dK []) (h':=s.heap.push {cls:=.type "dict",data:=.dict #[]}) (t':=s.toks) (fun _ _ q=>bh _ q) (aQ _) (Bu s.heap I.big);refine wpAny_Dict_walk (knd:=bC X.prog X.w) tY hl h0 My (dA (h U _ Z _ _ I1 (q _ hn)) fun ws s2 ⟨ps,H2,I2,rel,e,kvs,ep,lk,q2⟩=>?_);subst ep;obtain⟨rs,c,rk⟩:=wA (P:=X.prog) (w:=X.w) rel;obtain⟨z,hd,vs0,r0,dd⟩:=EZ I2.cp e;cases r0;refine⟨rs,c,dd,fun h' E1 hs=>⟨.ref s.heap.objs.size,_,?_,rfl,q2⟩⟩;have hz:(hJ [] kvs).length<=sizeLine:=by
  have h1:=iB kvs [];rw[v5]at h1;rw[c_];omega
 have he:∃q,h'.get? s.heap.objs.size=some q:=let⟨q,_,_,hq,_⟩:=E1;⟨q,hq⟩
 exact sE I2 (by rw[e];exact True.intro) hs he (wy hz hd (rk.merge .nil) E1)
structure M1(X:Cx)(o:Expr)(m:Str)(b8:Pos)(e:Expr)(cN:Pos):Prop where
 base:attributeBase o m X.env (eval o X.env)=eval o X.env
 UX:((backTo cN (starEach [e] X.env)).all (fun x=>!x.1)&&(backToKw cN (keywordEach [] X.env)).all (fun x=>x.1.isSome)
  &&decide (([e]:List Expr).length+([]:List Keyword).length+(if([]:List Keyword).isEmpty then 0 else 1)<30))=true
 line:(b8.endLine==cN.line)=true
 trees:backTo cN (starEach [e] X.env)=[(false,eval e X.env)]
structure M2(X:Cx)(o:Expr)(m:Str)(b8:Pos)(e f:Expr)(cN:Pos):Prop where
 base:attributeBase o m X.env (eval o X.env)=eval o X.env
 UX:((backTo cN (starEach [e,f] X.env)).all (fun x=>!x.1)&&(backToKw cN (keywordEach [] X.env)).all (fun x=>x.1.isSome)
  &&decide (([e,f]:List Expr).length+([]:List Keyword).length+(if([]:List Keyword).isEmpty then 0 else 1)<30))=true
 line:(b8.endLine==cN.line)=true
 trees:backTo cN (starEach [e,f] X.env)=[(false,eval e X.env),(false,eval f X.env)]
def UY(H:Hp)(a:Addr):Prop:=(∃kvs,Rd H a (.dK kvs))\/∃kvs,Rd H a (.dT kvs)
theorem zP(I:Inv X U Z H s)(d:UY H a):
  s.TypeIs (.ref a) "dict"/\(∀b,Value.ref a=.ref b->∃ob,s.heap.get? b=some ob/\ob.dict=none)/\(a==sysModules)=false:=by
 rcases d with⟨kvs,e⟩|⟨kvs,e⟩
 ·obtain⟨_,hd,vs,_,dd⟩:=sD I.cp e;refine⟨dd.typeIs,fun b q=>?_,hd⟩;cases q;obtain⟨ob,_,_,h1,h2,_⟩:=dd;exact⟨ob,h1,h2.2.1⟩
 ·obtain⟨_,hd,xs,_,dd⟩:=uB I.cp e;refine⟨dd.typeIs,fun b q=>?_,hd⟩;cases q;obtain⟨ob,_,_,h1,h2,_⟩:=dd;exact⟨ob,h1,h2.2.1⟩
section
variable {y d:V}{r:Value}{o:Option V}
theorem Qr(hu:A.units+1<cLine)(I:Inv X U Z H s)(g:oF H a y o)(ry:RelV y aa)(h:∀w' s',Inv X U Z H s'->RelV (o.getD .bO) w'->Q w' s'):
  wpAny (model X.prog X.w) A (call (.builtin "dict.get") [.ref a,aa]) Q E s:=by
 rcases g with⟨kvs,k,e,ey,l⟩|⟨kvs,k,b,e,ey,eb,l⟩
 ·subst ey;obtain⟨z,hd,vs,rel,dd⟩:=sD I.cp e;refine iL pD dd.typeIs rj (PySem.F.args_dict_get_2 _ _) (meets_dict_get (bC X.prog X.w) a (oE ry) hd) ⟨_,dd.mapOf,h _ _ (I.tok _) ?_⟩;rw[l];exact(rel.val k).getD rfl
 ·subst ey;cases(show aa=Value.ref b from ry);obtain⟨z,hd,xs,rel,dd⟩:=uB I.cp e;refine iL pD dd.typeIs rj (PySem.F.args_dict_get_2 _ _) (meetsH_dict_get (tupleKind (bC X.prog X.w)) a b hd) ⟨lB hu,k,xs,qN I.cp eb,dd,h _ _ (I.tok _) ?_⟩;rw[l];exact(rel.val k).getD rfl
theorem Qs(hu:A.units+1<cLine)(I:Inv X U Z H s)(g:oF H a y o)(ry:RelV y aa)(rd:RelV d r)(h:∀w' s',Inv X U Z H s'->RelV (o.getD d) w'->Q w' s'):
  wpAny (model X.prog X.w) A (call (.builtin "dict.get") [.ref a,aa,r]) Q E s:=by
 rcases g with⟨kvs,k,e,ey,l⟩|⟨kvs,k,b,e,ey,eb,l⟩
 ·subst ey;obtain⟨z,hd,vs,rel,dd⟩:=sD I.cp e;refine iL pD dd.typeIs rj (PySem.F.args_dict_get_3 _ _ _) (meets_dict_get_default (bC X.prog X.w) a (oE ry) hd r) ⟨_,dd.mapOf,h _ _ (I.tok _) ?_⟩;rw[l];exact(rel.val k).getD rd
 ·subst ey;cases(show aa=Value.ref b from ry);obtain⟨z,hd,xs,rel,dd⟩:=uB I.cp e;refine iL pD dd.typeIs rj (PySem.F.args_dict_get_3 _ _ _) (meetsH_dict_get_default (tupleKind (bC X.prog X.w)) a b hd r) ⟨lB hu,k,xs,qN I.cp eb,dd,h _ _ (I.tok _) ?_⟩;rw[l];exact(rel.val k).getD rd
end
def Qt(td ty:TE):TE:=fun Z H Q=>td Z H fun x H1=>∃a,x=.ref a/\UY H1 a/\ty Z H1 fun y H2=>∃o,oF H2 a y o/\Q (o.getD .bO) H2
def Qu(td ty tx:TE):TE:=fun Z H Q=>td Z H fun x H1=>∃a,x=.ref a/\UY H1 a/\ty Z H1 fun y H2=>tx Z H2 fun z H3=>∃o,oF H3 a y o/\Q (o.getD z) H3
def Qv(td ty:TE):TE:=fun Z H Q=>td Z H fun x H1=>∃a,x=.ref a/\UY H1 a/\ty Z H1 fun y H2=>∃kvs k v,H2 a=some (.dK kvs)/\y=kV k/\lO kvs k=some v/\Q v (upd H2 a (.dK (p_ kvs k)))
def Qw(td ty tx:TE):TE:=fun Z H Q=>td Z H fun x H1=>∃a,x=.ref a/\UY H1 a/\ty Z H1 fun y H2=>tx Z H2 fun z H3=>∃kvs k,H3 a=some (.dK kvs)/\y=kV k/\
 (∀v,lO kvs k=some v->Q v (upd H3 a (.dK (p_ kvs k))))/\(lO kvs k=none->Q z H3)
section
variable {td ty tx:TE}
theorem IV(hu:X.A.units+1<cLine)(ho:PE X o td)(he:PE X e ty)(m:M1 X o "get" b8 e p):PE X (.Call (.Attribute o "get" b8) [e] [] p) (Qt td ty):=by
 intro U s Z H Q I h;refine rM m.base m.UX m.line pB pD PySem.F.type_dict_get (dA (ho U s Z H _ I h) fun u s1 ⟨x,H1,I1,rx,a,ex,d,q1⟩=>?_);subst ex;obtain rfl:u=Value.ref a:=rx;obtain⟨t1,t2,_⟩:=zP I1 d;refine⟨t1,t2,?_⟩;rw[m.trees];refine mr rfl (my (jK (dA (he U s1 Z H1 _ I1 q1) fun iv s2 ⟨y,H2,I2,ry,ov,g,q2⟩=>nW ?_)));exact Qr hu I2 g ry fun w' s3 I3 oA=>⟨_,H2,I3,oA,q2⟩
theorem IW(hu:X.A.units+1<cLine)(ho:PE X o td)(he:PE X e ty)(hf:PE X tg tx)(m:M2 X o "get" b8 e tg p):PE X (.Call (.Attribute o "get" b8) [e,tg] [] p) (Qu td ty tx):=by
 intro U s Z H Q I h;refine rM m.base m.UX m.line pB pD PySem.F.type_dict_get (dA (ho U s Z H _ I h) fun u s1 ⟨x,H1,I1,rx,a,ex,d,q1⟩=>?_);subst ex;obtain rfl:u=Value.ref a:=rx;obtain⟨t1,t2,_⟩:=zP I1 d;refine⟨t1,t2,?_⟩;rw[m.trees];refine mr rfl (my (jK (dA (he U s1 Z H1 _ I1 q1) fun iv s2 ⟨y,H2,I2,ry,q2⟩=>
  jK (dA (hf U s2 Z H2 _ I2 q2) fun fv s3 ⟨z,H3,I3,rz,ov,g,q3⟩=>nW ?_))))
 exact Qs hu I3 g ry rz fun w' s4 I4 oA=>⟨_,H3,I4,oA,q3⟩
theorem IX(ho:PE X o td)(he:PE X e ty)(m:M1 X o "pop" b8 e p):PE X (.Call (.Attribute o "pop" b8) [e] [] p) (Qv td ty):=by
 intro U s Z H Q I h;refine rM m.base m.UX m.line pB rn PySem.F.type_dict_pop (dA (ho U s Z H _ I h) fun u s1 ⟨x,H1,I1,rx,a,ex,d,q1⟩=>?_);subst ex;obtain rfl:u=Value.ref a:=rx;obtain⟨t1,t2,_⟩:=zP I1 d;refine⟨t1,t2,?_⟩;rw[m.trees];refine mr rfl (my (jK (dA (he U s1 Z H1 _ I1 q1) fun iv s2 ⟨y,H2,I2,ry,kvs,k,v,ea,ey,l,q2⟩=>nW ?_)));subst ey;exact ON I2 ea ry l (.inl rfl) fun w' s3 I3 oA=>⟨v,_,I3,oA,q2⟩
theorem IY(ho:PE X o td)(he:PE X e ty)(hf:PE X tg tx)(m:M2 X o "pop" b8 e tg p):PE X (.Call (.Attribute o "pop" b8) [e,tg] [] p) (Qw td ty tx):=by
 intro U s Z H Q I h;refine rM m.base m.UX m.line pB rn PySem.F.type_dict_pop (dA (ho U s Z H _ I h) fun u s1 ⟨x,H1,I1,rx,a,ex,d,q1⟩=>?_);subst ex;obtain rfl:u=Value.ref a:=rx;obtain⟨t1,t2,_⟩:=zP I1 d;refine⟨t1,t2,?_⟩;rw[m.trees];refine mr rfl (my (jK (dA (he U s1 Z H1 _ I1 q1) fun iv s2 ⟨y,H2,I2,ry,q2⟩=>
  jK (dA (hf U s2 Z H2 _ I2 q2) fun fv s3 ⟨z,H3,I3,rz,kvs,k,ea,ey,q3,q4⟩=>nW ?_))))
 subst ey;cases l:lO kvs k with
 |some v=>exact ON I3 ea ry l (.inr ⟨fv,rfl⟩) fun w' s4 I4 oA=>⟨v,_,I4,oA,q3 v l⟩
 |none=>exact Qp I3 ea ry l fun s4 I4=>⟨z,H3,I4,rz,q4 l⟩
end
theorem yK:∀{vs:List Value} {ns:List Int},IntsAre vs ns->Vals (ns.map V.int) vs
 |_,_,.nil=>.nil
 |_,_,.cons n t h=>.cons ⟨t,rfl⟩ (yK h)
def Qx(H:Hp):Prop:=∀b,H b=none\/∃o xs,H b=some (.kg o (.lst xs))
theorem IZ{mb:Str->Option Value}{CX:Bl}{fd:FuncData}{sp:Sp}{cC:Shared}{vs:List Value}{ns:List Int}
  (KX:K.In cC.heap) (Qy:cC.heap.Ns mainGlobals mg) (hb:cC.heap.Ns builtinsNs mb) (hbb:∀x:Str,x≠"__name__"->mb x=bootBuiltins x) (Zt:cC.heap.NoLimit) (hg:cC.gens=#[])
  (ha:cC.heap.get? a=some {cls:=.type "list",data:=.seq vs.toArray}) (hi:IntsAre vs ns) (hl:ns.length<=sizeLine) (hr:cz i callerA)
  (F:∀base:Heap,K.In base->base.Ns mainGlobals mg->dw P w K mg base CX i ae fd [x] sp) (UZ:∀(s:Shared) (u:Value),BindsTo s fd ⟨[u],[]⟩ [(x,u)])
  (IM:∀H:Hp,Qx H->kB K H a (ns.map V.int)->sp [.ref a] H (fun v _=>v=.bl true) fun _ _ _=>False)
  (Zu:∀H e s',CX [] H cC (fun _ _ _=>False) e s'->False):
  codeAny (model P w) callerA (.call (.ref ae) ⟨[.ref a],[]⟩) (fun r s'=>r=.ok (.ret (.bool true))/\OldK cC.heap s'.heap/\s'.os=cC.os/\AllBare s'.gens) cC:=by
 have rv:=yK hi;have Zv:=hi.length;have core:∀H:Hp,Qx H->kB K H a (ns.map V.int)->qK P w H cC.heap->(∀b,H b≠none->b=a)->(H a≠none->K.lookup a=none)->
   codeAny (model P w) callerA (.call (.ref ae) ⟨[.ref a],[]⟩) (fun r s'=>r=.ok (.ret (.bool true))/\OldK cC.heap s'.heap/\s'.os=cC.os/\AllBare s'.gens) cC:=by
  intro H hO hS cp hA hK;have E4:∀{b:Addr} {o:Obj},cC.heap.get? b=some o->H b=none->(zD cC.heap H).get? b=some o:=fun e n=>Ii e n;have UM:∀{b:Addr} {o:Obj} {es:Array DictEntry} {ep:Nat},cC.heap.get? b=some o->o.data=.dict es ep->H b=none:=fun{b o es ep} e d=>by
   cases q:H b with
   |none=>rfl
   |some u=>
    have e':b=a:=hA b (by rw[q];simp);subst e';rw[ha]at e;cases e;have d':Data.seq vs.toArray _=Data.dict es ep:=d;cases d'
  have Yo:∀{b:Addr} {m:Str->Option Value},cC.heap.Ns b m->(zD cC.heap H).Ns b m:=fun{b m} ⟨o,es,ep,e,d,r⟩=>⟨o,es,ep,E4 e (UM e d),d,r⟩;have hKb:K.In (zD cC.heap H):=fun b o e=>E4 (KX b o e) (by
   cases q:H b with
   |none=>rfl
   |some u=>
    have e':b=a:=hA b (by rw[q];simp);subst e';rw[hK (by rw[q];simp)]at e;cases e)
  have hM:Mod K mg (zD cC.heap H):=⟨hKb,Yo Qy,⟨mb,Yo hb,hbb⟩,let⟨mc,h1,h2⟩:=Zt;⟨mc,Yo h1,h2⟩⟩;have e0:yk P w K mg (zD cC.heap H) callerA [] cC H:=⟨rfl,hM,fun b o e=>L5 e,Nat.le_of_eq (Gq _ _),trivial,fun b hb=>absurd (show b∈([]:List Addr)from hb) (by simp),cp,.of_eq hg⟩;refine gH ((F _ hKb (Yo Qy)).run callerA [] cC H ⟨[.ref a],[]⟩ [.ref a] [.ref a] _ _ hr e0 (UZ cC (.ref a)) (.cons rfl .nil) (IM H hO hS)) fun r s' h=>?_
  cases r with
  |error e=>exact(Zu H e s' h).elim
  |ok fl=>
   cases fl with
   |next=>exact False.elim h
   |brk=>exact False.elim h
   |cont=>exact False.elim h
   |ret u=>
    obtain⟨v,H',os,bare,un,Zw,r',q⟩:=h;have q':v=.bl true:=q;subst q';obtain rfl:u=Value.bool true:=r';refine⟨rfl,OldK.of_keep fun b o e=>?_,os,bare⟩;cases q:H b with
    |none=>exact un.keep b o e q (by intro z;exact absurd (show b∈([]:List Addr)from z) (by simp)) (by simp)
    |some u=>
     rcases hO b with z|⟨ob,xs,z⟩
     ·rw[q]at z;cases z
     ·have z2:=un.ki b ob _ z;obtain⟨e1,_⟩:=cp b _ z;obtain⟨e2,_⟩:=Zw b _ z2;rw[e]at e1;cases e1;exact e2
 cases hk:K.lookup a with
 |some o=>
  have e:=KX a o hk;rw[ha]at e;cases e;refine core (fun _=>none) (fun _=>.inl rfl) (.inr ⟨_,vs.toArray,_,hk,rfl,rfl,rfl,by rw[cn,Zv];exact hl,by simpa using rv⟩) (fun b u z=>by have z':(none:Option HO)=some u:=z;cases z') (fun b z=>absurd rfl z) fun z=>absurd rfl z
 |none=>
  refine core (fun b=>if b=a then some (.kg {cls:=.type "list",data:=.seq vs.toArray} (.lst (ns.map V.int)))else none) (fun b=>?_) (.inl (.inr ⟨{cls:=.type "list",data:=.seq vs.toArray},au rfl⟩)) (fun b u z=>?_) (fun b z=>?_) fun _=>hk
  ·by_cases hb:b=a
   ·exact .inr ⟨_,_,au hb⟩
   ·exact .inl (ay hb)
  ·by_cases hb:b=a
   ·have z':=(au hb).symm.trans z;cases z';subst hb;exact⟨ha,by rw[aK];exact hl,vs,_,rv,ha⟩
   ·have z':=(ay hb).symm.trans z;cases z'
  ·by_cases hb:b=a
   ·exact hb
   ·exact absurd (ay hb) z
theorem Mz{l:PySem.W.OpenLaw}{n k:Nat}{XP:(Str->Option Value)->Heap->Prop}{YP:World->Heap->Prop}{d:DefRec}{K:Params->Frag}{CX:World->Bl}{sp:World->Sp}{x:Str}
  (hn:l.most=some n) (P':n<=sizeLine) (Ud:d.params.defaults=[]) (hr:cz k callerA)
  (hY:∀(w:World) (h:Heap),YP w h->(K w.params).In h)
  (F:∀(w:World) (mg:Str->Option Value) (fa:Addr) (h:Heap),(K w.params).In h->h.Ns mainGlobals mg->mg d.name=some (.ref fa)->
   ∃fd:FuncData,(∀(s:Shared) (u:Value),BindsTo s fd ⟨[u],[]⟩ [(x,u)])/\
    ∀base:Heap,(K w.params).In base->base.Ns mainGlobals mg->dw l.prog w (K w.params) mg base (CX w) k fa fd [x] (sp w))
  (IM:∀(w:World) (H:Hp) (a:Addr) (ns:List Int),ns.length<=n->Qx H->kB (K w.params) H a (ns.map V.int)->sp w [.ref a] H (fun v _=>v=.bl true) fun _ _ _=>False)
  (Zu:∀(w:World) (H:Hp) (s:Shared) (e:Value) (s':Shared),CX w [] H s (fun _ _ _=>False) e s'->False):
  PySem.W.WalkO P ps XP YP l.row.toRowW d [] (fun f vs=>PySem.call f vs):=by
 refine Att.Be hn Ud fun w fq cC mg mb fa o pm cd doc a vs ns G ρ ho hd Dk Ue Pz hints b9 hg=>?_
 have KX:=hY w _ ρ;obtain⟨fd,hb,hF⟩:=F w mg fa _ KX G.T.g Ue;exact IZ KX G.T.g G.T.b G.T.builtins G.T.nolimit hg Pz hints (bP b9 P') hr hF hb (fun H hO hS=>IM w H a ns b9 hO hS) fun H e s'=>Zu w H cC e s'
def vi(s:Stmt):Arguments:=match s with
 |.FunctionDef _ a _ _ _ _ _ _ _ _=>a
 |_=>{posonlyargs:=[],args:=[],vararg:=none,kwonlyargs:=[],kw_defaults:=[],kwarg:=none,defaults:=[]}
def eW(s:Stmt):List Stmt:=match s with
 |.FunctionDef _ _ b _ _ _ _ _ _ _=>b
 |_=>[]
def aW(s:Stmt):Scope:=match s with
 |.FunctionDef _ _ _ _ _ _ sc _ _ _=>sc
 |_=>{kind:=.function,names:=[],isGenerator:=false,isCoroutine:=false}
abbrev lq:Bl:=fun _ _ _ _ _ _=>False
abbrev E0:XK:=fun _ _ _=>False
theorem I0:Passes lq X E0:=fun _ _ _ _ _ _ _ h=>h.elim
structure yf(K:Frag)(x qual:Str)(st:Stmt)(f:Addr)(fd:FuncData):Prop where
 ex:∃(oc:Value) (od:Option Addr) (kV doc pm:Value) (an:Option Addr) (eY ct:Value) (IL:Array (Option Value)),
  fd=PySem.W.fnOf x qual (vi st) (eW st) (aW st) .none kV doc pm an eY ct/\K.lookup f=some ⟨oc,od,.func fd,IL⟩/\PySem.W.codeIn K eY qual=true
 kp:PySem.W.keepIn K (.ref f)=true
section
variable {base:Heap}
theorem yf.ok {qual:Str}{st:Stmt}{f:Addr}{fd:FuncData}{N:List Str}{k:Nat}{sp:Sp}(F:yf K x qual st f fd)(S:gc N ps (aW st))(len:∀vs H Q E,sp vs H Q E->vs.length=ps.length)
  (jV:∀(eY:Value) (A:Around) (outer:List Env) (s:Shared) (H:Hp) (vs:List V) (Q:VK) (E:XK),cz k (A.deeper (envOfC qual (aW st) s.heap.objs.size f eY))->sp vs H Q E->
   ∃t,nC (nz lq P w K mg base N qual (aW st) f eY A outer s H E).HZ (eW st) t/\t {nx:=fun _ H'=>Q .bO H',rt:=Q} (start N vs) H):dw P w K mg base lq (k+1) f fd ps sp:=by
 obtain⟨oc,od,kV,doc,pm,an,eY,ct,IL,rfl,lk,Dk⟩:=F.ex;refine OJ lk Dk S len fun A outer s H vs Q E hr IM=>?_
 obtain⟨t,h,q⟩:=jV eY A outer s H vs Q E hr IM;exact⟨t,h.HZ,q⟩
theorem yf.binds {qual:Str}{st:Stmt}{f:Addr}{fd:FuncData}(F:yf K x qual st f fd)
  (h:∀(kV doc pm:Value) (an:Option Addr) (eY ct:Value) (us:List Value),us.length=ps.length->bindArgs (PySem.W.fnOf x qual (vi st) (eW st) (aW st) .none kV doc pm an eY ct) ⟨us,[]⟩=pure (ps.zip us)):Binds K fd ps []:=by
 obtain⟨oc,od,kV,doc,pm,an,eY,ct,IL,rfl,lk,Dk⟩:=F.ex;exact .all (h kV doc pm an eY ct)
end
theorem aA(hr:cz i A):A.units+1<cLine:=rD (Nat.add_le_add_left (by decide:1<=64) _) hr.units
theorem Qz{A B:Prop}(h:B):if false=true then A else B:=by
 rw[ay eR];exact h
theorem QC{A B:Prop}(h:A):if true=true then A else B:=by
 rw[au rfl];exact h
def aE(H H':Hp):Prop:=∀b o,H b=some o->H' b=some o
theorem aE.refl (H:Hp):aE H H:=fun _ _ h=>h
theorem aE.trans {H1 H2:Hp}(a:aE H H1)(b:aE H1 H2):aE H H2:=fun c o h=>b c o (a c o h)
theorem aE.free {H':Hp}(e:aE H H'){l:Addr}(h:H' l=Option.none):H l=Option.none:=by
 cases q:H l with
 |none=>rfl
 |some o=>
  rw[e l o q]at h;cases h
theorem aE.seq {H':Hp}{xs:List V}(e:aE H H')(h:kB K H a xs):kB K H' a xs:=by
 rcases h with(h|⟨o,h⟩)|h
 ·exact .inl (.inl (e _ _ h))
 ·exact .inl (.inr ⟨o,e _ _ h⟩)
 ·exact .inr h
theorem wB{α β:Type}{f:α->β->Sem (ForInStep β)}{g:β->α->β}:∀(l:List α) (c:β),(∀x∈l,∀c,f x c=pure (.yield (g c x)))->forIn l c f=(pure (l.foldl g c):Sem β)
 |[],c,_=>rfl
 |x::l,c,h=>by
  rw[nX,h x bM,pure_bind];exact wB l _ fun y hy=>h y (bF _ hy)
def kN(env:Env)(cs:List (Str×Addr))(x:Str×NameKind):List (Str×Addr):=if x.2== .free then(x.1,(env.cells.lookup x.1).getD 0)::cs else cs
def DA(scope:Scope)(env:Env):List (Str×Addr):=scope.names.foldl (kN env) []
theorem sF{scope:Scope}{env:Env}(h:∀x∈scope.names,x.2=.free->∃c,env.cells.lookup x.1=some c):closureFor scope env=pure (DA scope env):=by
 simp only[closureFor];rw[wB (g:=kN env) scope.names [] (fun x hx c=>by
  obtain⟨n,k⟩:=x;by_cases hk:k=.free
  ·subst hk;obtain⟨a,ha⟩:=h _ hx rfl;have kO:env.cells.lookup n=some a:=ha;simp[cellOf,kO,kN]
  ·have e:(k==NameKind.free)=false:=by simpa using hk
   simp[e,kN])]
 rfl
theorem wC{env:Env}:∀(names:List (Str×NameKind)) (acc:List (Str×Addr)),(∀x∈names,x.2=.free->∃c,env.cells.lookup x.1=some c)->(∀x c,acc.lookup x=some c->env.cells.lookup x=some c)->
  ∀x c,(names.foldl (kN env) acc).lookup x=some c->env.cells.lookup x=some c
 |[],_,_,ha,x,c,e=>ha x c e
 |(n,k)::r,acc,hf,ha,x,c,e=>by
  refine wC r (kN env acc (n,k)) (fun y hy=>hf y (bF _ hy)) (fun y d ed=>?_) x c e;unfold kN at ed;by_cases hk:k=.free
  ·subst hk;obtain⟨a,hn⟩:=hf (n,.free) bM rfl;have OB:env.cells.lookup n=some a:=hn;simp only[bB,bT,OB,nU,bX]at ed;split at ed
   ·rename_i hy;have:y=n:=by simpa using hy
    subst this;rw[OB];exact ed
   ·exact ha y d ed
  ·have e:(k==NameKind.free)=false:=by simpa using hk
   simp only[e,cA,bJ]at ed;exact ha y d ed
theorem wD{env:Env}:∀(names:List (Str×NameKind)) (acc:List (Str×Addr)) (x:Str),((acc.lookup x).isSome=true\/(x,NameKind.free)∈names)->((names.foldl (kN env) acc).lookup x).isSome=true
 |[],_,_,h=>h.elim (fun z=>z) fun z=>absurd z (by simp)
 |(n,k)::r,acc,x,h=>by
  refine wD r (kN env acc (n,k)) x ?_
  unfold kN;rcases h with h|h
  ·left;split
   ·rw[bX];split<;>simp_all
   ·exact h
  ·rcases aV.mp h with h|h
   ·left;cases h;simp[bX]
   ·exact .inr h
theorem qO{env:Env}:∀{names:List (Str×NameKind)} {x:Str} {k:NameKind},(names.map fun(n,k)=>if(k==NameKind.free&&env.scope.kind== .function&&env.kindOf n==some .cell)then(n,NameKind.cell)else(n,k)).lookup x=some k->
  names.lookup x=some k\/names.lookup x=some .free
 |[],_,_,h=>by simp at h
 |(n,j)::r,x,k,h=>by
  simp only[ba]at h;by_cases hx:x=n
  ·subst hx;by_cases hc:(j==NameKind.free&&env.scope.kind== .function&&env.kindOf x==some .cell)=true
   ·rw[au hc]at h;simp only[bp,dZ]at hc;right;rw[bX,bB,hc.1.1]
   ·rw[ay hc]at h;left;rw[bX,bB]at h⊢;exact h
  ·have e:(x==n)=false:=by simpa using hx
   have h':(r.map fun(n,k)=>if(k==NameKind.free&&env.scope.kind== .function&&env.kindOf n==some .cell)then(n,NameKind.cell)else(n,k)).lookup x=some k:=by
    split at h<;>(rw[bX,e]at h;exact h)
   rcases qO h' with z|z
   ·left;rw[bX,e];exact z
   ·right;rw[bX,e];exact z
theorem sG{env:Env}:∀{names:List (Str×NameKind)} {x:Str},names.lookup x=some .free->
  (names.map fun(n,k)=>if(k==NameKind.free&&env.scope.kind== .function&&env.kindOf n==some .cell)then(n,NameKind.cell)else(n,k)).lookup x=some .cell\/
  (names.map fun(n,k)=>if(k==NameKind.free&&env.scope.kind== .function&&env.kindOf n==some .cell)then(n,NameKind.cell)else(n,k)).lookup x=some .free
 |[],_,h=>by simp at h
 |(n,j)::r,x,h=>by
  simp only[ba];by_cases hx:x=n
  ·subst hx;rw[bX,bB]at h;have hj:j=.free:=Option.some.inj h;by_cases hc:(j==NameKind.free&&env.scope.kind== .function&&env.kindOf x==some .cell)=true
   ·left;rw[au hc,bX,bB]
   ·right;rw[ay hc,bX,bB,hj]
  ·have e:(x==n)=false:=by simpa using hx
   rw[bX,e]at h;rcases sG (env:=env) h with z|z
   ·left;split<;>(rw[bX,e];exact z)
   ·right;split<;>(rw[bX,e];exact z)
def sH(X:Cx)(scope:Scope)(N:List Str)(s:Shared)(H:Hp)(ex:List Addr):Cx where
 prog:=X.prog
 w:=X.w
 K:=X.K
 mg:=X.mg
 base:=X.base
 A:=X.A
 N:=N
 fq:=s
 Bh:=H
 env:=compEnvC scope (DA scope X.env) s.heap.objs.size X.env
 outer:=X.stack
 stack:=X.stack
 ex:=ex
 fn:=fun _=>false
 calm:=X.calm
 pn:=[]
 xe:=fun _ _=>False
def U0(N N':List Str)(ix:List (Option Nat))(sc scope:Scope):Bool:=
 decide (N'.length=ix.length)&&(N'.zip ix).all (fun p=>match p.2 with
  |none=>true
  |some j=>decide (N[j]?=some p.1)&&decide (scope.names.lookup p.1=some .free))&&
 scope.names.all (fun y=>y.2 != .cell&&(y.2 != .free||decide (sc.names.lookup y.1=some .cell))&&(y.2 != .local||decide (scope.names.lookup y.1=some .local)))&&(scope.kind== .function)
structure fP(X:Cx)(N':List Str)(ix:List (Option Nat))(scope:Scope):Prop where
 len:N'.length=ix.length
 free:∀(i:Nat) (x:Str) (j:Nat),N'[i]?=some x->ix[i]?=some (some j)->X.N[j]?=some x/\scope.names.lookup x=some .free
 I_:∀y∈scope.names,y.2≠ .cell
 cell:∀y∈scope.names,y.2=.free->X.env.scope.names.lookup y.1=some .cell
 loc:∀y∈scope.names,y.2=.local->scope.names.lookup y.1=some .local
 kind:scope.kind=.function
theorem fP.of {N N':List Str}{ix:List (Option Nat)}{sc scope:Scope}(hN:X.N=N)(hs:X.env.scope=sc)(h:U0 N N' ix sc scope=true):fP X N' ix scope:=by
 unfold U0 at h;simp only[bp,gF,cJ]at h;obtain⟨⟨⟨h1,h2⟩,h3⟩,h4⟩:=h;refine⟨h1,fun i x j e1 e2=>?_,fun y hy z=>?_,fun y hy z=>?_,fun y hy z=>?_,by simpa using h4⟩
 ·have m:(x,some j)∈N'.zip ix:=dm (i:=i) (by rw[List.getElem?_zip_eq_some];exact⟨e1,e2⟩);have q:=h2 _ m;simp only[bp,gF]at q;rw[hN];exact q
 ·have q:=(h3 y hy).1.1;rw[z]at q;simp at q
 ·have q:=(h3 y hy).1.2;rw[z]at q;simp only[rG,jQ,gF]at q;rw[hs];exact q
 ·have q:=(h3 y hy).2;rw[z]at q;simp only[rG,jQ,gF]at q;exact q
def iC(ix:List (Option Nat))(Z:St):St:=ix.map fun o=>o.bind fun j=>(Z[j]?).join
theorem DB{ix:List (Option Nat)}{scope:Scope}{eE:Heap}{fp:List Addr}{tk:Nat}(L:fP X ps ix scope)(I:Inv X U Z H s)
  (Qy:eE.Ns s.heap.objs.size (fun _=>none)) (MA:∀b o,s.heap.get? b=some o->eE.get? b=some o)
  (hf:∀b∈fp,kj X U H b) (hfo:∀b∈fp,b<s.heap.objs.size):Inv (sH X scope ps s H fp) [] (iC ix Z) H {s with heap:=eE,toks:=tk}:=by
 have wF:∀y∈scope.names,y.2=.free->∃c,X.env.cells.lookup y.1=some c:=fun y hy z=>I.ok.has y.1 (.inl (L.cell y hy z));have sub:∀x c,(DA scope X.env).lookup x=some c->X.env.cells.lookup x=some c:=wC scope.names [] wF (fun x c e=>by simp at e);have has:∀x,scope.names.lookup x=some .free->∃c,(DA scope X.env).lookup x=some c:=fun x e=>
  rb.mp (wD scope.names [] x (.inr (kr e)))
 have LO:∀b∈fp,b∉je X.stack:=fun b hb z=>by
  obtain⟨_,f1,f2,_⟩:=hf b hb;rcases aV.mp (I.we b z)with q|q
  ·exact f1 q
  ·exact f2 q
 refine⟨⟨I.ok.mod,L.kind,I.ok.glob,I.ok.blt,aQ _,fun x y c e1 e2=>I.ok.inj x y c (sub x c e1) (sub y c e2),fun x hx=>?_,fun x c z=>absurd (show false=true from z) eR,I.ok.hd,I.ok.frames,.inl rfl,
   fun b hb=>⟨bu (hfo b hb),fun x c e=>(hf b hb).2.2.2.2.1 x c (sub x c e)⟩,I.bs,bP I.ok.Gr I.sz,fun b o e hb=>?_,LO,I.stack,I.vh⟩,
  rfl,I.bare,Un.kept MA,⟨_,Qy,fun i x v e1 e2 e3=>?_⟩,fun x c e=>?_,I.fresh,fun x c e=>I.eZ x c (sub x c e),fun p hp=>absurd (show p∈([]:List (Addr×Obj))from hp) (by simp),I.cp.kept MA,?_⟩
 ·have hx:(relabel scope X.env).names.lookup x=some .cell\/(relabel scope X.env).names.lookup x=some .free:=hx;have EK:scope.names.lookup x=some .free:=by
   rcases hx with z|z
   ·rcases qO z with q|q
    ·exact absurd rfl (L.I_ _ (kr q))
    ·exact q
   ·rcases qO z with q|q
    ·exact q
    ·exact q
  exact has x EK
 ·obtain⟨_,_,_,q,_⟩:=hf b hb;rcases q with q|q
  ·exact I.ok.zE b o e q
  ·exact absurd (cy (aO (I.ok.bs b o e).1) q) (dH _)
 ·
  unfold iC at e2;rw[bA]at e2;cases eo:ix[i]? with
  |none=>rw[eo]at e2;cases e2
  |some o=>
   rw[eo]at e2;cases o with
   |none=>exact absurd (show(some none:Option (Option V))=some (some v)from e2) (by simp)
   |some j=>
    obtain⟨n1,n2⟩:=L.free i x j e1 eo;have TM:(Z[j]?).join=some v:=Option.some.inj (show some ((Z[j]?).join)=some (some v)from e2);have e4:Z[j]?=some (some v):=by
     cases q:Z[j]? with
     |none=>rw[q]at TM;cases TM
     |some z=>
      rw[q]at TM;have:z=some v:=TM;rw[this]
    have E5:X.env.scope.names.lookup x=some .cell:=L.cell _ (kr n2) rfl;obtain⟨m,hn,hl⟩:=I.loc;obtain⟨u,r,l⟩:=hl j x v n1 e4 (.inr (.inl E5));refine⟨u,r,?_⟩;rcases l with⟨k,_⟩|⟨k,c,ec,z⟩
    ·have k':X.env.scope.names.lookup x=some .local:=k;rw[E5]at k';cases k'
    ·obtain⟨c',Uq⟩:=has x n2;have ecc:c'=c:=by
      have q:=sub x c' Uq;rw[ec]at q;exact(Option.some.inj q).symm
     subst ecc;refine .inr ⟨?_,c',Uq,?_⟩
     ·exact sG n2
     ·obtain⟨o',L6,L7⟩:=z;exact⟨o',MA _ _ L6,L7⟩
 ·obtain⟨v,o,ho,hd⟩:=I.cell x c (sub x c e);exact⟨v,o,MA _ _ ho,hd⟩
 ·show(iC ix Z).length=ps.length;unfold iC;rw[aK];exact L.len.symm
abbrev E6(ifs:List Expr)(env:Env):Sem Bool:=forIn ifs true fun c r=>if r=true then do let ok<-isTrue c env (eval c env);pure (ForInStep.yield ok)else pure (ForInStep.yield r)
section
variable {R:Result->Shared->Prop}
theorem MB{scope:Scope}{acc:Value}{env:Env}(I:Nat->Shared->Prop)
  (turn:∀n s,I n s->wpAny (model P w) A (pyNext aa) (fun r cC=>match r with
   |none=>R (.ok .next) cC
   |some v=>wpAny (model P w) A (letOwnedTupleGo o aa v) (fun _ OO=>wpAny (model P w) A (assign o env v) (fun _ se=>
     wpAny (model P w) A (E6 es env) (fun ok Bs=>
      if ok=true then wpAny (model P w) A (eval e env) (fun x MC=>
       wpAny (model P w) A (call (.builtin "list.append") [acc,x]) (fun _ U1=>∃m,m<n/\I m U1) (fun _ _=>False) MC) (fun _ _=>False) Bs
      else∃m,m<n/\I m Bs) (fun _ _=>False) se) (fun _ _=>False) OO) (fun _ _=>False) cC) (fun _ _=>False) s)
  (n:Nat) (h:I n s):codeAny (model P w) A (.compLoop (.ListComp e [⟨o,tg,es,0⟩] scope pos) 0 aa acc env) R s:=by
 refine codeAny_loop rfl I (fun n s hI=>?_) n h;show wpAny _ A ((compTurn (.ListComp e [⟨o,tg,es,0⟩] scope pos) 0 aa acc env).onRaise (fun x=>do noteFrame x env;theTreesLotGoes x)) _ _ s;refine wpAny_noted ?_
 rw[compTurn_list];refine ak (wpAny_standAt (ak (dq (turn n s hI) (fun r cC eE=>?_) fun _ _ f=>f.elim)));cases r with
 |none=>exact aC eE
 |some v=>
  refine ak (dq eE (fun _ OO U2=>?_) fun _ _ f=>f.elim);refine ak (dq U2 (fun _ se oG=>ak (dq oG (fun ok Bs yn=>?_) fun _ _ f=>f.elim)) fun _ _ f=>f.elim);cases ok with
  |false=>exact aC ⟨rfl,yn⟩
  |true=>exact ak (ak (dq yn (fun x MC QH=>ak (dq QH (fun _ U1 p7=>aC (aC ⟨rfl,p7⟩)) fun _ _ f=>f.elim)) fun _ _ f=>f.elim))
end
def PF(X:Cx)(ifs:List Expr)(t:TT):Prop:=
 ∀(U:List (Addr×Obj)) (s:Shared) (Z:St) (H:Hp) (Q:Bool->Hp->Prop),Inv X U Z H s->t Z H Q->wpAny (model X.prog X.w) X.A (E6 ifs X.env) (TP X U Z Q) X.xe s
theorem QK:PF X [] (fun _ H Q=>Q true H):=fun _ _ _ H _ I h=>wpAny_tests_nil ⟨H,I,h⟩
theorem QL{t:TT}(h:PT X e t):PF X [e] t:=fun U s Z H Q I q=>wpAny_tests_one (h U s Z H Q I q)
def Zx(J:It)(D:Addr)(Yp:St)(H0:Hp)(g:TG)(tc:TT)(te:TE)(Q:Hp->Prop):Prop:=
 ∃W:Nat->Nat->St->Hp->Prop,(∃m,W 0 m Yp H0)/\∀i m Z H,W i m Z H->(J.stop i H/\Q H)\/
  (J.go i H/\∃N:St->Hp->Prop,(∀cK H',N cK H'->∃m',m'<m/\W (i+1) m' cK H')/\∀x H',J.Gu i H x H'->g x Z H' fun yj H2=>tc yj H2 fun b H3=>
    if b=true then te yj H3 fun y H4=>∃ys,H4 D=some (.lst ys)/\ys.length<sizeLine/\N yj (upd H4 D (.lst (ys++[y])))else N yj H3)
def TN(wi:TI)(ix:List (Option Nat))(g:TG)(tc:TT)(te:TE):TE:=fun Z H Q=>wi Z H fun J H1=>∀D,H1 D=none->Zx J D (iC ix Z) (upd H1 D (.lst [])) g tc te fun H'=>Q (.ref D) H'
section
variable {scope:Scope}{ix:List (Option Nat)}{c0 elt:Expr}{g:TG}{tc:TT}{te:TE}
theorem E7{use:Option (Value->Sem Unit)}{QD:Addr->Hp->Prop}{s2:Shared}{H2:Hp}{fp:List Addr}{tn:Nat->Heap->Prop}{J:It}
  (L:fP X ps ix scope) (hc:X.calm=true) (kl:∀s H ex,PG (sH X scope ps s H ex) tg g/\PF (sH X scope ps s H ex) af tc/\PE (sH X scope ps s H ex) elt te)
  (I2:Inv X U Z H2 s2) (T:Turn X.prog X.w X.K tg J fp a tn) (Mc:tn 0 s2.heap) (f2:∀b∈fp,kj X U H2 b)
  (hw:∀D,H2 D=none->Zx J D (iC ix Z) (upd H2 D (.lst [])) g tc te (QD D))
  (Zy:∀D C H' s' m,Inv X U Z H' s'->kj X U H' C->s'.heap.Ns C m->QD D H'->compPost (model X.prog X.w) X.A X.xe use E (.ref D) C (.ok .next) s'):
  wpAny (model X.prog X.w) X.A (newList []) (fun acc Bs=>wpAny (model X.prog X.w) X.A (newFunctionEnv scope X.env.globals (DA scope X.env) [] X.env.qual none .none (some X.env)) (fun U3 MC=>
   codeAny (model X.prog X.w) X.A (.compStart (.ListComp elt [⟨tg,c0,af,0⟩] scope pos) 0 (.ref a) acc {U3 with scope:=relabel scope X.env}) (compPost (model X.prog X.w) X.A X.xe use E acc U3.locals) MC) X.xe Bs) X.xe s2:=by
 refine jL (wpAny_newFunctionEnv L.I_ (by intro y hy;simp at hy) (fun eE DC DD=>?_) L.kind);dsimp only at DC DD⊢;have hD:H2 s2.heap.objs.size=none:=I2.fresh;have I3:Inv X U Z (upd H2 s2.heap.objs.size (.lst [])) {s2 with heap:=s2.heap.push {cls:=.type "list",data:=.seq ([]:List Value).toArray},toks:=s2.toks}:=I2.Ms (bE:=[]) .nil (dF _);generalize hs3:({s2 with heap:=s2.heap.push {cls:=.type "list",data:=.seq ([]:List Value).toArray},toks:=s2.toks}:Shared)=s3 at I3;have e3:({s2 with heap:=s2.heap.push {cls:=.type "list",dict:=none,data:=.seq ([]:List Value).toArray}}:Shared)=s3:=hs3;have eh:s2.heap.push {cls:=.type "list",dict:=none,data:=.seq ([]:List Value).toArray}=s3.heap:=cq Shared.heap e3;have eos:s3.os=s2.os:=by rw[<-e3]
 have ek:∀b o,s2.heap.get? b=some o->s3.heap.get? b=some o:=fun b o e=>by rw[<-eh];exact bh _ e
 have QM:s2.heap.objs.size<=s3.heap.objs.size:=by rw[<-eh,iK];exact oj _
 rw[eh]at DC DD⊢;have f3:∀b∈fp,kj X U (upd H2 s2.heap.objs.size (.lst [])) b:=fun b hb=>by
  obtain⟨o,eo,_⟩:=T.obj _ _ Mc b hb;refine⟨?_,(f2 b hb).2⟩;rw[aF (bu (aO eo))];exact(f2 b hb).1
 have Gp:∀b∈fp,b<s3.heap.objs.size:=fun b hb=>by
  obtain⟨o,eo,_⟩:=T.obj _ _ Mc b hb;exact cy (aO eo) QM
 have k4:∀b o,s3.heap.get? b=some o->eE.get? b=some o:=fun b o e=>DD.extBut b o (bu (aO e)) (bh _ e);have st4:tn 0 eE:=T.keep _ _ _ Mc fun b _ o e=>k4 b o (ek b o e);obtain⟨W,⟨m0,w0⟩,turn⟩:=hw s2.heap.objs.size hD;have I4:∀tk,Inv (sH X scope ps s3 (upd H2 s2.heap.objs.size (.lst [])) fp) [] (iC ix Z) (upd H2 s2.heap.objs.size (.lst [])) {s3 with heap:=eE,toks:=tk}:=fun tk=>
  DB L I3 DC k4 f3 Gp
 obtain⟨hg,hf,he⟩:=kl s3 (upd H2 s2.heap.objs.size (.lst [])) fp;have Dp:∀{H':Hp},(∀b∈fp,H' b=none)->∀b∈fp,kj (sH X scope ps s3 (upd H2 s2.heap.objs.size (.lst [])) fp) [] H' b:=fun{H'} hn b hb=>by
  have ok:=(I4 0).ok;obtain⟨x1,x2⟩:=ok.TH b hb;exact⟨hn b hb,x1,ok.Bi b hb,.inl hb,x2,fun p hp=>absurd (show p∈([]:List (Addr×Obj))from hp) (by simp)⟩
 have loop:∀tk,codeAny (model X.prog X.w) X.A (.compLoop (.ListComp elt [⟨tg,c0,af,0⟩] scope pos) 0 (.ref a) (.ref s2.heap.objs.size) (compEnvC scope (DA scope X.env) s3.heap.objs.size X.env))
   (compPost (model X.prog X.w) X.A X.xe use E (.ref s2.heap.objs.size) s3.heap.objs.size) {s3 with heap:=eE,toks:=tk}:=fun tk=>by
  refine MB (fun n s'=>∃i cK H',Inv (sH X scope ps s3 (upd H2 s2.heap.objs.size (.lst [])) fp) [] cK H' s'/\tn i s'.heap/\(∀b∈fp,H' b=none)/\W i n cK H') ?_ m0
   ⟨0,_,_,I4 tk,st4,fun b hb=>(f3 b hb).1,w0⟩
  rintro n s5 ⟨i,Yq,H5,I5,TJ,Yn,w5⟩
  rcases turn i n Yq H5 w5 with⟨stop,qn⟩|⟨go,N,hN,step⟩
  ·refine dA (T.done (sH X scope ps s3 (upd H2 s2.heap.objs.size (.lst [])) fp) rfl rfl rfl hc i [] s5 Yq H5 _ I5 (Dp Yn) TJ stop) fun r s6 ⟨hr,I6⟩=>?_
   subst hr;have u:Un (je X.stack) fp H2 H5 s2.heap s6.heap:=(Un.laid (o:=.lst []) ek (aQ _) hD).trans I6.base;have J6:Inv X U Z H5 s6:=I2.Ur (ch:=fp) (I6.os.trans eos) u I6.cp I6.bare fun b hb=>by
    obtain⟨_,x1,_,x3,x4,x5⟩:=f2 b hb;exact⟨x3,x1,x4,x5⟩
   obtain⟨m,hm,_⟩:=I6.loc;exact Zy _ _ H5 s6 m J6 (I2.wj QM I6.free) hm qn
  ·refine dA (T.item (sH X scope ps s3 (upd H2 s2.heap.objs.size (.lst [])) fp) rfl rfl rfl hc i [] s5 Yq H5 _ I5 (Dp Yn) TJ go) fun r s6 ⟨v,hr,h6⟩=>?_
   subst hr;refine dA h6 fun _ s7 ⟨x,H7,I7,r7,y7,Zz,fr7⟩=>?_
   have I7':=I7.pinned (Dp fr7) (T.obj _ _ Zz);refine dA (hg _ s7 Yq H7 x v _ I7' r7 (step x H7 y7)) fun _ s8 ⟨Yr,H8,I8,q8⟩=>?_
   have again:∀{U4:St} {H9:Hp} {s9:Shared},Inv (sH X scope ps s3 (upd H2 s2.heap.objs.size (.lst [])) fp) ([]++wm fp s7.heap) U4 H9 s9->N U4 H9->
     ∃m,m<n/\∃i cK H',Inv (sH X scope ps s3 (upd H2 s2.heap.objs.size (.lst [])) fp) [] cK H' s9/\tn i s9.heap/\(∀b∈fp,H' b=none)/\W i m cK H':=fun{U4 H9 s9} I9 n9=>by
    obtain⟨m',hm,w9⟩:=hN U4 H9 n9;refine⟨m',hm,i+1,U4,H9,I9.r_,T.keep _ _ _ Zz fun b hb o e=>(I9.pin (b,o) (cI _ (cI _ (mD hb e)))).1,fun b hb=>?_,w9⟩;obtain⟨o,e,d⟩:=T.obj _ _ Zz b hb;exact(I9.pin (b,o) (cI _ (cI _ (mD hb e)))).2.1
   refine dA (hf _ s8 Yr H8 _ I8 q8) fun ok s9 ⟨H9,I9,q9⟩=>?_
   cases ok with
   |false=>exact again I9 q9
   |true=>
    refine dA (he _ s9 Yr H9 _ I9 q9) fun y s10 ⟨v10,H10,I10,r10,ys,hy,hz,n10⟩=>?_
    refine dA (g_ _ s10 Yr H10 (.ref s2.heap.objs.size) [v10] (.ref s2.heap.objs.size) [y] (fun _ H'=>N Yr H') I10 rfl (.cons r10 .nil) ⟨_,ys,v10,rfl,rfl,hy,hz,n10⟩) fun _ s11 ⟨_,H11,I11,_,q11⟩=>?_
    exact again I11 q11
 have es:∀tk,({s2 with heap:=eE,toks:=tk}:Shared)={s3 with heap:=eE,toks:=tk}:=fun tk=>by rw[<-e3]
 have OP:∀tk,codeAny (model X.prog X.w) X.A (.compLoop (.ListComp elt [⟨tg,c0,af,0⟩] scope pos) 0 (.ref a) (.ref s2.heap.objs.size) (compEnvC scope (DA scope X.env) s3.heap.objs.size X.env))
   (compPost (model X.prog X.w) X.A X.xe use E (.ref s2.heap.objs.size) s3.heap.objs.size) {s2 with heap:=eE,toks:=tk}:=fun tk=>by
  rw[es tk];exact loop tk
 exact codeAny_compStart_list (OP _) (T.self _ 0 _ _ _ st4 (OP _))
theorem Ja{wi:TI}(L:fP X ps ix scope)(hc:X.calm=true)(hi:PI X tg c0 wi)(kl:∀s H ex,PG (sH X scope ps s H ex) tg g/\PF (sH X scope ps s H ex) af tc/\PE (sH X scope ps s H ex) elt te)
  (hs:∀x,foldedSetIterable c0 X.env x=pure x:=by intro _;rfl):PE X (.ListComp elt [⟨tg,c0,af,0⟩] scope pos) (TN wi ix g tc te):=by
 intro U s Z H Q I h;have wF:∀y∈scope.names,y.2=.free->∃c,X.env.cells.lookup y.1=some c:=fun y hy z=>I.ok.has y.1 (.inl (L.cell y hy z));rw[eval_ListComp];refine wpAny_comprehension_free (use:=none) rfl hs (sF wF) L.kind L.loc (dA (hi U s Z H _ I h) fun v s1 h1=>dA h1 fun Yl s2 h2=>?_);obtain⟨it,fp,tn,J,H2,e,I2,T,Mc,f2,hw⟩:=h2;subst e;refine E7 (QD:=fun D H'=>Q (.ref D) H') L hc kl I2 T Mc f2 hw fun D C H' s' m I' fC hm q=>⟨m,hm,fun h' MA=>?_⟩;obtain⟨x0,x1,x2,x3,x4,x5⟩:=fC;exact⟨.ref D,H',I'.turned (t':=s'.toks) (fun b o hb e=>(MA.2 b hb).trans e) x0 x1 x3 x4 x5,rfl,q⟩
theorem wG{wi:TI}(L:fP X ps ix scope)(hc:X.calm=true)(hN:X.N.Nodup)(hi:X.N[i]?=some x)(hx:Loc X.env.scope x)(hit:PI X tg c0 wi)
  (kl:∀s H ex,PG (sH X scope ps s H ex) tg g/\PF (sH X scope ps s H ex) af tc/\PE (sH X scope ps s H ex) elt te)
  (GH:swapsWith (.ListComp elt [⟨tg,c0,af,0⟩] scope pos) (some (.Name x p)) b8.line X.env=pure true:=by rfl)
  (hs:∀x,foldedSetIterable c0 X.env x=pure x:=by intro _;rfl) (hf:ye X x:=by first|exact .inl rfl|exact .inr rfl|assumption):
  PS X (.Assign [.Name x p] (.ListComp elt [⟨tg,c0,af,0⟩] scope pos) b8) (fun D Z H=>TN wi ix g tc te Z H fun v H'=>D.nx (Z.set i (some v)) H'):=by
 intro U s Z H D I h;have wF:∀y∈scope.names,y.2=.free->∃c,X.env.cells.lookup y.1=some c:=fun y hy z=>I.ok.has y.1 (.inl (L.cell y hy z));rw[exec_Assign_Name_used _ _ _ _ GH];refine ak (wpAny_standAt (ak ?_));show wpAny _ X.A (do let _<-comprehension (.ListComp elt [⟨tg,c0,af,0⟩] scope pos) scope X.env _ (newList []) false (eval c0 X.env) (some (assign (.Name x p) X.env))) _ _ s;refine ak (dq (wpAny_comprehension_free (use:=some (assign (.Name x p) X.env)) (Q:=fun _ s'=>SP X U D .next s') rfl hs (sF wF) L.kind L.loc
  (dA (hit U s Z H _ I h) fun v s1 h1=>dA h1 fun Yl s2 h2=>?_)) (fun _ s' hq=>aC (aC hq)) fun _ _ e=>e)
 obtain⟨it,fp,tn,J,H2,e,I2,T,Mc,f2,hw⟩:=h2;subst e;refine E7 (QD:=fun Dd H'=>D.nx (Z.set i (some (.ref Dd))) H') L hc kl I2 T Mc f2 hw fun Dd C H' s' m I' fC hm q=>?_
 obtain⟨x0,x1,x2,x3,x4,x5⟩:=fC;show wpAny _ X.A (assign (.Name x p) X.env (.ref Dd)) _ _ _;refine wpAny_assign_Name (yC I' hN hi hx (v:=.ref Dd) rfl (fun Qf I'' yB=>?_) hf);obtain⟨a,MA,ha⟩:=yB;have hCa:C≠a:=by
  rcases ha with ha|ha
  ·rw[ha];exact x1
  ·exact fun z=>x4 _ _ ha z.symm
 refine⟨m,hm.sameBut MA hCa,fun h' ZC=>?_⟩;exact⟨_,H',I''.turned (t':=Qf.toks) (fun b o hb e=>(ZC.2 b hb).trans e) x0 x1 x3 x4 x5,q⟩
end
def Ys(z:Str):It:=⟨fun i _=>i<z.cps.size,fun i H x H'=>H'=H/\∃c,z.cps[i]?=some c/\x=.str ⟨#[c]⟩,fun i _=>i=z.cps.size⟩
theorem Bw{t:Tok}{it:Addr}{n:String}(hn:["enumerate","zip","dict_itemiterator","dict_reverseitemiterator","odict_iterator","itertools.zip_longest","itertools.pairwise"].contains n=false)
  (W:∀A':Around,A'.handled=none->Walks P w A' it [it] [it] x.cps.size (SignAt x) (fun i h=>h.IsStrIter it n x t i))
  (self:∀(A:Around) (i:Nat) (s:Shared) (Q:Value->Shared->Prop) (E:Value->Shared->Prop),s.heap.IsStrIter it n x t i->Q (.ref it) s->wpAny (model P w) A (pyIter (.ref it)) Q E s):
  Turn P w K tg (Ys x) [it] it (fun i h=>h.IsStrIter it n x t i) where
 mem:=by simp
 obj:=fun i h st b hb=>by
  have e:b=it:=by simpa using hb
  subst e;obtain⟨o,e,c,d⟩:=st;exact⟨o,e,fun v q=>by rw[d]at q;cases q⟩
 keep:=fun i h h' st k=>by
  obtain⟨o,e,c,d⟩:=st;exact⟨o,k it (by simp) o e,c,d⟩
 item:=by
  intro X hP hw hK hc i U s Z H E I hf st hg;subst hP hw hK;obtain⟨f0,f1,f2,f3,f4,f5⟩:=hf it (by simp);refine(W X.A (I.ok.hd hc)).item i s _ _ hg st fun v h' tk hv wk kk=>?_
  obtain⟨c,u,hcu,rfl⟩:=hv;have I1:Inv X U Z H {s with heap:=h',toks:=tk}:=I.turned (fun b o hb e=>kk b o (by simpa using hb) e) f0 f1 f3 f4 f5;obtain⟨o,e,cl,d⟩:=id wk;exact⟨_,rfl,yD (s:={s with heap:=h',toks:=tk}) e cl d hn ⟨.str ⟨#[c]⟩,H,I1,⟨u,rfl⟩,⟨rfl,c,hcu,rfl⟩,wk,fun b hb=>(hf b hb).1⟩⟩
 done:=by
  intro X hP hw hK hc i U s Z H E I hf st hg;subst hP hw hK;obtain⟨f0,f1,f2,f3,f4,f5⟩:=hf it (by simp);have e:i=x.cps.size:=hg;subst e;exact(W X.A (I.ok.hd hc)).done s _ _ st fun h' tk kk=>⟨rfl,I.turned (fun b o hb e=>kk b o (by simpa using hb) e) f0 f1 f3 f4 f5⟩
 self:=self
theorem kB.upd {xs:List V}{o:HO}(hD:H ae=none)(h:kB K H a xs):kB K (upd H ae o) a xs:=by
 rcases h with(h|⟨ob,h⟩)|h
 ·exact .inl (.inl (by rw[aF (bj h hD)];exact h))
 ·exact .inl (.inr ⟨ob,by rw[aF (bj h hD)];exact h⟩)
 ·exact .inr h
theorem g9.upd {xs:List V}{o:HO}(hD:H ae=none)(h:g9 K H a xs):g9 K (upd H ae o) a xs:=by
 rcases h with(h|⟨ob,h⟩)|h
 ·exact .inl (.inl (by rw[aF (bj h hD)];exact h))
 ·exact .inl (.inr ⟨ob,by rw[aF (bj h hD)];exact h⟩)
 ·exact .inr h
theorem GI:t7 X (compareOp .LtE) (fun x y H Q=>∃i j,x=.str i/\y=.str j/\Q (.bl (!(decide (j.cps.toList<i.cps.toList)))) H):=by
 intro U s Z H x y v u Q I rx ry h;obtain⟨i,j,rfl,rfl,q⟩:=h;obtain⟨t,rfl⟩:=rx;obtain⟨t',rfl⟩:=ry;exact PySem.P.le_str (t8 I q rfl)
theorem QN:t7 X (compareOp .Is) (fun x y H Q=>∃c d,x=.bl c/\y=.bl d/\Q (.bl (c==d)) H):=by
 intro U s Z H x y v u Q I rx ry h;obtain⟨c,d,rfl,rfl,q⟩:=h;cases rx;cases ry;exact is_bool (t8 I q rfl)
theorem MD:t7 X (binaryOp .Mult) (fun x y H Q=>∃z n,x=.str z/\y=.int n/\MulOk z n/\Q (.str (Txt.mul z n)) H):=by
 intro U s Z H x y v u Q I rx ry h;obtain⟨z,n,rfl,rfl,cp,q⟩:=h;obtain⟨t,rfl⟩:=rx;obtain⟨t',rfl⟩:=ry;exact SB.mul cp fun t' k=>⟨.str _,H,I.tok _,⟨_,rfl⟩,q⟩
theorem Jb(hc:X.calm=true):fG X (.builtin "all") (fun xs H Q=>∃(p:Addr) (bs:List Bool),xs=[.ref p]/\kB X.K H p (bs.map V.bl)/\Q (.bl (bs.all id)) H):=by
 intro U s Z H xs us Q I r h;obtain⟨p,bs,rfl,hl,q⟩:=h;obtain⟨u,rfl,ru⟩:=vals1 r;cases(show u=Value.ref p from ru);obtain⟨bE,rv,pl,hz⟩:=I.list hl;have hb:bE=bs.map Value.bool:=by
  clear hz pl hl q I
  induction bs generalizing bE with
  |nil=>cases rv;rfl
  |cons b r ih=>
   cases rv with
   |cons r1 r2=>
    rw[ba,<-ih _ (by exact r2)];cases(show _=Value.bool b from r1)
    rfl
 subst hb;have gn:p<s.heap.objs.size:=by obtain⟨o,n,e,_⟩:=pl;exact aO e
 refine call_all_walk (lE pl.isList ?_);refine⟨s.heap.objs.size,[s.heap.objs.size,p],[s.heap.objs.size],(bs.map Value.bool).toArray.size,_,_,fun i=>(bs[i]?).getD true,rfl,Walks.list (A:=X.A.in1) (I.ok.hd hc) _ p (bu gn) _,
  ⟨⟨_,bG _ rfl,rfl,rfl⟩,pl.isList.push _⟩,fun i v s' Q' E' hP hQ=>?_,fun h' tk hk=>?_⟩
 ·have U5:(bs.map Value.bool)[i]?=some v:=by simpa using hP
  rw[bA]at U5;cases eb:bs[i]? with
  |none=>rw[eb]at U5;cases U5
  |some b=>
   rw[eb]at U5;cases U5;simp only[eb,nU]at hQ;exact nV hQ
 ·have e:((List.range (bs.map Value.bool).toArray.size).all fun i=>(bs[i]?).getD true)=bs.all id:=by
   rw[cn,aK];exact LSm.range_all bs
  rw[e];exact⟨.bl _,H,I.kept (LSm.kept_iter hk),rfl,q⟩
theorem aE.tup {H':Hp}{xs:List V}(e:aE H H')(h:g9 K H a xs):g9 K H' a xs:=by
 rcases h with(h|⟨o,h⟩)|h
 ·exact .inl (.inl (e _ _ h))
 ·exact .inl (.inr ⟨o,e _ _ h⟩)
 ·exact .inr h
theorem aE.upd {o:HO}(hD:H a=none):aE H (upd H a o):=fun b u e=>by rw[aF (bj e hD)];exact e
theorem aE.Bx {H':Hp}{D:Addr}{o:HO}(s:aE H H')(hD:H D=none):aE H (L2.upd H' D o):=fun b u e=>by rw[aF (bj e hD)];exact s b u e
structure yL(K:Frag)(mg:Str->Option Value)(x:Str)(st:Stmt)(ps:List Str)(f:Addr)(fd:FuncData):Prop where
 fn:yf K x x st f fd
 bd:Binds K fd ps []
 mg:mg x=some (.ref f)
theorem QQ{st:Stmt}{fd:FuncData}{sp:Sp}{t:TA}(D:yL X.K X.mg x st ps a fd)(G:dw X.prog X.w X.K X.mg X.base lq i a fd ps sp)(hr:cz i X.A)
  (ha:PA X (e::es) t) (hg:Gl X x:=by rfl) (eM:Db x:=by decide) (he:starEach (e::es) X.env=(false,eval e X.env)::starEach es X.env:=by rfl)
  (ny:(backTo pos (starEach es X.env)).any (·.1)=false:=by rfl):PE X (.Call (.Name x p) (e::es) [] pos) (OG sp [] E0 t):=by
 have q:=ET (p:=p) (pos:=pos) G hr hg D.mg D.fn.kp D.bd .nil I0 ha (eM:=eM) (he:=he) (ny:=ny);exact q
def ZD:V->Option Int->Option Int->Hp->VK->Prop:=fun x lo hi H Q=>∃z,x=.str z/\z.length<=sizeLine/\Q (.str (Txt.slice z lo hi)) H
theorem QR:TK X ZD:=by
 intro U s Z H x v vl vu lo hi sl Q I rx hs pl pu h;obtain⟨z,rfl,hz,q⟩:=h;obtain⟨t,rfl⟩:=rx;refine⟨"str",_,F.slot_str_getitem.lookup,typeIs_str _ _ _,?_⟩;have go:∀(l u:Option (Int×Tok)),s.heap.IsSlice sl l u none->lo=l.map (·.1)->hi=u.map (·.1)->wpAny (model X.prog X.w) X.A (getItem (.str z t) (.ref sl)) (EP X U Z Q) X.xe s:=fun l u hh e1 e2=>by
  subst e1 e2;exact wpAny_getItem_str_slice hh rfl (post_val_or_str ⟨bP (Txt.slice_le z _ _) hz,fun t' k=>⟨.str _,H,I.tok _,⟨_,rfl⟩,q⟩⟩)
 cases pl with
 |none=>
  cases pu with
  |none=>exact go none none hs rfl rfl
  |int j tj=>exact go none (some (j,tj)) hs rfl rfl
 |int i ti=>
  cases pu with
  |none=>exact go (some (i,ti)) none hs rfl rfl
  |int j tj=>exact go (some (i,ti)) (some (j,tj)) hs rfl rfl
theorem By:∀{cs:List String} {us:List Value},Vals (cs.map V.ty) us->us=cs.map Value.type
 |[],_,.nil=>rfl
 |c::cs,_,.cons r t=>by
  rw[By t];cases(show _=Value.type c from r)
  rfl
theorem ub{h:Heap}{bE:Array Value}(ht:h.IsTuple a bE):∃dd n sl,h.get? a=some ⟨.type "tuple",dd,.seq bE n,sl⟩:=by
 obtain⟨⟨cls,dd,data,sl⟩,h1,h2,n,h3⟩:=ht;dsimp only at h2 h3;subst h2 h3;exact⟨dd,n,sl,h1⟩
theorem GJ:fG X (.builtin "isinstance") (fun xs H Q=>∃(x:V) (p:Addr) (cs:List String) (t:Value) (b:Bool),xs=[x,.ref p]/\OL x=true/\g9 X.K H p (cs.map V.ty)/\sj X.K H x t/\PySem.W.kitAny X.K t (cs.map Value.type)=some b/\Q (.bl b) H):=by
 intro U s Z H xs us Q I r h;obtain⟨x,p,cs,t,b,rfl,fx,hp,ty,e,q⟩:=h;obtain⟨u,v,rfl,ru,rv⟩:=vals2 r;cases(show v=Value.ref p from rv);obtain⟨bE,r1,p1,_⟩:=I.tuple hp;obtain⟨dd,n,sl,hg⟩:=ub p1;cases By r1;have fin:∀tk,EP X U Z Q (.bool b) {s with toks:=tk}:=fun tk=>⟨.bl b,H,I.tok _,rfl,q⟩;cases ty with
 |bO=>
  cases(show u=Value.none from ru);exact rN PySem.W.kitx_none I.kM .intro hg e (by simp) fin
 |bl y=>
  cases(show u=Value.bool y from ru);exact rN PySem.W.kitx_bool I.kM .intro hg e (by simp) fin
 |int i=>
  obtain⟨t,rfl⟩:=(show∃t,u=Value.int i t from ru);exact rN PySem.W.kitx_int I.kM .intro hg e (by simp) fin
 |str y=>
  obtain⟨t,rfl⟩:=(show∃t,u=Value.str y t from ru);exact rN PySem.W.kitx_str I.kM .intro hg e (by simp) fin
 |_=>exact absurd (show false=true from fx) eR
def Bz(K:Frag)(w:World)(a:Addr)(kvs:List (Str×Value)):Prop:=
 (a==sysModules)=false/\∃o es ep,K.lookup a=some o/\o.ExactDict/\o.data=.dict es ep/\∀prog,KeysOf (PySem.strKind prog w) es/\Pairs (PySem.strKind prog w) es.toList kvs/\(kvs.map (·.1)).Nodup
theorem Bz.of {kvs:List (Str×Value)}(D:Bz X.K X.w a kvs)(I:Inv X U Z H s):s.heap.DictOf (PySem.strKind X.prog X.w) a kvs:=by
 obtain⟨_,o,es,ep,h1,h2,h3,h4⟩:=D;obtain⟨k1,k2,k3⟩:=h4 X.prog;exact⟨o,es,ep,I.kM _ _ h1,h2,h3,k1,k2,k3⟩
theorem Jc{to ti:TE}(ho:PE X o to)(hi:PE X e ti)(hs:Mv e):
  PE X (.Subscript o e pos) (P0 (fun x y H Q=>∃(a:Addr) (z:Str) (kvs:List (Str×Value)) (u:Value) (v:V),x=.ref a/\y=.str z/\Bz X.K X.w a kvs/\valueAt kvs z=some u/\RelV v u/\Q v H) to ti):=by
 intro U s Z H Q I h;refine Mw PySem.F.slot_dict_getitem.lookup hs (dA (ho U s Z H _ I h) fun u s1 ⟨x,H1,I1,rx,q1⟩=>dA (hi U s1 Z H1 _ I1 q1) fun iv s2 ⟨y,H2,I2,ry,q2⟩=>?_);obtain⟨a,z,kvs,u',v,rfl,rfl,D,hv,rv,q⟩:=q2;cases(show u=Value.ref a from rx);obtain⟨t,rfl⟩:=ry;have dd:=D.of I2;refine⟨?_,wpAny_getItem_of (knd:=PySem.strKind X.prog X.w) (k:=z) (by simp[PySem.strKind,Value.isStrOf]) dd.mapOf hv ⟨v,H2,I2.tok _,rv,q⟩⟩;obtain⟨ob,es,ep,h1,h2,_⟩:=dd;exact⟨ob,h1,h2.1⟩
inductive Tr where
 |bO|bl (b:Bool)|int (i:Int)|str (z:Str)|ty (n:String)
 |uC (ns:List Int)|tup (ts:List Tr)|lst (ts:List Tr)|bw (aM:List (Key×Tr))|at(i:Nat)
 |uD (aM:List (List Key×Tr))|ob (x:Str) (fs:List (Str×Tr))|yM (x:Str)
variable {ts:List Tr}
def cw:Nat:=1000000
def clsAt(K:Frag)(x:Str):Addr:=match PySem.W.nsIn K mainGlobals x with
 |some (some (.ref C))=>C
 |_=>0
structure Vw where
 H:Hp
 ix:Addr->Option Nat
instance:Coe Vw Hp:=⟨Vw.H⟩
instance:CoeFun Vw (fun _=>Addr->Option HO):=⟨Vw.H⟩
structure dQ(W W':Vw):Prop where
 h:aE W.H W'.H
 x:∀a i,W.ix a=some i->W'.ix a=some i
theorem dQ.refl (W:Vw):dQ W W:=⟨aE.refl _,fun _ _ e=>e⟩
theorem dQ.trans {W W1 W2:Vw}(a:dQ W W1)(b:dQ W1 W2):dQ W W2:=⟨a.h.trans b.h,fun c i e=>b.x c i (a.x c i e)⟩
mutual
inductive Rep(K:Frag)(H:Vw):V->Tr->Prop where
 |bO:Rep K H .bO .bO
 |bl (b:Bool):Rep K H (.bl b) (.bl b)
 |int (i:Int):Rep K H (.int i) (.int i)
 |str (z:Str) (h:z.length<=cw):Rep K H (.str z) (.str z)
 |ty (n:String):Rep K H (.ty n) (.ty n)
 |uC {a:Addr} {ns:List Int} (h:kB K H.H a (ns.map V.int)):Rep K H (.ref a) (.uC ns)
 |tup {a:Addr} {vs:List V} {ts:List Tr} (h:g9 K H.H a vs) (r:bc K H vs ts):Rep K H (.ref a) (.tup ts)
 |lst {a:Addr} {vs:List V} {ts:List Tr} (h:H.H a=some (.lst vs)) (r:bc K H vs ts):Rep K H (.ref a) (.lst ts)
 |bw {a:Addr} {kvs:List (Key×V)} {aM:List (Key×Tr)} (h:Rd H.H a (.dK kvs)) (e:kvs.map (·.1)=aM.map (·.1)) (r:bc K H (kvs.map (·.2)) (aM.map (·.2))):Rep K H (.ref a) (.bw aM)
 |at{a:Addr} {i:Nat} (h:H.ix a=some i):Rep K H (.ref a) (.at i)
 |uD {a:Addr} {kvs:List (List Key×V)} {aM:List (List Key×Tr)} (h:H.H a=some (.dT kvs)) (e:kvs.map (·.1)=aM.map (·.1)) (r:bc K H (kvs.map (·.2)) (aM.map (·.2))):Rep K H (.ref a) (.uD aM)
 |ob {a dx:Addr} {x:Str} {gw:List (Str×V)} {fs:List (Str×Tr)} (h:H.H a=some (.ins (clsAt K x) dx gw)) (e:gw.map (·.1)=fs.map (·.1)) (r:bc K H (gw.map (·.2)) (fs.map (·.2))):Rep K H (.ref a) (.ob x fs)
 |yM {a:Addr} {oe:Obj} {x:Str} (h:H.H a=some (.ext fun h=>h.get? a=some oe)) (c:oe.cls=.ref (clsAt K x)):Rep K H (.ref a) (.yM x)
inductive bc(K:Frag)(H:Vw):List V->List Tr->Prop where
 |nil:bc K H [] []
 |cons {v:V} {t:Tr} {vs:List V} {ts:List Tr} (h:Rep K H v t) (r:bc K H vs ts):bc K H (v::vs) (t::ts)
end
section
theorem Rd.same {H H':Hp}{u:HO}(s:aE H H')(h:Rd H a u):Rd H' a u:=by
 rcases h with h|⟨o,h⟩
 ·exact .inl (s _ _ h)
 ·exact .inr ⟨o,s _ _ h⟩
variable {H H':Vw}
theorem Rep.same (s:dQ H H'){v:V}{t:Tr}(h:Rep K H v t):Rep K H' v t:=by
 refine Rep.rec (motive_1:=fun v t _=>Rep K H' v t) (motive_2:=fun vs ts _=>bc K H' vs ts) ?_ ?_ ?_ ?_ ?_ ?_ ?_ ?_ ?_ ?_ ?_ ?_ ?_ ?_ ?_ h
 ·exact .bO
 ·exact fun b=>.bl b
 ·exact fun i=>.int i
 ·exact fun z h=>.str z h
 ·exact fun n=>.ty n
 ·exact fun h=>.uC (s.h.seq h)
 ·exact fun h _ r=>.tup (s.h.tup h) r
 ·exact fun h _ r=>.lst (s.h _ _ h) r
 ·exact fun h e _ r=>.bw (Rd.same s.h h) e r
 ·exact fun h=>.at (s.x _ _ h)
 ·exact fun h e _ r=>.uD (s.h _ _ h) e r
 ·exact fun h e _ r=>.ob (s.h _ _ h) e r
 ·exact fun h c=>.yM (s.h _ _ h) c
 ·exact .nil
 ·exact fun _ _ h r=>.cons h r
theorem bc.same (s:dQ H H'):∀{vs:List V} {ts:List Tr},bc K H vs ts->bc K H' vs ts
 |[],_,h=>by cases h;exact .nil
 |_::_,_,h=>by cases h with|cons h r=>exact .cons (h.same s) (bc.same s r)
theorem bc.length:∀{vs:List V} {ts:List Tr},bc K H vs ts->vs.length=ts.length
 |[],_,h=>by cases h;rfl
 |_::_,_,h=>by cases h with|cons h r=>rw[cG,cG,bc.length r]
theorem bc.get:∀{vs:List V} {ts:List Tr} {i:Nat} {t:Tr},bc K H vs ts->ts[i]?=some t->∃v,vs[i]?=some v/\Rep K H v t
 |[],_,i,t,h,e=>by cases h;simp at e
 |_::_,_,0,t,h,e=>by cases h with|cons h r=>simp at e;subst e;exact⟨_,rfl,h⟩
 |_::_,_,i+1,t,h,e=>by
  cases h with
  |cons h r=>
   obtain⟨v,e1,r1⟩:=bc.get (i:=i) (t:=t) r (by simpa using e);exact⟨v,by simpa using e1,r1⟩
theorem bc.wH:∀{vs:List V} {ts:List Tr} {i:Nat} {v:V},bc K H vs ts->vs[i]?=some v->∃t,ts[i]?=some t/\Rep K H v t
 |[],_,i,t,h,e=>by simp at e
 |_::_,_,0,t,h,e=>by cases h with|cons h r=>simp at e;subst e;exact⟨_,rfl,h⟩
 |_::_,_,i+1,t,h,e=>by
  cases h with
  |cons h r=>
   obtain⟨v,e1,r1⟩:=bc.wH (i:=i) r (by simpa using e);exact⟨v,by simpa using e1,r1⟩
theorem bc.append:∀{vs ws:List V} {ts us:List Tr},bc K H vs ts->bc K H ws us->bc K H (vs++ws) (ts++us)
 |[],_,_,_,h,q=>by cases h;exact q
 |_::_,_,_,_,h,q=>by cases h with|cons h r=>exact .cons h (bc.append r q)
theorem bc.take:∀{vs:List V} {ts:List Tr} (n:Nat),bc K H vs ts->bc K H (vs.take n) (ts.take n)
 |_,_,0,_=>by rw[List.take_zero,List.take_zero];exact .nil
 |[],_,_+1,h=>by cases h;exact .nil
 |_::_,_,n+1,h=>by cases h with|cons h r=>exact .cons h (bc.take n r)
theorem bc.drop:∀{vs:List V} {ts:List Tr} (n:Nat),bc K H vs ts->bc K H (vs.drop n) (ts.drop n)
 |_,_,0,h=>h
 |[],_,_+1,h=>by cases h;exact .nil
 |_::_,_,n+1,h=>by cases h with|cons h r=>exact bc.drop n r
theorem bc.rep {vs:List V}(h:bc K H vs ts):∀n:Nat,bc K H (List.replicate n vs).flatten (List.replicate n ts).flatten
 |0=>.nil
 |n+1=>by
  rw[mz,mz,ly,ly];exact h.append (bc.rep h n)
theorem yN:∀{zs:List Str},(∀z∈zs,z.length<=cw)->bc K H (zs.map V.str) (zs.map Tr.str)
 |[],_=>.nil
 |z::zs,h=>.cons (.str z (h z (bM ..))) (yN fun y hy=>h y (bF _ hy))
end
structure d7 where
 hd:Addr->Bool
 ix:Addr->Option Nat
variable {B:d7}
instance:CoeFun d7 (fun _=>Addr->Bool):=⟨d7.hd⟩
def bz(B:d7)(H:Hp):Vw:=⟨fun b=>if B.hd b=true then none else H b,B.ix⟩
def HB(B:d7)(H:Hp):Prop:=∀b,B.hd b=true->∃o,H b=some o
section
variable {B':d7}{H':Hp}
theorem fK{b:Addr}(h:B.hd b=false):(bz B H).H b=H b:=by show(if B.hd b=true then none else H b)=_;rw[h,ay eR]
theorem aZ:aE (bz B H).H H:=fun b o (e:(if B.hd b=true then none else H b)=some o)=>by
 split at e
 ·cases e
 ·exact e
theorem aX(s:aE H H'):dQ (bz B H) (bz B H'):=⟨fun b o (e:(if B.hd b=true then none else H b)=some o)=>by
 show(if B.hd b=true then none else H' b)=some o;split at e
 ·cases e
 ·rw[ay (by assumption)];exact s b o e,fun _ _ e=>e⟩
def raw(B:d7)(H:Hp):Vw:=⟨H,B.ix⟩
theorem eI:dQ (bz B H) (raw B H):=⟨aZ,fun _ _ e=>e⟩
theorem HB.same (h:HB B H)(s:aE H H'):HB B H':=fun b e=>by obtain⟨o,q⟩:=h b e;exact⟨o,s b o q⟩
theorem HB.free {p:Addr}(h:HB B H)(hp:H p=none):B.hd p=false:=by
 cases e:B.hd p with
 |false=>rfl
 |true=>obtain⟨o,q⟩:=h p e;rw[hp]at q;cases q
theorem HB.new {p:Addr}{o:HO}(h:HB B H)(hp:H p=none):(bz B (upd H p o)).H p=some o:=by rw[fK (h.free hp)];exact a_
structure uE(B B':d7):Prop where
 hd:∀b,B.hd b=true->B'.hd b=true
 ix:∀b i,B'.ix b=some i->B.ix b=some i
theorem wI(h:uE B B'):dQ (bz B' H) (bz B H):=⟨fun b o (e:(if B'.hd b=true then none else H b)=some o)=>by
 show(if B.hd b=true then none else H b)=some o;split at e
 ·cases e
 ·rename_i n;rw[ay fun z=>n (h.hd b z)];exact e,h.ix⟩
end
inductive Rs(α:Type) where
 |bad|ok (a:α)|exc (c:Tr)
variable {h:List Tr->Rs Tr}
def Rs.bind {α β:Type}(r:Rs α)(f:α->Rs β):Rs β:=match r with
 |.ok a=>f a
 |.exc c=>.exc c
 |.bad=>.bad
def XA(X:Cx)(c:Tr)(H:Hp):Prop:=False
def pG(xc:Tr->Prop){α:Type}(r:Rs α)(k:α->Prop):Prop:=match r with
 |.ok a=>k a
 |.exc c=>xc c
 |.bad=>False
def xP(X:Cx)(H:Hp):Tr->Prop:=fun c=>∀H',aE H H'->XA X c H'
def Fi(X:Cx)(H:Hp){α:Type}(r:Rs α)(k:α->Prop):Prop:=pG (xP X H) r k
section
variable {H':Hp}{α β:Type}{r:Rs α}{k k':α->Prop}{xc TQ:Tr->Prop}
theorem pG.mono (h:pG xc r k)(w:∀a,k a->k' a):pG xc r k':=by
 cases r with
 |ok a=>exact w a h
 |_=>exact h
theorem pG.imp (h:pG xc r k)(w:∀c,xc c->TQ c):pG TQ r k:=by
 cases r with
 |ok a=>exact h
 |exc c=>exact w c h
 |bad=>exact h
theorem pG.bind {f:α->Rs β}{k:β->Prop}(h:pG xc (r.bind f) k):pG xc r fun a=>pG xc (f a) k:=by
 cases r with
 |_=>exact h
theorem Fi.mono (h:Fi X H r k)(w:∀a,k a->k' a):Fi X H r k':=pG.mono h w
theorem Fi.same (h:Fi X H r k)(s:aE H H'):Fi X H' r k:=pG.imp h fun _ q H2 s2=>q H2 (s.trans s2)
theorem Fi.bind {f:α->Rs β}{k:β->Prop}(h:Fi X H (r.bind f) k):Fi X H r fun a=>Fi X H (f a) k:=pG.bind h
end
inductive Cell where
 |no|sh (t:Tr)|ow (ts:List Tr)
abbrev bf:=List Cell
variable {F G:bf->Rs Tr}{L:bf->Rs (List Tr)}
structure bV(K:Frag)(B:d7)(H:Hp)(Z:St)(Y:bf):Prop where
 len:Y.length=Z.length
 sh:∀(i:Nat) (t:Tr),Y[i]?=some (.sh t)->∃v,Z[i]?=some (some v)/\Rep K (bz B H) v t
 ow:∀(i:Nat) (ts:List Tr),Y[i]?=some (.ow ts)->∃D ys,Z[i]?=some (some (.ref D))/\B D=true/\H D=some (.lst ys)/\bc K (bz B H) ys ts
 ap:∀(i j:Nat) (ts us:List Tr) (D:Addr),i≠j->Y[i]?=some (.ow ts)->Y[j]?=some (.ow us)->Z[i]?=some (some (.ref D))->Z[j]? ≠some (some (.ref D))
section
variable {B':d7}{H':Hp}{Y:bf}
theorem bV.same (h:bV K B H Z Y)(s:aE H H'):bV K B H' Z Y:=
 ⟨h.len,fun i t e=>by obtain⟨v,e1,r⟩:=h.sh i t e;exact⟨v,e1,r.same (aX s)⟩,
   fun i ts e=>by obtain⟨D,ys,e1,e2,e3,r⟩:=h.ow i ts e;exact⟨D,ys,e1,e2,s _ _ e3,r.same (aX s)⟩,h.ap⟩
theorem eO{α:Type}{l:List α}{j:Nat}{x y:α}(e:(l.set i x)[j]?=some y):(i=j/\i<l.length/\y=x)\/(i≠j/\l[j]?=some y):=by
 rw[lz]at e;by_cases zQ:i=j
 ·rw[au zQ]at e;by_cases hl:i<l.length
  ·rw[au hl]at e;exact .inl ⟨zQ,hl,(Option.some.inj e).symm⟩
  ·rw[ay hl]at e;cases e
 ·rw[ay zQ]at e;exact .inr ⟨zQ,e⟩
theorem bV.set {v:V}{t:Tr}(h:bV K B H Z Y)(i:Nat)(r:Rep K (bz B H) v t):bV K B H (Z.set i (some v)) (Y.set i (.sh t)):=by
 refine⟨by rw[jP,jP];exact h.len,fun j u e=>?_,fun j us e=>?_,fun j k us ws D hjk e1 e2 e3=>?_⟩
 ·rcases eO e with⟨rfl,hl,q⟩|⟨zQ,q⟩
  ·cases q;exact⟨v,by rw[lz,au rfl,au (by rw[<-h.len];exact hl)],r⟩
  ·obtain⟨w,e1,r1⟩:=h.sh j u q;exact⟨w,by rw[lz,ay zQ];exact e1,r1⟩
 ·rcases eO e with⟨rfl,hl,q⟩|⟨zQ,q⟩
  ·cases q
  ·obtain⟨D,ys,e1,r1⟩:=h.ow j us q;exact⟨D,ys,by rw[lz,ay zQ];exact e1,r1⟩
 ·rcases eO e1 with⟨rfl,hl,q⟩|⟨zQ,q⟩
  ·cases q
  ·rcases eO e2 with⟨rfl,hl,q2⟩|⟨U6,q2⟩
   ·cases q2
   ·rw[lz,ay zQ]at e3;rw[lz,ay U6];exact h.ap j k us ws D hjk q q2 e3
end
def startT(n:Nat)(ts:List Tr):bf:=ts.map Cell.sh++List.replicate (n - ts.length) .no
theorem pH{n:Nat}{c:Cell}(e:(startT n ts)[i]?=some c):c=.no\/∃t,ts[i]?=some t/\c=.sh t:=by
 unfold startT at e;by_cases hi:i<ts.length
 ·rw[nE (by rw[aK];exact hi),bA]at e;cases q:ts[i]? with
  |none=>rw[q]at e;cases e
  |some u=>rw[q]at e;exact .inr ⟨u,rfl,(Option.some.inj e).symm⟩
 ·rw[vF (by rw[aK];omega),rg]at e;split at e
  ·exact .inl (Option.some.inj e).symm
  ·cases e
theorem bV.start {vs:List V}(h:bc K (bz B H) vs ts):bV K B H (start ps vs) (startT ps.length ts):=by
 have hl:=h.length;refine⟨by unfold L2.start startT;simp only[dW,aK,vM];omega,fun i t e=>?_,fun i us e=>?_,fun i j us ws D _ e _ _=>?_⟩
 ·rcases pH e with q|⟨u,q,q2⟩
  ·cases q
  ·cases q2;obtain⟨v,e1,r⟩:=h.get q;have hi:i<vs.length:=(fi.mp e1).1;refine⟨v,?_,r⟩;unfold L2.start;rw[nE (by rw[aK];exact hi),bA,e1]
   rfl
 ·rcases pH e with q|⟨u,q,q2⟩
  ·cases q
  ·cases q2
 ·rcases pH e with q|⟨u,q,q2⟩
  ·cases q
  ·cases q2
def isStar:Expr->Bool
 |.Starred .. =>true
 |_=>false
theorem aY(es:List Expr)(env:Env)(h:isStar e=false):starEach (e::es) env=(false,eval e env)::starEach es env:=by
 cases e<;>first|rfl|cases h
def aP(es:List Expr):Bool:=es.all fun e=>!isStar e
theorem cg{env:Env}:∀{es:List Expr},aP es=true->(backTo pos (starEach es env)).any (·.1)=false
 |[],_=>by rw[starEach];rfl
 |e::es,h=>by
  unfold aP at h;rw[gG,bp]at h;have h1:isStar e=false:=by simpa using h.1
  rw[aY es env h1];exact cg (es:=es) h.2
theorem iN{env:Env}:∀{es:List Expr},aP es=true->(backTo pos (starEach es env)).all (fun x=>!x.1)=true
 |[],_=>by rw[starEach];rfl
 |e::es,h=>by
  unfold aP at h;rw[gG,bp]at h;have h1:isStar e=false:=by simpa using h.1
  rw[aY es env h1];exact iN (es:=es) h.2
theorem aG{es:List Expr}(h:aP (e::es)=true):isStar e=false/\aP es=true:=by
 unfold aP at h;rw[gG,bp]at h;exact⟨by simpa using h.1,h.2⟩
def qP:Expr->Bool
 |.ListComp .. =>true
 |.SetComp .. =>true
 |.DictComp .. =>true
 |_=>false
theorem wJ{t:Option Expr}{env:Env}(h:qP e=false):swapsWith e t i env=pure false:=by
 cases e<;>first|rfl|cases h
def lQ:Expr->Bool
 |.UnaryOp .. =>false
 |.BoolOp .. =>false
 |.IfExp .. =>false
 |.Compare .. =>false
 |_=>true
theorem wK{env:Env}(h:lQ e=true):∀whole,isTrue e env whole=(do let v<-whole;standAt e.pos;holding [v] (truthy v)):=by
 intro whole;cases e<;>first|rfl|cases h
def isSet:Expr->Bool
 |.Set .. =>true
 |_=>false
theorem gx{env:Env}(h:isSet e=false):∀x,foldedSetIterable e env x=pure x:=by
 intro x;cases e<;>first|rfl|cases h
def isCall:Expr->Bool
 |.Call .. =>true
 |_=>false
theorem fu{env:Env}{w:Sem Value}(h:isCall o=false):attributeBase o x env w=w:=by
 cases o<;>first|rfl|cases h
inductive tP(X:Cx)(F:bf->Rs Tr)(Z:St)(H:Hp)(Q:VK):Prop
 |mk (B:d7) (Y:bf):HB B H->bV X.K B H Z Y->(Fi X H (F Y) fun t=>∀v H',aE H H'->Rep X.K (bz B H') v t->Q v H')->tP X F Z H Q
inductive tQ(X:Cx)(F:bf->Rs Bool)(Z:St)(H:Hp)(Q:Bool->Hp->Prop):Prop
 |mk (B:d7) (Y:bf):HB B H->bV X.K B H Z Y->(Fi X H (F Y) fun b=>∀H',aE H H'->Q b H')->tQ X F Z H Q
inductive BA(X:Cx)(F:bf->Rs (List Tr))(Z:St)(H:Hp)(Q:List V->Hp->Prop):Prop
 |mk (B:d7) (Y:bf):HB B H->bV X.K B H Z Y->(Fi X H (F Y) fun ts=>∀vs H',aE H H'->bc X.K (bz B H') vs ts->Q vs H')->BA X F Z H Q
inductive Out where
 |nx (Y:bf)|ret (t:Tr)|bk (Y:bf)|ct (Y:bf)
structure dv(C B0:d7)(H0:Hp)(B:d7)(H:Hp):Prop where
 kp:∀b o,C b=true->H0 b=some o->H b=some o
 jH:dQ (bz B0 H0) (bz B H)
 sub:uE C B
 hb:HB B H
section
variable {C B0 B1 B2:d7}{H0 H' H1 H2:Hp}
theorem dv.go (h:dv C B0 H0 B H)(s:aE H H'):dv C B0 H0 B H':=⟨fun b o c e=>s _ _ (h.kp b o c e),h.jH.trans (aX s),h.sub,h.hb.same s⟩
theorem uE.refl:uE B B:=⟨fun _ e=>e,fun _ _ e=>e⟩
theorem dv.refl (h:HB B H)(c:uE C B):dv C B H B H:=⟨fun _ _ _ e=>e,dQ.refl _,c,h⟩
theorem dv.trans (h:dv C B0 H0 B1 H1)(q:dv C B1 H1 B2 H2):dv C B0 H0 B2 H2:=⟨fun b o c e=>q.kp b o c (h.kp b o c e),h.jH.trans q.jH,q.sub,q.hb⟩
theorem dv.same (h:dv C C H0 B H):aE H0 H:=fun b o e=>by
 cases q:C b with
 |true=>exact h.kp b o q e
 |false=>exact aZ _ _ (h.jH.h b o (by rw[fK q];exact e))
end
def DE(X:Cx)(D:Ends)(C B0:d7)(H0:Hp):Out->Prop
 |.nx Y=>∀cK B' H',dv C B0 H0 B' H'->bV X.K B' H' cK Y->D.nx cK H'
 |.ret t=>∀v B' H',dv C B0 H0 B' H'->Rep X.K (bz C H') v t->D.rt v H'
 |.bk Y=>∀cK B' H',dv C B0 H0 B' H'->bV X.K B' H' cK Y->D.bk cK H'
 |.ct Y=>∀cK B' H',dv C B0 H0 B' H'->bV X.K B' H' cK Y->D.ct cK H'
def xS(X:Cx)(C B0:d7)(H0:Hp):Tr->Prop:=fun c=>∀B' H',dv C B0 H0 B' H'->XA X c H'
inductive tS(X:Cx)(G:bf->Rs Out)(D:Ends)(Z:St)(H:Hp):Prop
 |mk (C:d7) (B0:d7) (H0:Hp) (B:d7) (Y:bf):dv C B0 H0 B H->bV X.K B H Z Y->pG (xS X C B0 H0) (G Y) (DE X D C B0 H0)->tS X G D Z H
theorem PE.weak {t t':TE}(h:PE X e t)(w:∀Z H Q,t' Z H Q->t Z H Q):PE X e t':=fun U s Z H Q I q=>h U s Z H Q I (w Z H Q q)
theorem PT.weak {t t':TT}(h:PT X e t)(w:∀Z H Q,t' Z H Q->t Z H Q):PT X e t':=fun U s Z H Q I q=>h U s Z H Q I (w Z H Q q)
theorem PW.weak {t t':TT}(h:PW X e t)(w:∀Z H Q,t' Z H Q->t Z H Q):PW X e t':=fun wh U s Z H Q I q=>h wh U s Z H Q I (w Z H Q q)
theorem PA.weak {t t':TA}(h:PA X es t)(w:∀Z H Q,t' Z H Q->t Z H Q):PA X es t':=fun pos U s Z H Q I q=>h pos U s Z H Q I (w Z H Q q)
theorem PS.weak {st:Stmt}{t t':TS}(h:PS X st t)(w:∀D Z H,t' D Z H->t D Z H):PS X st t':=fun U s Z H D I q=>h U s Z H D I (w D Z H q)
theorem nC.weak {st:List Stmt}{t t':TS}(h:nC X st t)(w:∀D Z H,t' D Z H->t D Z H):nC X st t':=fun U s Z H D I q=>h U s Z H D I (w D Z H q)
def wL(Y:bf)(i:Nat):Rs Tr:=match Y[i]? with
 |some (.sh t)=>.ok t
 |_=>.bad
theorem Jd{Y:bf}{k:Tr->Prop}(r:bV X.K B H Z Y)(h:Fi X H (wL Y i) k):∃v t,Z[i]?=some (some v)/\Rep X.K (bz B H) v t/\k t:=by
 unfold wL at h;split at h
 ·rename_i t e;obtain⟨v,e1,r1⟩:=r.sh i t e;exact⟨v,t,e1,r1,h⟩
 ·exact h.elim
section
variable {b:Expr}{E:bf->Rs Tr}
theorem U7(i:Nat)(hN:X.N[i]?=some x:=by rfl) (hv:Yi X.env.scope x:=by first|exact Or.inl rfl|exact Or.inr (Or.inl rfl)|exact Or.inr (Or.inr rfl)) (hd:Db x:=by decide)
  (Dk:(x==("__classdict__":Str))=false:=by decide):PE X (.Name x pos) (tP X fun Y=>wL Y i):=
 (PQ hN hv hd Dk).weak fun Z H Q ⟨B,Y,hb,r,q⟩=>by
  obtain⟨v,t,e,r1,k⟩:=Jd r q;exact⟨v,e,k v H (aE.refl H) r1⟩
theorem BB{v:V}{t:Tr}(h:PE X e (tC v))(r:∀H,Rep X.K H v t):PE X e (tP X fun _=>.ok t):=
 h.weak fun Z H Q ⟨B,Y,_,_,q⟩=>q v H (aE.refl H) (r _)
theorem U8{i:Int}{j pos}:PE X (.Constant (.int i) j pos) (tP X fun _=>.ok (.int i)):=BB PR fun H=>.int i
theorem ZF{b:Bool}{j pos}:PE X (.Constant (.bool b) j pos) (tP X fun _=>.ok (.bl b)):=BB Us fun H=>.bl b
theorem U9{j pos}:PE X (.Constant .none j pos) (tP X fun _=>.ok .bO):=BB PU fun H=>.bO
theorem U_{j pos}(hz:x.length<=cw:=by decide):PE X (.Constant (.str x) j pos) (tP X fun _=>.ok (.str x)):=BB PV fun H=>.str x hz
def U'(K:Frag)(mg:Str->Option Value)(x:Str)(t:Tr):Prop:=∃v u,mg x=some u/\RelV v u/\∀H,Rep K H v t
theorem ZG{n:String}(hm:X.mg x=none)(hv:bootBuiltins x=some (.type n):=by rfl) (hg:Gl X x:=by rfl) (hn:x≠"__name__":=by decide) (hd:Db x:=by decide):PE X (.Name x pos) (tP X fun _=>.ok (.ty n)):=
 BB (EM (v:=.ty n) hg hm hv rfl hn hd) fun H=>.ty n
def Je(h:Tr->Tr->Rs Tr)(o b:Rs Tr):Rs Tr:=o.bind fun x=>b.bind fun y=>h x y
inductive rT(X:Cx)(h:Tr->Tr->Rs Tr)(x:V)(y:V)(H:Hp)(Q:VK):Prop
 |mk (B:d7) (tx:Tr) (ty:Tr):HB B H->Rep X.K (bz B H) x tx->Rep X.K (bz B H) y ty->(Fi X H (h tx ty) fun t=>∀v H',aE H H'->Rep X.K (bz B H') v t->Q v H')->rT X h x y H Q
abbrev A6(X:Cx)(f:Value->Value->Sem Value)(h:Tr->Tr->Rs Tr):Prop:=t7 X f (rT X h)
theorem sI{h:Tr->Tr->Rs Tr}{Q:VK}(q:tP X (fun Y=>Je h (F Y) (G Y)) Z H Q):P0 (rT X h) (tP X F) (tP X G) Z H Q:=by
 obtain⟨B,Y,hb,r,q⟩:=q;refine⟨B,Y,hb,r,q.bind.mono fun x qx v H1 s1 r1=>⟨B,Y,hb.same s1,r.same s1,(qx.bind.same s1).mono fun y qy u H2 s2 r2=>⟨B,x,y,(hb.same s1).same s2,r1.same (aX s2),r2,?_⟩⟩⟩;exact(qy.same (s1.trans s2)).mono fun t qt w H3 s3 r3=>qt w H3 ((s1.trans s2).trans s3) r3
theorem Va{op:Operator}{h:Tr->Tr->Rs Tr}(ho:A6 X (binaryOp op) h)(ha:PE X o (tP X F))(hb:PE X b (tP X G)):PE X (.BinOp o op b pos) (tP X fun Y=>Je h (F Y) (G Y)):=
 (UA ho ha hb).weak fun _ _ _ q=>sI q
theorem Vb{op:CmpOp}{h:Tr->Tr->Rs Tr}(ho:A6 X (compareOp op) h)(ha:PE X o (tP X F))(hb:PE X b (tP X G))(hm:behindInMarks op b=false:=by first|exact zJ _|rfl|with_unfolding_all rfl):PE X (.Compare o [op] [b] pos) (tP X fun Y=>Je h (F Y) (G Y)):=
 (Me ho ha hb hm).weak fun _ _ _ q=>sI q
def Yt(r:Rs Tr):Rs Bool:=r.bind fun t=>match t with
 |.bl b=>.ok b
 |_=>.bad
theorem Rep.wM {H:Vw}{v:V}{b:Bool}(h:Rep K H v (.bl b)):v=.bl b:=by cases h;rfl
theorem fb{W:Vw}{xs:List V}{t:Tr}(r:bc K W xs [t]):∃x,xs=[x]/\Rep K W x t:=by
 cases r with
 |cons o r=>cases r;exact⟨_,rfl,o⟩
theorem yO{W:Vw}{xs:List V}{t u:Tr}(r:bc K W xs [t,u]):∃x y,xs=[x,y]/\Rep K W x t/\Rep K W y u:=by
 cases r with
 |cons o r=>
  obtain⟨y,rfl,b⟩:=fb r;exact⟨_,_,rfl,o,b⟩
theorem Rep.E8 {H:Vw}{v:V}{ns:List Int}(h:Rep K H v (.uC ns)):∃o,v=.ref o/\kB K H.H o (ns.map V.int):=by cases h;exact⟨_,rfl,by assumption⟩
theorem Rep.mE {H:Vw}{v:V}{aM:List (Key×Tr)}(h:Rep K H v (.bw aM)):∃o kvs,v=.ref o/\Rd H.H o (.dK kvs)/\kvs.map (·.1)=aM.map (·.1)/\bc K H (kvs.map (·.2)) (aM.map (·.2)):=by cases h;exact⟨_,_,rfl,by assumption,by assumption,by assumption⟩
theorem Rep.mF {H:Vw}{v:V}(h:Rep K H v (.at i)):∃o,v=.ref o/\H.ix o=some i:=by cases h;exact⟨_,rfl,by assumption⟩
theorem Rep.zR {H:Vw}{v:V}{fs:List (Str×Tr)}(h:Rep K H v (.ob x fs)):∃o dx gw,v=.ref o/\H.H o=some (.ins (clsAt K x) dx gw)/\gw.map (·.1)=fs.map (·.1)/\bc K H (gw.map (·.2)) (fs.map (·.2)):=by cases h;exact⟨_,_,_,rfl,by assumption,by assumption,by assumption⟩
theorem Rep.ME {H:Vw}{v:V}(h:Rep K H v .bO):v=.bO:=by cases h;rfl
theorem Rep.int_inv {H:Vw}{v:V}{i:Int}(h:Rep K H v (.int i)):v=.int i:=by cases h;rfl
theorem Rep.str_inv {H:Vw}{v:V}{z:Str}(h:Rep K H v (.str z)):v=.str z/\z.length<=cw:=by cases h;exact⟨rfl,by assumption⟩
theorem Rep.dr {H:Vw}{v:V}(h:Rep K H v (.tup ts)):∃o vs,v=.ref o/\g9 K H.H o vs/\bc K H vs ts:=by cases h;exact⟨_,_,rfl,by assumption,by assumption⟩
theorem Rep.lst_inv {H:Vw}{v:V}(h:Rep K H v (.lst ts)):∃o vs,v=.ref o/\H.H o=some (.lst vs)/\bc K H vs ts:=by cases h;exact⟨_,_,rfl,by assumption,by assumption⟩
theorem hide{G:Prop}(k:∀P:Prop,(G->P)->P):G:=k G id
theorem MF{r:Rs Tr}{k:Bool->Prop}(h:Fi X H (Yt r) k):Fi X H r fun t=>∃b,t=.bl b/\k b:=by
 refine h.bind.mono fun t q=>?_
 cases t with
 |bl b=>exact⟨b,rfl,q⟩
 |_=>exact q.elim
theorem Vc{op:CmpOp}{h:Tr->Tr->Rs Tr}(ho:A6 X (compareOp op) h)(ha:PE X o (tP X F))(hb:PE X b (tP X G))(hm:behindInMarks op b=false:=by first|exact zJ _|rfl|with_unfolding_all rfl):PT X (.Compare o [op] [b] pos) (tQ X fun Y=>Yt (Je h (F Y) (G Y))):=
 (Mf ho ha hb hm).weak fun Z H Q ⟨B,Y,hb,r,q⟩=>by
  refine sI (Q:=fun x H'=>∃k,x=.bl k/\Q k H') ⟨B,Y,hb,r,(MF q).mono fun t qt v H' s' r'=>?_⟩;obtain⟨b,rfl,k⟩:=qt;exact⟨b,r'.wM,k H' s'⟩
def oH:Tr->Rs Bool
 |.bO=>.ok false
 |.bl b=>.ok b
 |.int i=>.ok (i !=0)
 |.str z=>.ok ((z.length:Int) !=0)
 |.tup ts=>.ok (!ts.isEmpty)
 |.lst ts=>.ok (!ts.isEmpty)
 |.bw aM=>.ok (!aM.isEmpty)
 |_=>.bad
theorem bc.isEmpty {H:Vw}{vs:List V}(h:bc K H vs ts):vs.isEmpty=ts.isEmpty:=by cases h<;>rfl
theorem kD:cw<=sizeLine:=by rw[c_];decide
theorem MG{H:Vw}{v:V}{t:Tr}{b:Bool}(r:Rep K H v t)(e:oH t=.ok b):Mg K v H b:=by
 cases r with
 |bO=>cases e;rfl
 |bl tg=>cases e;rfl
 |int i=>cases e;rfl
 |str z h=>cases e;exact⟨bP h kD,rfl⟩
 |ty n=>cases e
 |tup h r=>cases e;exact .inr (.inl ⟨_,h,by rw[r.isEmpty]⟩)
 |lst h r=>cases e;exact .inl ⟨_,.of h,by rw[r.isEmpty]⟩
 |uC h=>cases e
 |«at» h=>cases e
 |uD h e1 rr=>cases e
 |ob h e1 rr=>cases e
 |yM h tg=>cases e
 |bw h e1 r=>
  cases e;refine .inr (.inr ⟨_,h,?_⟩);rename_i kvs aM;cases kvs<;>cases aM<;>first|rfl|cases e1
theorem wN{H:Vw}{v:V}{t:Tr}{k:Bool->Prop}(r:Rep X.K H v t)(h:Fi X H (oH t) k):∃b,Mg X.K v H b/\k b:=by
 cases e:oH t with
 |ok b=>rw[e]at h;exact⟨b,MG r e,h⟩
 |exc tg=>cases t<;>cases e
 |bad=>rw[e]at h;exact h.elim
theorem Vd(ha:PE X o (tP X F))(he:lQ o=true:=by rfl):PT X o (tQ X fun Y=>(F Y).bind oH):=
 (Bk ha (wK he)).weak fun Z H Q ⟨B,Y,hb,r,q⟩=>⟨B,Y,hb,r,q.bind.mono fun t qt v H' s' r'=>by
  obtain⟨b,h1,h2⟩:=wN (r'.same eI) (qt.same s');exact⟨b,h1,h2 H' s'⟩⟩
def GK(r:Rs Bool):Rs Bool:=r.bind fun b=>.ok (!b)
variable {A B:bf->Rs Bool}{c8:List Expr}
theorem Ve(ha:PT X o (tQ X A)):PT X (.UnaryOp .Not o pos) (tQ X fun Y=>GK (A Y)):=
 (Io ha).weak fun Z H Q ⟨B,Y,hb,r,q⟩=>⟨B,Y,hb,r,q.bind⟩
def GL(o b:Rs Bool):Rs Bool:=o.bind fun tg=>if tg then b else .ok false
def Vf(o b:Rs Bool):Rs Bool:=o.bind fun tg=>if tg then .ok true else b
theorem QU(ha:PT X o (tQ X A)):PW X (.BoolOp .And [o] pos) (tQ X A):=pw_and1 ha
theorem Vg(ha:PT X o (tQ X A)):PW X (.BoolOp .Or [o] pos) (tQ X A):=pw_or1 ha
theorem w_and(ha:PT X o (tQ X A))(hb:PW X (.BoolOp .And (b::c8) pos) (tQ X B)):PW X (.BoolOp .And (o::b::c8) pos) (tQ X fun Y=>GL (A Y) (B Y)):=
 (pw_and ha hb).weak fun Z H Q ⟨Bb,Y,hb,r,q⟩=>⟨Bb,Y,hb,r,q.bind.mono fun tg qc H1 s1=>by
  cases tg with
  |true=>exact⟨Bb,Y,hb.same s1,r.same s1,(Fi.same qc s1).mono fun b qb H2 s2=>qb H2 (s1.trans s2)⟩
  |false=>exact qc H1 s1⟩
theorem w_or(ha:PT X o (tQ X A))(hb:PW X (.BoolOp .Or (b::c8) pos) (tQ X B)):PW X (.BoolOp .Or (o::b::c8) pos) (tQ X fun Y=>Vf (A Y) (B Y)):=
 (pw_or ha hb).weak fun Z H Q ⟨Bb,Y,hb,r,q⟩=>⟨Bb,Y,hb,r,q.bind.mono fun tg qc H1 s1=>by
  cases tg with
  |false=>exact⟨Bb,Y,hb.same s1,r.same s1,(Fi.same qc s1).mono fun b qb H2 s2=>qb H2 (s1.trans s2)⟩
  |true=>exact qc H1 s1⟩
theorem QV{op}(h:PW X (.BoolOp op es pos) (tQ X A)):PT X (.BoolOp op es pos) (tQ X A):=h.pt
def Vh(o b:Rs Tr):Rs Tr:=o.bind fun t=>(oH t).bind fun tg=>if tg then b else .ok t
theorem Vi(ha:PE X o (tP X F))(hb:PE X (.BoolOp .And (b::c8) pos) (tP X G)):PE X (.BoolOp .And (o::b::c8) pos) (tP X fun Y=>Vh (F Y) (G Y)):=by
 intro U s Z H Q I ⟨B,Y,hB,r,q⟩;refine BoolOp_and (dA (ha U s Z H _ I ⟨B,Y,hB,r,q.bind.mono fun t qt v H1 s1 r1=>(show∃t,Rep X.K (bz B H1) v t/\aE H H1/\Fi X H ((oH t).bind fun tg=>if tg then G Y else .ok t) (fun t=>∀v H',aE H H'->Rep X.K (bz B H') v t->Q v H')from⟨t,r1,s1,qt⟩)⟩) fun v s1 ⟨x,H1,I1,r1,t,rt,sm,qt⟩=>?_);obtain⟨tg,h1,h2⟩:=wN (rt.same eI) (qt.bind.same sm);refine dA (ID U s1 Z H1 x v (fun k H'=>k=tg/\H'=H1) I1 r1 ⟨tg,h1,rfl,rfl⟩) fun k s2 ⟨H2,I2,e1,e2⟩=>?_
 subst e1 e2;cases k with
 |true=>exact hb U s2 Z _ Q I2 ⟨B,Y,hB.same sm,r.same sm,(Fi.same h2 sm).mono fun t q v H' s' r'=>q v H' (sm.trans s') r'⟩
 |false=>exact⟨x,_,I2,r1,h2 x _ sm rt⟩
theorem Vj{op}(h:PE X o (tP X F)):PE X (.BoolOp op [o] pos) (tP X F):=PX h
def QX(r:Rs Bool):Rs Tr:=r.bind fun b=>.ok (.bl b)
def Jf(tg:Rs Bool)(o b:Rs Tr):Rs Tr:=tg.bind fun k=>if k then o else b
theorem ZH(hc:PT X tg (tQ X A))(ha:PE X o (tP X F))(hb:PE X b (tP X G)):PE X (.IfExp tg o b pos) (tP X fun Y=>Jf (A Y) (F Y) (G Y)):=
 (Ip hc ha hb).weak fun Z H Q ⟨B,Y,hb,r,q⟩=>⟨B,Y,hb,r,q.bind.mono fun k qk H1 s1=>by
  cases k with
  |true=>exact⟨B,Y,hb.same s1,r.same s1,(Fi.same qk s1).mono fun t q v H2 s2 r2=>q v H2 (s1.trans s2) r2⟩
  |false=>exact⟨B,Y,hb.same s1,r.same s1,(Fi.same qk s1).mono fun t q v H2 s2 r2=>q v H2 (s1.trans s2) r2⟩⟩
def wO(o:Rs Tr)(l:Rs (List Tr)):Rs (List Tr):=o.bind fun x=>l.bind fun xs=>.ok (x::xs)
theorem E9:PA X [] (BA X fun _=>.ok []):=qM.weak fun Z H Q ⟨B,Y,hb,r,q⟩=>q [] H (aE.refl H) .nil
theorem zS(ha:PE X o (tP X F))(hr:PA X es (BA X L))(hs:isStar o=false:=by rfl):PA X (o::es) (BA X fun Y=>wO (F Y) (L Y)):=
 (kC ha hr (aY _ _ hs)).weak fun Z H Q ⟨B,Y,hb,r,q⟩=>⟨B,Y,hb,r,q.bind.mono fun x qx v H1 s1 r1=>⟨B,Y,hb.same s1,r.same s1,(qx.bind.same s1).mono fun xs qs vs H2 s2 r2=>qs _ H2 (s1.trans s2) (.cons (r1.same (aX s2)) r2)⟩⟩
def ee:Nat:=16777216
theorem i8:ee=sizeLine:=c_.symm
def zT(l:Rs (List Tr)):Rs Tr:=l.bind fun ts=>if ts.length<=ee then .ok (.tup ts)else .bad
def BC(l:Rs (List Tr)):Rs Tr:=l.bind fun ts=>if ts.length<=ee then .ok (.lst ts)else .bad
theorem Vk{x1}(h:PA X es (BA X L)):PE X (.Tuple es x1 pos) (tP X fun Y=>zT (L Y)):=
 (Qc h).weak fun Z H Q ⟨B,Y,hb,r,q⟩=>⟨B,Y,hb,r,q.bind.mono fun ts qt vs H1 s1 r1=>by
  by_cases hz:ts.length<=ee
  ·rw[au hz]at qt;refine⟨by rw[r1.length,<-i8];exact hz,fun p hp=>qt (.ref p) _ (s1.Bx (s1.free hp)) (.tup (.of ((hb.same s1).new hp)) (r1.same (aX (aE.upd hp))))⟩
  ·rw[ay hz]at qt;exact qt.elim⟩
theorem Vl(h:PA X es (BA X L)):PE X (.List es pos) (tP X fun Y=>BC (L Y)):=
 (IJ h).weak fun Z H Q ⟨B,Y,hb,r,q⟩=>⟨B,Y,hb,r,q.bind.mono fun ts qt vs H1 s1 r1=>by
  by_cases hz:ts.length<=ee
  ·rw[au hz]at qt;refine⟨by rw[r1.length,<-i8];exact hz,fun p hp=>qt (.ref p) _ (s1.Bx (s1.free hp)) (.lst ((hb.same s1).new hp) (r1.same (aX (aE.upd hp))))⟩
  ·rw[ay hz]at qt;exact qt.elim⟩
def cP(h:List Tr->Rs Tr)(l:Rs (List Tr)):Rs Tr:=l.bind h
inductive rC(X:Cx)(h:List Tr->Rs Tr)(xs:List V)(H:Hp)(Q:VK):Prop
 |mk (B:d7) (ts:List Tr):HB B H->bc X.K (bz B H) xs ts->(Fi X H (h ts) fun t=>∀v H',aE H H'->Rep X.K (bz B H') v t->Q v H')->rC X h xs H Q
abbrev kE(X:Cx)(f:Value)(h:List Tr->Rs Tr):Prop:=fG X f (rC X h)
theorem yP{Q:VK}(q:tP X (fun Y=>cP h (L Y)) Z H Q):Zg (rC X h) (BA X L) Z H Q:=by
 obtain⟨B,Y,hb,r,q⟩:=q;exact⟨B,Y,hb,r,q.bind.mono fun ts qt vs H1 s1 r1=>⟨B,ts,hb.same s1,r1,(qt.same s1).mono fun t qt v H2 s2 r2=>qt v H2 (s1.trans s2) r2⟩⟩
theorem MH{id:String}(hc:kE X (.builtin id) h)(hm:X.mg x=none)(ha:PA X (e::es) (BA X L))(hv:bootBuiltins x=some (.builtin id):=by rfl) (hg:Gl X x:=by rfl) (hn:x≠"__name__":=by decide) (eM:Db x:=by decide)
  (bQ:aP (e::es)=true:=by rfl):PE X (.Call (.Name x p) (e::es) [] pos) (tP X fun Y=>cP h (L Y)):=
 (oz hc hg hm hv ha hn eM (aY _ _ (aG bQ).1) (cg (aG bQ).2)).weak fun _ _ _ q=>yP q
theorem Jg{T:String}(hc:kE X (.type T) h)(hm:X.mg x=none)(ha:PA X (e::es) (BA X L))(hv:bootBuiltins x=some (.type T):=by rfl) (hg:Gl X x:=by rfl) (hn:x≠"__name__":=by decide) (eM:Db x:=by decide)
  (bQ:aP (e::es)=true:=by rfl):PE X (.Call (.Name x p) (e::es) [] pos) (tP X fun Y=>cP h (L Y)):=
 (t_ hc hg hm hv ha hn eM (aY _ _ (aG bQ).1) (cg (aG bQ).2)).weak fun _ _ _ q=>yP q
inductive spT(K:Frag)(f:List Tr->Rs Tr)(vs:List V)(H:Hp)(Q:VK)(_w3:XK):Prop
 |mk (B:d7) (ts:List Tr):HB B H->bc K (bz B H) vs ts->(∃t,f ts=.ok t/\∀v H',aE H H'->Rep K (bz B H') v t->Q v H')->spT K f vs H Q _w3
theorem Vm{st:Stmt}{fd:FuncData}(D:yL X.K X.mg x st ps a fd)(G:dw X.prog X.w X.K X.mg X.base lq i a fd ps (spT X.K h))(hr:cz i X.A)
  (ha:PA X (e::es) (BA X L)) (hg:Gl X x:=by rfl) (eM:Db x:=by decide) (bQ:aP (e::es)=true:=by rfl):PE X (.Call (.Name x p) (e::es) [] pos) (tP X fun Y=>cP h (L Y)):=
 (QQ D G hr ha hg eM (aY _ _ (aG bQ).1) (cg (aG bQ).2)).weak fun Z H Q ⟨B,Y,hb,r,q⟩=>⟨B,Y,hb,r,q.bind.mono fun ts qt vs H1 s1 r1=>by
  cases e:h ts with
  |ok t=>rw[e]at qt;exact⟨B,ts,hb.same s1,by rw[jm];exact r1,t,e,fun v H2 s2 r2=>qt v H2 (s1.trans s2) r2⟩
  |exc tg=>rw[e]at qt;exact(qt _ (aE.refl _)).elim
  |bad=>rw[e]at qt;exact qt.elim⟩
end
section
variable {a b c:Expr}{G G':bf->Rs Out}{A:bf->Rs Bool}{st:Stmt}{Vn:List Stmt}
def BD(r:Rs Out)(G:bf->Rs Out):Rs Out:=r.bind fun o=>match o with
 |.nx Y=>G Y
 |.ret t=>.ok (.ret t)
 |.bk Y=>.ok (.bk Y)
 |.ct Y=>.ok (.ct Y)
theorem Vo:nC X [] (tS X fun Y=>.ok (.nx Y)):=EN.weak fun D Z H ⟨C,B0,H0,B,Y,si,r,q⟩=>q Z B H si r
theorem QY(h1:PS X st (tS X G))(h2:nC X ac (tS X G')):nC X (st::ac) (tS X fun Y=>BD (G Y) G'):=
 (Bj h1 h2).weak fun D Z H ⟨C,B0,H0,B,Y,si,r,q⟩=>⟨C,B0,H0,B,Y,si,r,q.bind.mono fun o qo=>by
  cases o with
  |nx g6=>exact fun cK B' H' MI r'=>⟨C,B0,H0,B',g6,MI,r',qo⟩
  |ret t=>exact qo
  |bk g6=>exact qo
  |ct g6=>exact qo⟩
theorem Vp(h1:PS X st (tS X G)):nC X [st] (tS X G):=EO h1
def Jh(i:Nat)(r:Rs Tr)(Y:bf):Rs Out:=r.bind fun t=>.ok (.nx (Y.set i (.sh t)))
theorem pG.here {α:Type}{C B0:d7}{H0:Hp}{r:Rs α}{k:α->Prop}(h:pG (xS X C B0 H0) r k)(si:dv C B0 H0 B H):Fi X H r k:=h.imp fun _ q H' s'=>q B H' (si.go s')
theorem E_{C B0:d7}{H0:Hp}{Y:bf}{k:Tr->Prop}(si:dv C B0 H0 B H)(r:bV X.K B H Z Y)(q:pG (xS X C B0 H0) (F Y) k){Q:VK}(hq:∀t v H',k t->aE H H'->dv C B0 H0 B H'->bV X.K B H' Z Y->Rep X.K (bz B H') v t->Q v H'):tP X F Z H Q:=
 ⟨B,Y,si.hb,r,(q.here si).mono fun t qt v H' s' r'=>hq t v H' qt s' (si.go s') (r.same s') r'⟩
theorem Vq{C B0:d7}{H0:Hp}{Y:bf}{k:Bool->Prop}(si:dv C B0 H0 B H)(r:bV X.K B H Z Y)(q:pG (xS X C B0 H0) (A Y) k){Q:Bool->Hp->Prop}(hq:∀b H',k b->aE H H'->dv C B0 H0 B H'->bV X.K B H' Z Y->Q b H'):tQ X A Z H Q:=
 ⟨B,Y,si.hb,r,(q.here si).mono fun b qb H' s'=>hq b H' qb s' (si.go s') (r.same s')⟩
theorem Rep.out {C B0:d7}{H0:Hp}{v:V}{t:Tr}(r:Rep K (bz B H) v t)(si:dv C B0 H0 B H):Rep K (bz C H) v t:=r.same (wI si.sub)
theorem Vr(he:PE X e (tP X F))(hN:X.N.Nodup:=by assumption) (hi:X.N[i]?=some x:=by rfl) (hx:Loc X.env.scope x:=by first|exact Or.inl rfl|exact Or.inr rfl) (hs:qP e=false:=by rfl) (hf:ye X x:=by first|exact .inl rfl|exact .inr rfl|assumption):
  PS X (.Assign [.Name x p] e pos) (tS X fun Y=>Jh i (F Y) Y):=
 (Iy hN hi hx he (wJ hs) hf).weak fun D Z H ⟨C,B0,H0,B,Y,si,r,q⟩=>E_ si r q.bind fun t v H1 qt s1 GN r1 rv=>qt _ B H1 GN (r1.set i rv)
def Ji(r:Rs Tr):Rs Out:=r.bind fun t=>.ok (.ret t)
theorem Vs(he:PE X e (tP X F)):PS X (.Return (some e) pos) (tS X fun Y=>Ji (F Y)):=
 (Ir he).weak fun D Z H ⟨C,B0,H0,B,Y,si,r,q⟩=>E_ si r q.bind fun t v H1 qt s1 GN r1 rv=>qt v B H1 GN (rv.out GN)
def TR(c:Rs Bool)(a b:Rs Out):Rs Out:=c.bind fun k=>if k then a else b
theorem ZI{ns:List Stmt}(hc:PT X c (tQ X A))(ha:nC X ac (tS X G))(hb:nC X ns (tS X G')):PS X (.If c ac ns pos) (tS X fun Y=>TR (A Y) (G Y) (G' Y)):=
 (OD hc ha hb).weak fun D Z H ⟨C,B0,H0,B,Y,si,r,q⟩=>Vq si r q.bind fun k H1 qk s1 GN r1=>by
  cases k with
  |true=>exact QC ⟨C,B0,H0,B,Y,GN,r1,qk⟩
  |false=>exact Qz ⟨C,B0,H0,B,Y,GN,r1,qk⟩
abbrev nD:=Tr->bf->Rs bf
inductive tG(X:Cx)(T:nD)(v:V)(Z:St)(H:Hp)(Q:St->Hp->Prop):Prop
 |mk (B:d7) (Y:bf) (t:Tr):HB B H->bV X.K B H Z Y->Rep X.K (bz B H) v t->(Fi X H (T t Y) fun g6=>∀cK H',aE H H'->bV X.K B H' cK g6->Q cK H')->tG X T v Z H Q
def gN(i:Nat):nD:=fun t Y=>.ok (Y.set i (.sh t))
theorem QZ(i:Nat)(hN:X.N.Nodup:=by assumption) (hi:X.N[i]?=some x:=by rfl) (hx:Loc X.env.scope x:=by first|exact Or.inl rfl|exact Or.inr rfl) (hf:ye X x:=by first|exact .inl rfl|exact .inr rfl|assumption):PG X (.Name x pos) (tG X (gN i)):=by
 intro U s Z H v u Q I r ⟨B,Y,t,hb,rs,rt,q⟩;exact ER hN hi hx hf U s Z H v u Q I r (q _ H (aE.refl H) (rs.set i rt))
def DF:List Nat->List Tr->bf->Rs bf
 |[],[],Y=>.ok Y
 |i::is,t::ts,Y=>DF is ts (Y.set i (.sh t))
 |_,_,_=>.bad
inductive TU(X:Cx)(T:List Tr->bf->Rs bf)(vs:List V)(Z:St)(H:Hp)(Q:St->Hp->Prop):Prop
 |mk (B:d7) (Y:bf) (ts:List Tr):HB B H->bV X.K B H Z Y->bc X.K (bz B H) vs ts->(Fi X H (T ts Y) fun g6=>∀cK H',aE H H'->bV X.K B H' cK g6->Q cK H')->TU X T vs Z H Q
theorem Vt:Ma X [] (TU X (DF [])):=by
 intro U s Z H vs us Q I r ⟨B,Y,ts,hb,rs,rt,q⟩
 match ts,rt,q with
 |[],.nil,q=>exact Mb U s Z H [] us Q I r ⟨rfl,q Z H (aE.refl H) rs⟩
 |_::_,_,q=>exact q.elim
theorem Q0{is:List Nat}(h2:Ma X es (TU X (DF is)))(hN:X.N.Nodup:=by assumption) (hi:X.N[i]?=some x:=by rfl) (hx:Loc X.env.scope x:=by first|exact Or.inl rfl|exact Or.inr rfl) (hf:ye X x:=by first|exact .inl rfl|exact .inr rfl|assumption)
  (hs:(assignEach (.Name x pos::es) X.env).map (·.2)=assign (.Name x pos) X.env::(assignEach es X.env).map (·.2):=by rfl):Ma X (.Name x pos::es) (TU X (DF (i::is))):=by
 intro U s Z H vs us Q I r ⟨B,Y,ts,hb,rs,rt,q⟩
 match ts,rt,q with
 |[],_,q=>exact q.elim
 |t::ts,.cons r1 r2,q=>
  exact Iu (ER hN hi hx hf) h2 hs U s Z H _ us Q I r ⟨_,_,rfl,⟨B,_,ts,hb,rs.set i r1,r2,q⟩⟩
def gT(is:List Nat):nD:=fun t Y=>match t with
 |.tup ts=>DF is ts Y
 |_=>.bad
theorem Fb:∀{is:List Nat} {ts:List Tr} {Y g6:bf},DF is ts Y=.ok g6->ts.length=is.length
 |[],[],_,_,_=>rfl
 |[],_::_,_,_,h=>by cases h
 |_::_,[],_,_,h=>by cases h
 |_::is,_::ts,_,_,h=>by rw[cG,cG,Fb (is:=is) (ts:=ts) h]
theorem yQ:∀{is:List Nat} {ts:List Tr} {Y:bf} {c:Tr},DF is ts Y≠ .exc c
 |[],[],_,_=>fun h=>by cases h
 |[],_::_,_,_=>fun h=>by cases h
 |_::_,[],_,_=>fun h=>by cases h
 |_::is,_::ts,_,_=>yQ (is:=is) (ts:=ts)
theorem Vu{is:List Nat}(h:Ma X es (TU X (DF is)))(hc:X.calm=true:=by rfl) (hn:(assignEach es X.env).length=is.length:=by rfl) (bQ:(assignEach es X.env).findIdx? (·.1)=none:=by rfl):PG X (.Tuple es i pos) (tG X (gT is)):=by
 intro U s Z H v u Q I r ⟨B,Y,t,hb,rs,rt,q⟩;cases rt with
 |tup hq rv=>
  refine PZ hc h hn bQ U s Z H _ u Q I r ⟨_,_,rfl,(aE.tup aZ hq),?_,B,Y,_,hb,rs,rv,q⟩;have q':Fi X H (DF is _ Y) _:=q;cases e:DF is _ Y with
  |ok g6=>rw[rv.length];exact Fb e
  |exc c=>exact(yQ e).elim
  |bad=>rw[e]at q';exact q'.elim
 |_=>exact q.elim
def Q1(T:nD)(r:Rs Tr)(Y:bf):Rs Out:=r.bind fun t=>(T t Y).bind fun g6=>.ok (.nx g6)
theorem Vv{T:nD}(hg:PG X tg (tG X T))(he:PE X e (tP X F))(hs:swapsWithSole [tg] e pos.line X.env=pure false:=by rfl) (hw:swappedStores [tg] e X.env=pure none:=by rfl)
  (h1:(assignEach [tg] X.env).map (·.2)=[assign tg X.env]:=by rfl):PS X (.Assign [tg] e pos) (tS X fun Y=>Q1 T (F Y) Y):=
 (Iw he hg hs hw h1).weak fun D Z H ⟨C,B0,H0,B,Y,si,r,q⟩=>E_ si r q.bind fun t v H1 qt s1 GN r1 rv=>⟨B,Y,t,GN.hb,r1,rv,(qt.bind.here GN).mono fun g6 q' cK H2 s2 r2=>q' cK B H2 (GN.go s2) r2⟩
structure lR(K:Frag)(B:d7)(J:It)(H:Hp)(ts:List Tr):Prop where
 go:∀i B' H',i<ts.length->dQ (bz B H) (bz B' H')->HB B' H'->J.go i H'
 Gu:∀i B' H' x LQ,i<ts.length->dQ (bz B H) (bz B' H')->HB B' H'->J.Gu i H' x LQ->aE H' LQ/\∃t,ts[i]?=some t/\Rep K (bz B' LQ) x t
 stop:∀B' H',dQ (bz B H) (bz B' H')->J.stop ts.length H'
inductive tI(X:Cx)(W:bf->Rs (List Tr))(Z:St)(H:Hp)(R:It->Hp->Prop):Prop
 |mk (B:d7) (Y:bf):HB B H->bV X.K B H Z Y->(Fi X H (W Y) fun ts=>∀J H',aE H H'->lR X.K B J H' ts->R J H')->tI X W Z H R
def yo(T:nD)(G:bf->Rs Out):List Tr->bf->Rs Out
 |[],Y=>.ok (.nx Y)
 |t::ts,Y=>(T t Y).bind fun qZ=>(G qZ).bind fun o=>match o with
  |.nx iZ=>yo T G ts iZ
  |.ct iZ=>yo T G ts iZ
  |.bk iZ=>.ok (.nx iZ)
  |.ret t=>.ok (.ret t)
def Fc(T:nD)(G:bf->Rs Out)(l:Rs (List Tr))(Y:bf):Rs Out:=l.bind fun ts=>yo T G ts Y
def Jj(z:Str):List Tr:=z.cps.toList.map fun c=>Tr.str ⟨#[c]⟩
def DG(r:Rs Tr):Rs (List Tr):=r.bind fun t=>match t with
 |.tup ts=>.ok ts
 |.lst ts=>.ok ts
 |.str z=>.ok (Jj z)
 |_=>.bad
theorem DH{vs:List V}(h:bz B H ae=some (.lst vs))(r:bc K (bz B H) vs ts):lR K B (Itl K ae) H ts where
 go:=fun i B' H' hi s hb=>by
  have hv:i<vs.length:=by rw[r.length];exact hi
  exact⟨vs,vs[i],kB.of (aZ _ _ (s.h _ _ h)),by simp[hv]⟩
 Gu:=fun i B' H' x LQ hi s hb ⟨e,y⟩=>by
  subst e;have q:=y vs (kB.of (aZ _ _ (s.h _ _ h)));obtain⟨t,e1,r1⟩:=r.wH q;exact⟨aE.refl _,t,e1,r1.same s⟩
 stop:=fun B' H' s=>⟨vs,kB.of (aZ _ _ (s.h _ _ h)),by rw[r.length];exact aQ _⟩
theorem GO{vs:List V}(h:g9 K (bz B H) ae vs)(r:bc K (bz B H) vs ts):lR K B (Itt K ae) H ts where
 go:=fun i B' H' hi s hb=>by
  have hv:i<vs.length:=by rw[r.length];exact hi
  exact⟨vs,vs[i],aE.tup aZ (s.h.tup h),by simp[hv]⟩
 Gu:=fun i B' H' x LQ hi s hb ⟨e,y⟩=>by
  subst e;have q:=y vs (aE.tup aZ (s.h.tup h));obtain⟨t,e1,r1⟩:=r.wH q;exact⟨aE.refl _,t,e1,r1.same s⟩
 stop:=fun B' H' s=>⟨vs,aE.tup aZ (s.h.tup h),by rw[r.length];exact aQ _⟩
theorem GP(z:Str):lR K B (Ys z) H (Jj z) where
 go:=fun i B' H' hi _ _=>by
  have h:i<z.cps.size:=by simpa[Jj]using hi
  exact h
 Gu:=fun i B' H' x LQ hi s hb ⟨e,c,hc,hx⟩=>by
  subst e;subst hx;refine⟨aE.refl _,.str ⟨#[c]⟩,?_,.str _ (by show 1<=cw;decide)⟩;unfold Jj;rw[bA,mw,hc]
  rfl
 stop:=fun B' H' s=>by simp[Jj,Ys]
theorem MJ{s1:Shared}{R:It->Hp->Prop}{t:Tok}(I1:Inv X U Z H s1)(q:R (Ys x) H):wpAny (model X.prog X.w) X.A (pyIter (.str x t)) (Uy X U Z tg R) X.xe s1:=by
 have fin:∀b∈[s1.heap.objs.size],kj X U H b:=fun b hb=>by
  have e:b=s1.heap.objs.size:=by simpa using hb
  rw[e];exact I1.wj (aQ _) (I1.cp.fresh (aQ _))
 cases ha:x.cps.all (· <128)
 ·exact wpAny_pyIter_wide ha ⟨s1.heap.objs.size,[s1.heap.objs.size],_,_,H,rfl,I1.kept (t':=s1.toks) fun b o e=>bh _ e,
   Bw (n:="str_iterator") (t:=t) (by decide) (fun A' hA=>Walks.strWide hA _ x t) fun _ _ _ _ _ st hq=>wpAny_pyIter_striter_wide st hq,⟨_,bG _ rfl,rfl,rfl⟩,fin,q⟩
 ·exact wpAny_pyIter_ascii ha ⟨s1.heap.objs.size,[s1.heap.objs.size],_,_,H,rfl,I1.kept (t':=s1.toks) fun b o e=>bh _ e,
   Bw (n:="str_ascii_iterator") (t:=t) (by decide) (fun A' hA=>Walks.strAscii hA _ x t) fun _ _ _ _ _ st hq=>wpAny_pyIter_striter_ascii st hq,⟨_,bG _ rfl,rfl,rfl⟩,fin,q⟩
theorem Vx{l:Expr}(hl:PE X l (tP X F)):PI X tg l (tI X fun Y=>DG (F Y)):=by
 intro U s Z H R I ⟨B,Y,hb,r,q⟩;have key:∀(v:Value) (s1:Shared) (x:V) (H1:Hp) (t:Tr),Inv X U Z H1 s1->RelV x v->aE H H1->Rep X.K (bz B H1) x t->(∃ts,DG (.ok t)=.ok ts/\∀J H',aE H H'->lR X.K B J H' ts->R J H')->wpAny (model X.prog X.w) X.A (pyIter v) (Uy X U Z tg R) X.xe s1:=by
  intro v s1 x H1 t I1 r1 sm rt ⟨ts,et,k⟩;cases rt with
  |@tup a vs us h rr=>
   cases et;cases r1;have hq:g9 X.K H1 a vs:=aE.tup aZ h;obtain⟨bE,rv,p,hz⟩:=I1.tuple hq;refine wpAny_pyIter_tuple (show s1.heap.IsTuple a bE.toArray from p) ?_
   refine⟨s1.heap.objs.size,[s1.heap.objs.size],_,_,H1,rfl,I1.kept (t':=s1.toks) fun b o e=>bh _ e,Dm a _,⟨_,bG _ rfl,rfl,rfl⟩,fun b hb=>?_,k _ H1 sm (GO h rr)⟩;have e:b=s1.heap.objs.size:=by simpa using hb
   subst e;exact I1.wj (aQ _) (I1.cp.fresh (aQ _))
  |@lst a vs us h rr=>
   cases et;cases r1;have hq:kB X.K H1 a vs:=kB.of (aZ _ _ h);obtain⟨bE,rv,p,hz⟩:=I1.list hq;refine lE p.isList ?_
   refine⟨s1.heap.objs.size,[s1.heap.objs.size],_,_,H1,rfl,I1.kept (t':=s1.toks) fun b o e=>bh _ e,Gv a _,⟨_,bG _ rfl,rfl,rfl⟩,fun b hb=>?_,k _ H1 sm (DH h rr)⟩;have e:b=s1.heap.objs.size:=by simpa using hb
   subst e;exact I1.wj (aQ _) (I1.cp.fresh (aQ _))
  |str z hz=>
   cases et;obtain⟨t,rfl⟩:=(show∃t,v=Value.str z t from r1);exact MJ I1 (k _ H1 sm (GP z))
  |_=>cases et
 refine dA (hl U s Z H (fun x H1=>∃t,aE H H1/\Rep X.K (bz B H1) x t/\∃ts,DG (.ok t)=.ok ts/\∀J H',aE H H'->lR X.K B J H' ts->R J H') I ⟨B,Y,hb,r,q.bind.mono fun t qt v H1 s1 r1=>⟨t,s1,r1,?_⟩⟩) fun v s1 ⟨x,H1,I1,r1,t,sm,rt,k⟩=>key v s1 x H1 t I1 r1 sm rt k;cases t with
 |tup ts=>exact⟨ts,rfl,qt⟩
 |lst ts=>exact⟨ts,rfl,qt⟩
 |str z=>exact⟨_,rfl,qt⟩
 |_=>exact qt.elim
def BE(lo:Int)(n:Nat):List Tr:=(List.range n).map fun k=>Tr.int (lo+(k:Nat))
theorem oJ(lo:Int)(n:Nat):(BE lo n).length=n:=by simp[BE]
theorem BF(lo:Int)(n:Nat):lR K B (Ym lo n) H (BE lo n) where
 go:=fun i B' H' hi _ _=>by rw[oJ]at hi;exact hi
 Gu:=fun i B' H' x LQ hi s hb ⟨e,y⟩=>by
  subst e;subst y;rw[oJ]at hi;refine⟨aE.refl _,.int (lo+i),?_,.int _⟩;unfold BE;rw[bA,List.getElem?_range hi]
  rfl
 stop:=fun B' H' s=>by rw[oJ];exact aQ _
def Fd(l:Rs (List Tr)):Rs (List Tr):=l.bind fun ts=>match ts with
 |[.int j]=>if-4611686018427387904<=j/\j<4611686018427387904 then .ok (BE 0 j.toNat)else .bad
 |_=>.bad
theorem PI.weak {c0:Expr}{t t':TI}(h:PI X tg c0 t)(w:∀Z H R,t' Z H R->t Z H R):PI X tg c0 t':=fun U s Z H R I q=>h U s Z H R I (w Z H R q)
theorem Jk(hm:X.mg "range"=none)(ha:PA X [a] (BA X L))(hg:Gl X "range":=by rfl) (hs:aP [a]=true:=by rfl):PI X tg (.Call (.Name "range" p) [a] [] pos) (tI X fun Y=>Fd (L Y)):=
 (Gw hg hm ha (by rw[aY _ _ (aG hs).1];rfl)).weak fun Z H R ⟨B,Y,hb,r,q⟩=>⟨B,Y,hb,r,q.bind.mono fun ts qt vs H1 s1 r1=>by
  split at qt
  ·rename_i j;cases r1 with
   |cons h1 r1=>
    cases h1;cases r1;split at qt
    ·rename_i hj;exact⟨j,rfl,by omega,by omega,qt _ H1 s1 (BF 0 _)⟩
    ·exact qt.elim
  ·exact qt.elim⟩
def MK{α:Type}(r:Rs α):Rs α:=match r with
 |.ok a=>.ok a
 |_=>.bad
def sJ(ix:List (Option Nat))(Y:bf):bf:=ix.map fun o=>match o with
 |none=>.no
 |some j=>match Y[j]? with
  |some (.sh t)=>.sh t
  |_=>.no
theorem bV.comp {B':d7}{H':Hp}{Y:bf}(ix:List (Option Nat))(h:bV K B H Z Y)(s:dQ (bz B H) (bz B' H')):bV K B' H' (iC ix Z) (sJ ix Y):=by
 have no:∀(i:Nat) (c:Cell),(sJ ix Y)[i]?=some c->c=.no\/∃j t,ix[i]?=some (some j)/\Y[j]?=some (.sh t)/\c=.sh t:=fun i c e=>by
  unfold sJ at e;rw[bA]at e;cases q:ix[i]? with
  |none=>rw[q]at e;cases e
  |some o=>
   rw[q]at e;cases o with
   |none=>exact .inl (Option.some.inj e).symm
   |some j=>
    have e':(match Y[j]? with|some (Cell.sh t)=>Cell.sh t|_=>Cell.no)=c:=Option.some.inj e;split at e'
    ·rename_i t q2;exact .inr ⟨j,t,rfl,q2,e'.symm⟩
    ·exact .inl e'.symm
 refine⟨by unfold sJ iC;rw[aK,aK],fun i t e=>?_,fun i ts e=>?_,fun i j ts us D _ e=>?_⟩
 ·rcases no i _ e with q|⟨j,u,q1,q2,q3⟩
  ·cases q
  ·cases q3;obtain⟨v,e1,r1⟩:=h.sh j t q2;refine⟨v,?_,r1.same s⟩;unfold iC;rw[bA,q1];show some ((Z[j]?).join)=_;rw[e1]
   rfl
 ·rcases no i _ e with q|⟨j,u,q1,q2,q3⟩
  ·cases q
  ·cases q3
 ·rcases no i _ e with q|⟨j,u,q1,q2,q3⟩
  ·cases q
  ·cases q3
def DI(T:nD)(A:bf->Rs Bool)(F:bf->Rs Tr):List Tr->bf->Rs (List Tr)
 |[],_=>.ok []
 |t::ts,Y=>(MK (T t Y)).bind fun qZ=>(MK (A qZ)).bind fun k=>if k then(MK (F qZ)).bind fun y=>(DI T A F ts qZ).bind fun ys=>.ok (y::ys)else DI T A F ts qZ
def uF(ix:List (Option Nat))(T:nD)(A:bf->Rs Bool)(F:bf->Rs Tr)(l:Rs (List Tr))(Y:bf):Rs Tr:=l.bind fun ts=>if ts.length<=ee then(DI T A F ts (sJ ix Y)).bind fun ys=>.ok (.lst ys)else .bad
def lS(B:d7)(D:Addr):d7:=⟨fun b=>B.hd b||b==D,B.ix⟩
theorem jW{D:Addr}{o:HO}(hD:H D=none):dQ (bz B H) (bz (lS B D) (upd H D o)):=⟨fun b u e=>by
 have e1:=aZ b u e;have gq:b≠D:=bj e1 hD;have hB:B.hd b=false:=by
  cases q:B.hd b with
  |false=>rfl
  |true=>
   have e2:(if B.hd b=true then none else H b)=some u:=e;rw[q,au rfl]at e2;cases e2
 rw[fK (show(B.hd b||b==D)=false by rw[hB,jo gq];rfl),aF gq];exact e1,fun _ _ e=>e⟩
theorem Fe{o:HO}(h:HB B H)(hD:H ae=none):HB (lS B ae) (upd H ae o):=fun b e=>by
 by_cases q:b=ae
 ·subst q;exact⟨o,a_⟩
 ·have e':(B.hd b||b==ae)=true:=e;rw[jo q,rR]at e';rw[aF q];exact h b e'
theorem yR:(lS B ae).hd ae=true:=by show(B.hd ae||ae==ae)=true;rw[bB,Bool.or_true]
theorem sL{o:HO}:bz (lS B ae) (upd H ae o)=bz (lS B ae) H:=by
 unfold bz;congr 1;funext b;by_cases q:b=ae
 ·subst q;rw[au yR,au yR]
 ·rw[aF q]
theorem Ff:uE B (lS B ae):=⟨fun b e=>by show(B.hd b||b==ae)=true;rw[e,Bool.true_or],fun _ _ e=>e⟩
theorem BG:dQ (bz (lS B ae) H) (bz B H):=wI Ff
def fw(Y:bf):Prop:=∀(i:Nat) (ts:List Tr),Y[i]? ≠some (.ow ts)
def js(T:nD):Prop:=∀t Y g6,fw Y->T t Y=.ok g6->fw g6
theorem fw.set {Y:bf}(h:fw Y)(i:Nat)(t:Tr):fw (Y.set i (.sh t)):=fun j ts e=>by
 rcases eO e with⟨_,_,q⟩|⟨_,q⟩
 ·cases q
 ·exact h j ts q
theorem eP(i:Nat):js (gN i):=fun t Y g6 h e=>by cases e;exact h.set i t
theorem Fg:∀{is:List Nat} {ts:List Tr} {Y g6:bf},fw Y->DF is ts Y=.ok g6->fw g6
 |[],[],_,_,h,e=>by cases e;exact h
 |[],_::_,_,_,_,e=>by cases e
 |_::_,[],_,_,_,e=>by cases e
 |i::is,t::ts,_,_,h,e=>Fg (is:=is) (ts:=ts) (h.set i t) e
theorem DJ(is:List Nat):js (gT is):=fun t Y g6 h e=>by
 cases t with
 |tup ts=>exact Fg h e
 |_=>cases e
theorem vj(ix:List (Option Nat))(Y:bf):fw (sJ ix Y):=fun i ts e=>by
 unfold sJ at e;rw[bA]at e;cases q:ix[i]? with
 |none=>rw[q]at e;cases e
 |some o=>
  rw[q]at e;cases o with
  |none=>cases e
  |some j=>
   have e':(match Y[j]? with|some (Cell.sh t)=>Cell.sh t|_=>Cell.no)=.ow ts:=Option.some.inj e;split at e'<;>cases e'
theorem DK{α:Type}{xc:Tr->Prop}{r:Rs α}{k:α->Prop}(h:pG xc (MK r) k):∃a,r=.ok a/\k a:=by
 cases r with
 |ok a=>exact⟨a,rfl,h⟩
 |_=>exact h.elim
inductive OQ(K:Frag)(F:bf->Rs Tr)(Z:St)(H:Hp)(Q:VK):Prop
 |mk (B:d7) (Y:bf):HB B H->bV K B H Z Y->(∃t,F Y=.ok t/\∀v H',aE H H'->Rep K (bz B H') v t->Q v H')->OQ K F Z H Q
inductive OR(K:Frag)(F:bf->Rs Bool)(Z:St)(H:Hp)(Q:Bool->Hp->Prop):Prop
 |mk (B:d7) (Y:bf):HB B H->bV K B H Z Y->(∃b,F Y=.ok b/\∀H',aE H H'->Q b H')->OR K F Z H Q
inductive OS(K:Frag)(T:nD)(v:V)(Z:St)(H:Hp)(Q:St->Hp->Prop):Prop
 |mk (B:d7) (Y:bf) (t:Tr):HB B H->bV K B H Z Y->Rep K (bz B H) v t->(∃g6,T t Y=.ok g6/\∀cK H',aE H H'->bV K B H' cK g6->Q cK H')->OS K T v Z H Q
theorem Q2{Q:VK}:OQ X.K F Z H Q->tP X F Z H Q:=fun⟨B,Y,hb,r,t,e,q⟩=>⟨B,Y,hb,r,by rw[e];exact q⟩
theorem Q3{F:bf->Rs Bool}{Q:Bool->Hp->Prop}:OR X.K F Z H Q->tQ X F Z H Q:=fun⟨B,Y,hb,r,t,e,q⟩=>⟨B,Y,hb,r,by rw[e];exact q⟩
theorem Q4{T:nD}{v:V}{Q:St->Hp->Prop}:OS X.K T v Z H Q->tG X T v Z H Q:=fun⟨B,Y,t,hb,r,rt,g6,e,q⟩=>⟨B,Y,t,hb,r,rt,by rw[e];exact q⟩
theorem vk{J:It}{D:Addr}{Yp:St}{ML:bf}{T:nD}{Q:Hp->Prop}(hT:js T)(h0:fw ML)(hb:HB B H)(gt:lR K B J H ts)(hz:ts.length<=ee)(r:bV K (lS B D) (upd H D (.lst [])) Yp ML)(hD:H D=none)
  {xc:Tr->Prop} {k:List Tr->Prop} (q:pG xc (DI T A F ts ML) k) (hQ:∀ys H',k ys->aE H H'->Rep K (bz B H') (.ref D) (.lst ys)->Q H'):Zx J D Yp (upd H D (.lst [])) (OS K T) (OR K A) (OQ K F) Q:=by
 refine⟨fun i m Z H'=>m=ts.length - i/\i<=ts.length/\aE H H'/\HB (lS B D) H'/\dQ (bz B H) (bz (lS B D) H')/\∃Y vs us,fw Y/\bV K (lS B D) H' Z Y/\H' D=some (.lst vs)/\vs.length<=i/\bc K (bz (lS B D) H') vs us/\pG xc (DI T A F (ts.drop i) Y) (fun ys=>k (us++ys)),
  ⟨_,rfl,dF _,aE.upd hD,Fe hb hD,jW hD,ML,[],[],h0,r,a_,aQ _,.nil,q⟩,?_⟩
 rintro i m Z H' ⟨rfl,hi,sm,H_,jH,Y,vs,us,no,rs,hd,hl,rv,q'⟩
 by_cases gn:i<ts.length
 ·rw[ra gn]at q';refine .inr ⟨gt.go i _ H' gn jH H_,fun yj H2=>aE H H2/\HB (lS B D) H2/\dQ (bz B H) (bz (lS B D) H2)/\∃Y vs us,fw Y/\bV K (lS B D) H2 yj Y/\H2 D=some (.lst vs)/\vs.length<=i+1/\bc K (bz (lS B D) H2) vs us/\pG xc (DI T A F (ts.drop (i+1)) Y) (fun ys=>k (us++ys)),
   fun yj H2 h=>⟨ts.length - (i+1),by omega,rfl,gn,h⟩,fun x H2 hx=>?_⟩
  obtain⟨s2,t,et,rt⟩:=gt.Gu i _ H' x H2 gn jH H_ hx;have Vy:ts[i]=t:=by rw[bq gn]at et;exact Option.some.inj et
  rw[Vy]at q';obtain⟨qZ,eT,q1⟩:=DK (pG.bind q');have ZJ:=hT t Y qZ no eT;refine⟨_,Y,t,H_.same s2,rs.same s2,rt,qZ,eT,fun OF H3 s3 r3=>?_⟩;have s23:=s2.trans s3;obtain⟨c,eA,qc⟩:=DK (pG.bind q1);refine⟨_,qZ,H_.same s23,r3,c,eA,fun H4 s4=>?_⟩;have Q5:=s23.trans s4;have g4:aE H H4:=sm.trans Q5;cases c with
  |false=>
   exact Qz ⟨g4,H_.same Q5,jH.trans (aX Q5),qZ,vs,us,ZJ,r3.same s4,Q5 _ _ hd,by omega,rv.same (aX Q5),qc⟩
  |true=>
   obtain⟨y,eF,qy⟩:=DK (pG.bind qc);refine QC ⟨_,qZ,H_.same Q5,r3.same s4,y,eF,fun v H5 s5 r5=>?_⟩;have Vz:=Q5.trans s5;refine⟨vs,Vz _ _ hd,by rw[<-i8];omega,(sm.trans Vz).Bx hD,?_,?_,qZ,vs++[v],us++[y],ZJ,?_,a_,by rw[dW];exact Nat.add_le_add_right hl 1,?_,?_⟩
   ·intro b e;by_cases q:b=D
    ·subst q;exact⟨_,a_⟩
    ·rw[aF q];exact(H_.same Vz) b e
   ·rw[sL];exact jH.trans (aX Vz)
   ·have ZK:=(r3.same s4).same s5;refine⟨ZK.len,fun i t e=>?_,fun i ts e=>(ZJ i ts e).elim,ZK.ap⟩;rw[sL];exact ZK.sh i t e
   ·rw[sL];exact(rv.same (aX Vz)).append (.cons r5 .nil)
   ·exact(pG.bind qy).mono fun ys q=>by rw[vU];exact q
 ·have e:i=ts.length:=by omega
  subst e;rw[rK]at q';refine .inl ⟨gt.stop _ H' jH,hQ us H' (by have:=(show k (us++[])from q');rw[jm]at this;exact this) sm (.lst ?_ (rv.same BG))⟩;rw[fK (hb.free hD)];exact hd
variable {scope:Scope}{N':List Str}{ix:List (Option Nat)}{elt c0:Expr}{ifs:List Expr}{T:nD}{W:bf->Rs (List Tr)}
theorem VA:PF X [] (tQ X fun _=>.ok true):=fun U s Z H Q I ⟨B,Y,hb,r,q⟩=>QK U s Z H Q I (q H (aE.refl H))
theorem VB(h:PT X c (tQ X A)):PF X [c] (tQ X A):=QL h
theorem BH{Q:VK}(hT:js T)(q:tP X (fun Y=>uF ix T A F (W Y) Y) Z H Q):TN (tI X W) ix (OS X.K T) (OR X.K A) (OQ X.K F) Z H Q:=by
 obtain⟨B,Y,hb,r,q⟩:=q;refine⟨B,Y,hb,r,q.bind.mono fun ts qt J H1 s1 gt D hD=>?_⟩;by_cases hz:ts.length<=ee
 ·rw[au hz]at qt;exact vk hT (vj ix Y) (hb.same s1) gt hz ((r.same s1).comp ix (jW hD)) hD (Fi.bind qt) fun ys H' k s' rp=>k _ H' (s1.trans s') rp
 ·rw[ay hz]at qt;exact qt.elim
structure MM(X:Cx)(scope:Scope)(N':List Str)(tg elt:Expr)(ifs:List Expr)(T:nD)(A:bf->Rs Bool)(F:bf->Rs Tr):Prop where
 all:∀s H ex,PG (sH X scope N' s H ex) tg (tG (sH X scope N' s H ex) T)/\PF (sH X scope N' s H ex) ifs (tQ (sH X scope N' s H ex) A)/\PE (sH X scope N' s H ex) elt (tP (sH X scope N' s H ex) F)
theorem MM.TV {F:bf->Rs Tr}(h:MM X scope N' tg elt ifs T A F):∀s H ex,PG (sH X scope N' s H ex) tg (OS X.K T)/\PF (sH X scope N' s H ex) ifs (OR X.K A)/\PE (sH X scope N' s H ex) elt (OQ X.K F):=fun s H ex=>by
 obtain⟨h1,h2,h3⟩:=h.all s H ex;exact⟨fun U s Z H v u Q I r q=>h1 U s Z H v u Q I r (Q4 q),fun U s Z H Q I q=>h2 U s Z H Q I (Q3 q),fun U s Z H Q I q=>h3 U s Z H Q I (Q2 q)⟩
theorem ZM(Lk:fP X N' ix scope)(hi:PI X tg c0 (tI X W))(kl:MM X scope N' tg elt ifs T A F)(hT:js T)(hc:X.calm=true:=by rfl) (hs:isSet c0=false:=by rfl):
  PE X (.ListComp elt [⟨tg,c0,ifs,0⟩] scope pos) (tP X fun Y=>uF ix T A F (W Y) Y):=
 (Ja Lk hc hi kl.TV (gx hs)).weak fun Z H Q q=>BH hT q
theorem MN(Lk:fP X N' ix scope)(hit:PI X tg c0 (tI X W))(kl:MM X scope N' tg elt ifs T A F)(hT:js T)(hN:X.N.Nodup:=by assumption) (hc:X.calm=true:=by rfl) (hi:X.N[i]?=some x:=by rfl) (hx:Loc X.env.scope x:=by first|exact Or.inl rfl|exact Or.inr rfl)
  (GH:swapsWith (.ListComp elt [⟨tg,c0,ifs,0⟩] scope pos) (some (.Name x p)) b8.line X.env=pure true:=by rfl) (hs:isSet c0=false:=by rfl) (hf:ye X x:=by first|exact .inl rfl|exact .inr rfl|assumption):
  PS X (.Assign [.Name x p] (.ListComp elt [⟨tg,c0,ifs,0⟩] scope pos) b8) (tS X fun Y=>Jh i (uF ix T A F (W Y) Y) Y):=
 (wG Lk hc hN hi hx hit kl.TV GH (gx hs) hf).weak fun D Z H ⟨C,B0,H0,B,Y,si,r,q⟩=>BH hT (E_ (F:=fun Y=>uF ix T A F (W Y) Y) si r q.bind fun t v H1 qt s1 GN r1 rv=>qt _ B H1 GN (r1.set i rv))
def cX(r:Rs Out):Rs Tr:=r.bind fun o=>match o with
 |.nx _=>.ok .bO
 |.ret t=>.ok t
 |_=>.bad
theorem yf.okT {base:Heap}{qual:Str}{f:Addr}{fd:FuncData}{N:List Str}{k:Nat}(Fn:yf K x qual st f fd)(S:gc N ps (aW st))(len:∀ts t,h ts=.ok t->ts.length=ps.length)
  (jV:∀(eY:Value) (A:Around) (outer:List Env) (s:Shared) (H:Hp) (E:XK),cz k (A.deeper (envOfC qual (aW st) s.heap.objs.size f eY))->
   ∃G,nC (nz lq P w K mg base N qual (aW st) f eY A outer s H E).HZ (eW st) (tS (nz lq P w K mg base N qual (aW st) f eY A outer s H E).HZ G)/\∀ts t,h ts=.ok t->cX (G (startT N.length ts))=.ok t):dw P w K mg base lq (k+1) f fd ps (spT K h):=by
 refine Fn.ok S (fun vs H Q E q=>?_) (fun eY A outer s H vs Q E hr q=>?_)
 ·obtain⟨B,ts,hb,r,t,e,_⟩:=q;rw[r.length];exact len ts t e
 ·obtain⟨B,ts,hb,r,t,e,q⟩:=q;obtain⟨G,hG,hE⟩:=jV eY A outer s H E hr;refine⟨_,hG,B,B,H,B,startT N.length ts,dv.refl hb uE.refl,bV.start r,?_⟩;have e1:=hE ts t e;cases eo:G (startT N.length ts)with
  |ok o=>
   rw[eo]at e1;cases o with
   |nx Y=>cases e1;exact fun cK B' H' si r'=>q .bO H' si.same .bO
   |ret u=>cases e1;exact fun v B' H' si r'=>q v H' si.same r'
   |_=>cases e1
  |_=>rw[eo]at e1;cases e1
end
theorem MO:t7 X (binaryOp .Add) (fun x y H Q=>∃(a b:Addr) (xs ys:List V),x=.ref a/\y=.ref b/\g9 X.K H a xs/\g9 X.K H b ys/\xs.length+ys.length<=sizeLine/\(xs=[]->Q (.ref b) H)/\(ys=[]->Q (.ref a) H)/\∀p,H p=none->Q (.ref p) (upd H p (.tup (xs++ys)))):=by
 intro U s Z H x y v u Q I rx ry h;obtain⟨a,b,xs,ys,rfl,rfl,ha,hb,hz,q1,q2,q3⟩:=h;by_cases hx:xs=[]
 ·subst hx;cases(show v=Value.ref a from rx);cases(show u=Value.ref b from ry);obtain⟨i1,r1,p1,_⟩:=I.tuple ha;obtain⟨i2,r2,p2,_⟩:=I.tuple hb;cases r1;obtain⟨dd,n,sl,h1⟩:=ub p1;obtain⟨TB,n2,X',h2⟩:=ub p2;exact concat_meets ⟨_,h1,rfl⟩ ⟨_,h2,rfl⟩ noFill_tuple_add seq_tuple_add PySem.F.slot_tuple_add PySem.F.entry_tuple_add (PySem.F.args_tuple_add_2 _ _) (tuple_addW0 a b _ _ n n2 dd TB sl X' rfl) ⟨h1,h2,⟨.ref b,H,I,rfl,q1 rfl⟩⟩
 ·exact Mn U s Z H _ _ v u Q I rx ry ⟨a,b,xs,ys,rfl,rfl,ha,hb,hx,hz,q2,fun _ p hp=>q3 p hp⟩
theorem Rep.up {v:V}{t:Tr}(r:Rep K (bz B H) v t):Rep K (raw B H) v t:=r.same eI
theorem g9.up {xs:List V}(h:g9 K (bz B H) a xs):g9 K H a xs:=aE.tup aZ h
theorem dt{o:HO}(h:bz B H a=some o):H a=some o:=aZ _ _ h
theorem Rep.Q6 {p:Addr}{vs:List V}(hb:HB B H)(hp:H p=none)(r:bc K (bz B H) vs ts):Rep K (bz B (upd H p (.tup vs))) (.ref p) (.tup ts):=.tup (.of (hb.new hp)) (r.same (aX (aE.upd hp)))
theorem Rep.zU {p:Addr}{vs:List V}(hb:HB B H)(hp:H p=none)(r:bc K (bz B H) vs ts):Rep K (bz B (upd H p (.lst vs))) (.ref p) (.lst ts):=.lst (hb.new hp) (r.same (aX (aE.upd hp)))
theorem BI{H:Vw}(h:bc K H [] ts):ts=[]:=by cases h;rfl
theorem Q7{b:Str}(h:x.length+b.length<=cw):(x++b).length<=cw:=by rw[nF];exact h
def yp:Tr->Tr->Rs Tr
 |.int i,.int j=>.ok (.int (i+j))
 |.str a,.str b=>if a.length+b.length<=cw then .ok (.str (a++b))else .bad
 |.tup a,.tup b=>if a.length+b.length<=ee then .ok (.tup (a++b))else .bad
 |.lst a,.lst b=>if a.length+b.length<=ee then .ok (.lst (a++b))else .bad
 |_,_=>.bad
theorem gy{α:Type}{c:Prop}[Decidable c]{t:α}{k:α->Prop}(h:Fi X H (if c then Rs.ok t else .bad) k):c/\k t:=by
 by_cases hc:c
 ·rw[au hc]at h;exact⟨hc,h⟩
 ·rw[ay hc]at h;exact h.elim
theorem gJ:A6 X (binaryOp .Add) yp:=by
 intro U s Z H x y v u Q I rx ry ⟨B,tx,ty,hb,r1,r2,q⟩;unfold yp at q;split at q
 ·exact P6 U s Z H _ _ v u Q I rx ry ⟨_,_,r1.int_inv,r2.int_inv,q _ H (aE.refl H) (.int _)⟩
 ·have f:=gy q;exact Dr U s Z H _ _ v u Q I rx ry ⟨_,_,r1.str_inv.1,r2.str_inv.1,bP f.1 kD,f.2 _ H (aE.refl H) (.str _ (Q7 f.1))⟩
 ·have f:=gy q;obtain⟨a,as,e1,h1,Jl⟩:=r1.dr;obtain⟨b,bs,e2,h2,MP⟩:=r2.dr;exact MO U s Z H _ _ v u Q I rx ry ⟨_,_,_,_,e1,e2,h1.up,h2.up,by rw[Jl.length,MP.length,<-i8];exact f.1,fun e=>f.2 _ H (aE.refl H) (by subst e;rw[BI Jl,<-e2];exact r2),fun e=>f.2 _ H (aE.refl H) (by subst e;rw[BI MP,jm,<-e1];exact r1),fun p hp=>f.2 _ _ (aE.upd hp) (.Q6 hb hp (Jl.append MP))⟩
 ·have f:=gy q;obtain⟨a,as,e1,h1,Jl⟩:=r1.lst_inv;obtain⟨b,bs,e2,h2,MP⟩:=r2.lst_inv;exact Qm U s Z H _ _ v u Q I rx ry ⟨_,_,_,_,e1,e2,dt h1,dt h2,by rw[Jl.length,MP.length,<-i8];exact f.1,fun p hp=>f.2 _ _ (aE.upd hp) (.zU hb hp (Jl.append MP))⟩
 ·exact fe q
def GQ:Tr->Tr->Rs Tr
 |.int i,.int j=>if 0<j then .ok (.int (i % j))else .bad
 |_,_=>.bad
theorem BJ:A6 X (binaryOp .Mod) GQ:=by
 intro U s Z H x y v u Q I rx ry ⟨B,tx,ty,hb,r1,r2,q⟩;unfold GQ at q;split at q
 ·have f:=gy q;exact P8 U s Z H _ _ v u Q I rx ry ⟨_,_,r1.int_inv,r2.int_inv,f.1,f.2 _ H (aE.refl H) (.int _)⟩
 ·exact fe q
def wQ(i j:Int):Prop:=(-18446744073709551616<i/\i<18446744073709551616)\/(-18446744073709551616<j/\j<18446744073709551616)
theorem wQ.cm {i j:Int}(h:wQ i j):IC i j:=by
 unfold wQ at h;unfold IC;omega
instance (i j:Int):Decidable (wQ i j):=by unfold wQ;infer_instance
def GR:Tr->Tr->Rs Tr
 |.int i,.int j=>if wQ i j then .ok (.int (i*j))else .bad
 |.str z,.int n=>if 0<=n/\n<=1000/\z.length<=1000 then .ok (.str (Txt.mul z n))else .bad
 |.lst ts,.int n=>if 0<=n/\n<=1000/\ts.length*n.toNat<=ee then .ok (.lst (List.replicate n.toNat ts).flatten)else .bad
 |_,_=>.bad
theorem MQ:t7 X (binaryOp .Mult) (fun x y H Q=>∃(l:Addr) (k:Int) (xs:List V),x=.ref l/\y=.int k/\H l=some (.lst xs)/\-(2 ^63)<=k/\k<2 ^63/\xs.length*k.toNat<=sizeLine/\∀p,H p=none->Q (.ref p) (upd H p (.lst (List.replicate k.toNat xs).flatten))):=Qn
theorem MR{n:Int}(h0:0<=n)(h1:n<=1000)(hz:x.length<=1000):(Txt.mul x n).length<=cw:=by
 have e:=PyProof.Rows.len_mul x n;split at e
 ·have:((Txt.mul x n).length:Int)=0:=e;unfold cw;omega
 ·have h2:(x.length:Int)*n<=1000*1000:=Int.mul_le_mul (by omega) h1 h0 (by decide);have e':((Txt.mul x n).length:Int)=(x.length:Int)*n:=e;unfold cw;omega
theorem Jm:A6 X (binaryOp .Mult) GR:=by
 intro U s Z H x y v u Q I rx ry ⟨B,tx,ty,hb,r1,r2,q⟩;unfold GR at q;split at q
 ·have f:=gy q;exact P7 U s Z H _ _ v u Q I rx ry ⟨_,_,r1.int_inv,r2.int_inv,f.1.cm,f.2 _ H (aE.refl H) (.int _)⟩
 ·have f:=gy q;exact MD U s Z H _ _ v u Q I rx ry ⟨_,_,r1.str_inv.1,r2.int_inv,PyProof.Rows.mulOk_of 1000 1000 f.1.2.2 f.1.2.1 (Int.le_trans (by decide) f.1.1) (by decide) (by decide),f.2 _ H (aE.refl H) (.str _ (MR f.1.1 f.1.2.1 f.1.2.2))⟩
 ·have f:=gy q;obtain⟨a,as,e1,h1,Jl⟩:=r1.lst_inv;exact MQ U s Z H _ _ v u Q I rx ry ⟨_,_,_,e1,r2.int_inv,dt h1,Int.le_trans (by decide) f.1.1,Int.lt_of_le_of_lt f.1.2.1 (by decide),by rw[Jl.length,<-i8];exact f.1.2.2,fun p hp=>f.2 _ _ (aE.upd hp) (.zU hb hp (Jl.rep _))⟩
 ·exact fe q
mutual
def eqT:Tr->Tr->Bool
 |.bO,.bO=>true
 |.bl a,.bl b=>a==b
 |.bl a,.int b=>(if a then 1 else 0)==b
 |.int a,.bl b=>a==(if b then 1 else 0)
 |.int a,.int b=>a==b
 |.str a,.str b=>a==b
 |.tup a,.tup b=>DL a b
 |.lst a,.lst b=>DL a b
 |_,_=>false
def DL:List Tr->List Tr->Bool
 |[],[]=>true
 |x::xs,y::ys=>eqT x y&&DL xs ys
 |_,_=>false
end
mutual
def qQ:Tr->Bool
 |.bO=>true
 |.bl _=>true
 |.int _=>true
 |.str _=>true
 |.tup ts=>wR ts
 |.lst ts=>wR ts
 |_=>false
def wR:List Tr->Bool
 |[]=>true
 |t::ts=>qQ t&&wR ts
end
mutual
def dT:Tr->Nat
 |.tup ts=>Q8 ts+1
 |.lst ts=>Q8 ts+1
 |_=>0
def Q8:List Tr->Nat
 |[]=>0
 |t::ts=>max (dT t) (Q8 ts)
end
theorem oK:∀{ts:List Tr},wR ts=true->∀t∈ts,qQ t=true
 |[],_,t,h=>nomatch h
 |u::us,h,t,m=>by
  rw[wR,bp]at h;rcases aV.mp m with rfl|m
  ·exact h.1
  ·exact oK h.2 t m
theorem zV:∀{ts:List Tr},∀t∈ts,dT t<=Q8 ts
 |[],t,h=>nomatch h
 |u::us,t,m=>by
  rw[Q8];rcases aV.mp m with rfl|m
  ·exact Nat.le_max_left _ _
  ·exact bP (zV t m) (Nat.le_max_right _ _)
theorem BK:∀(xs ys:List Tr),((List.range (min xs.length ys.length)).all (fun j=>eqT (xs.getD j .bO) (ys.getD j .bO))&&xs.length==ys.length)=DL xs ys
 |[],[]=>rfl
 |[],y::ys=>rfl
 |x::xs,[]=>rfl
 |x::xs,y::ys=>by
  have ih:=BK xs ys;rw[DL,<-ih,cG,cG,Nat.succ_min_succ,List.range_succ_eq_map,gG,og,Bool.and_assoc];congr 1;have e1:(xs.length+1==ys.length+1)=(xs.length==ys.length):=by rw[rO,dZ,dZ];omega
  rw[e1]
  rfl
theorem MS{u:Value}{k:Bool}(hv:∀b t,aa≠Value.float b t)(hs:aa=u->k=true)(h:SeqAt.RcAt A s aa u k):SeqAt.EqAt A s aa u k:=fun prog w E Q hq=>by
 unfold eqBool;refine eD ?_
 refine lF (fun DM=>?_) (fun _=>?_)
 ·rw[hs (eq_of_beq DM)]at hq;exact ak (eL (aC hq))
 ·cases aa with
  |float b t=>exact absurd rfl (hv b t)
  |_=>exact ak (h prog w E _ (nV hq))
section
variable {qa:Addr->Option Nat}
theorem uG(I:Inv X U Z H s){vs ws:List V}(h1:g9 X.K H a vs)(h2:H a=some (.lst ws)):False:=by
 obtain⟨_,_,⟨o,e,c,_⟩,_⟩:=I.tuple h1;obtain⟨_,bE,n,_,e2⟩:=I.cp a _ h2;rw[e]at e2;cases e2;exact absurd c (by show¬(Value.type "list"=.type "tuple");decide+kernel)
def vT:V->Tr
 |.bO=>.bO
 |.bl b=>.bl b
 |.int i=>.int i
 |.str z=>.str z
 |_=>.at 0
theorem oM{W:Vw}{x:V}{t:Tr}(r:Rep K W x t)(p:qQ t=true):(∃ts,t=.tup ts)\/(∃ts,t=.lst ts)\/t=vT x:=by
 cases r<;>first|(cases p;done)|exact .inr (.inr rfl)|exact .inl ⟨_,rfl⟩|exact .inr (.inl ⟨_,rfl⟩)
theorem sM{W:Vw}{x:V}{t t':Tr}(e:t=vT x)(p:qQ t=true)(p':qQ t'=true)(r':Rep K W x t'):t=t':=by
 rcases oM r' p' with⟨ts,rfl⟩|⟨ts,rfl⟩|e'
 ·obtain⟨a,_,rfl,_⟩:=r'.dr;rw[e]at p;cases p
 ·obtain⟨a,_,rfl,_⟩:=r'.lst_inv;rw[e]at p;cases p
 ·rw[e,e']
theorem MT(I:Inv X U Z H s):∀(n:Nat) {x:V} {t t':Tr},dT t<=n->qQ t=true->qQ t'=true->Rep X.K (⟨H,qa⟩:Vw) x t->Rep X.K (⟨H,qa⟩:Vw) x t'->t=t':=by
 intro n
 induction n with
 |zero=>
  intro x t t' hd p p' r r';rcases oM r p with⟨ts,rfl⟩|⟨ts,rfl⟩|e
  ·exact absurd hd (Nat.not_succ_le_zero _)
  ·exact absurd hd (Nat.not_succ_le_zero _)
  ·exact sM e p p' r'
 |succ n ih=>
  intro x t t' hd p p' r r';have go:∀{vs:List V} {ts yS:List Tr},Q8 ts<=n->wR ts=true->wR yS=true->bc X.K (⟨H,qa⟩:Vw) vs ts->bc X.K (⟨H,qa⟩:Vw) vs yS->ts=yS:=by
   intro vs ts yS k1 k2 k3;have h1:=fun t m=>bP (zV (ts:=ts) t m) k1;have h2:=oK k2;have h3:=oK k3
   clear hd p p' r r' k1 k2 k3
   induction vs generalizing ts yS with
   |nil=>intro q q';cases q;cases q';rfl
   |cons v vs ihv=>
    intro(.cons qh qr) (.cons qh' qr');rw[List.forall_mem_cons]at h1 h2 h3;rw[ih h1.1 h2.1 h3.1 qh qh',ihv h1.2 h2.2 h3.2 qr qr']
  rcases oM r p with⟨ts,rfl⟩|⟨ts,rfl⟩|e
  ·rcases oM r' p' with⟨yS,rfl⟩|⟨yS,rfl⟩|e
   ·obtain⟨a,vs,rfl,h,rr⟩:=r.dr;obtain⟨_,MU,e,h',BL⟩:=r'.dr;cases e;cases I.pF h h';rw[go (vK hd) p p' rr BL]
   ·obtain⟨a,vs,rfl,h,rr⟩:=r.dr;obtain⟨_,MU,e,h',BL⟩:=r'.lst_inv;cases e;exact(uG I h h').elim
   ·exact(sM e p' p r).symm
  ·rcases oM r' p' with⟨yS,rfl⟩|⟨yS,rfl⟩|e
   ·obtain⟨a,vs,rfl,h,rr⟩:=r.lst_inv;obtain⟨_,MU,e,h',BL⟩:=r'.dr;cases e;exact(uG I h' h).elim
   ·obtain⟨a,vs,rfl,h,rr⟩:=r.lst_inv;obtain⟨_,MU,e,h',BL⟩:=r'.lst_inv;cases e;cases h.symm.trans h';rw[go (vK hd) p p' rr BL]
   ·exact(sM e p' p r).symm
  ·exact sM e p p' r'
mutual
theorem BM:∀{t:Tr},qQ t=true->eqT t t=true
 |.bO,_=>rfl
 |.bl b,_=>by rw[eqT];exact bB b
 |.int i,_=>by rw[eqT];exact bB i
 |.str z,_=>by rw[eqT];exact bB z
 |.tup ts,h=>by rw[eqT];rw[qQ]at h;exact uc h
 |.lst ts,h=>by rw[eqT];rw[qQ]at h;exact uc h
 |.ty _,h=>by cases h
 |.uC _,h=>by cases h
 |.bw _,h=>by cases h
 |.at _,h=>by cases h
 |.uD _,h=>by cases h
 |.ob _ _,h=>by cases h
 |.yM _,h=>by cases h
theorem uc:∀{ts:List Tr},wR ts=true->DL ts ts=true
 |[],_=>rfl
 |t::ts,h=>by
  rw[wR,bp]at h;rw[DL,BM h.1,uc h.2]
  rfl
end
theorem Fh{α:Type}{l:List α}{x d:α}(h:l[i]?=some x):l.getD i d=x:=by rw[dD,h];rfl
inductive Sh(K:Frag)(G:Vw)(h:Heap):Tr->Value->Prop
 |bO:Sh K G h .bO .none
 |bl (b:Bool):Sh K G h (.bl b) (.bool b)
 |int (b:Int) (w:Tok):Sh K G h (.int b) (.int b w)
 |str (b:Str) (w:Tok):Sh K G h (.str b) (.str b w)
 |tup {a:Addr} {vs:List V} {ts:List Tr} {us:List Value} (q:h.IsTuple a us.toArray) (rr:bc K G vs ts) (rv:Vals vs us):Sh K G h (.tup ts) (.ref a)
 |lst {a:Addr} {vs:List V} {ts:List Tr} {us:List Value} (q:h.IsList a us.toArray) (rr:bc K G vs ts) (rv:Vals vs us):Sh K G h (.lst ts) (.ref a)
theorem zW(I:Inv X U Z H s){x:V}{v:Value}{t:Tr}(p:qQ t=true)(r:Rep X.K (⟨H,qa⟩:Vw) x t)(rx:RelV x v):Sh X.K ⟨H,qa⟩ s.heap t v:=by
 cases r with
 |bO=>cases(show v=Value.none from rx);exact .bO
 |bl b=>cases(show v=Value.bool b from rx);exact .bl b
 |int b=>obtain⟨w,rfl⟩:=(show∃t,v=Value.int b t from rx);exact .int b w
 |str b _=>obtain⟨w,rfl⟩:=(show∃t,v=Value.str b t from rx);exact .str b w
 |@tup a _ _ h rr=>cases(show v=Value.ref a from rx);obtain⟨_,rv,q,_⟩:=I.tuple h;exact .tup q rr rv
 |@lst a _ _ h rr=>cases(show v=Value.ref a from rx);obtain⟨_,rv,q,_⟩:=I.list (.of h);exact .lst q.isList rr rv
 |_=>cases p
theorem Fj(I:Inv X U Z H s)(n:Nat){x y:V}{u:Value}{t t':Tr}(hd:dT t<=n)(p:qQ t=true)(p':qQ t'=true)(r:Rep X.K (⟨H,qa⟩:Vw) x t)(r':Rep X.K (⟨H,qa⟩:Vw) y t')(rx:RelV x aa)(ry:RelV y u)(q:SeqAt.RcAt A s aa u (eqT t t')):SeqAt.EqAt A s aa u (eqT t t'):=by
 refine MS (fun b t e=>?_) (fun e=>?_) q
 ·subst e;cases r<;>first|(obtain⟨_,z⟩:=rx;cases z;done)|(cases rx;done)
 subst e;rw[rx.inj ry]at r;rw[<-MT I n hd p p' r r'];exact BM p
theorem Fl{G:Vw}{A:Around}{u:Value}{t t':Tr}(S:Sh K G s.heap t aa)(S':Sh K G s.heap t' u)(hu:A.units<cLine):(SeqAt.RcAt A s aa u (eqT t t')/\SeqAt.RcNeAt A s aa u (!eqT t t'))\/∃ts yS,(t=.tup ts/\t'=.tup yS)\/(t=.lst ts/\t'=.lst yS):=by
 cases S<;>cases S'<;>first|exact .inr ⟨_,_,.inl ⟨rfl,rfl⟩⟩|exact .inr ⟨_,_,.inr ⟨rfl,rfl⟩⟩|(refine .inl ⟨?_,?_⟩<;>simp only[eqT,dY,cS]<;>with_reducible first|exact .none_none|exact .none_bool _|exact .none_int _ _|exact .none_str _ _|exact .none_tuple ‹_› hu|exact .none_list ‹_› hu|exact .bool_none _|exact .bool_bool _ _|exact .bool_int _ _ _|exact .bool_str _ _ _|exact .bool_tuple _ ‹_› hu|exact .bool_list _ ‹_› hu|exact .int_none _ _|exact .int_bool _ _ _|exact .int_int _ _ _ _|exact .int_str _ _ _ _|exact .int_tuple _ _ ‹_› hu|exact .int_list _ _ ‹_› hu|exact .str_none _ _|exact .str_bool _ _ _|exact .str_int _ _ _ _|exact .str_str _ _ _ _|exact .str_tuple _ _ ‹_› hu|exact .str_list _ _ ‹_› hu|exact .tuple_none ‹_› hu|exact .tuple_bool _ ‹_› hu|exact .tuple_int _ _ ‹_› hu|exact .tuple_str _ _ ‹_› hu|exact .tuple_list ‹_› ‹_› hu|exact .list_none ‹_› hu|exact .list_bool _ ‹_› hu|exact .list_int _ _ ‹_› hu|exact .list_str _ _ ‹_› hu|exact .list_tuple ‹_› ‹_› hu)
theorem Q9(I:Inv X U Z H s):∀(n:Nat) {A:Around} {x y:V} {v u:Value} {t t':Tr},dT t<=n->qQ t=true->qQ t'=true->Rep X.K (⟨H,qa⟩:Vw) x t->Rep X.K (⟨H,qa⟩:Vw) y t'->RelV x v->RelV y u->A.units+n<cLine->SeqAt.RcAt A s v u (eqT t t')/\SeqAt.RcNeAt A s v u (!eqT t t'):=by
 intro n
 induction n with
 |zero=>
  intro A x y v u t t' hd p p' r r' rx ry hu;rcases Fl (zW I p r rx) (zW I p' r' ry) (A:=A) (by omega)with h|⟨_,_,⟨rfl,_⟩|⟨rfl,_⟩⟩
  ·exact h
  all_goals exact absurd hd (by rw[dT];omega)
 |succ n ih=>
  intro A x y v u t t' hd p p' r r' rx ry hu;have hv:A.units<cLine:=by omega
  have a8:∀{vs MU:List V} {us DN:List Value} {ts yS:List Tr},Q8 ts<=n->wR ts=true->wR yS=true->bc X.K (⟨H,qa⟩:Vw) vs ts->bc X.K (⟨H,qa⟩:Vw) MU yS->Vals vs us->Vals MU DN->∀(j:Nat) (h1:j<us.toArray.size) (h2:j<DN.toArray.size),
    SeqAt.EqAt A.in1 s us.toArray[j] DN.toArray[j] (eqT (ts.getD j .bO) (yS.getD j .bO)):=by
   intro vs MU us DN ts yS d1 q1 q2 rr BL rv GS j h1 h2;replace h1:j<us.length:=h1;replace h2:j<DN.length:=h2;have k1:=bq (Nat.lt_of_lt_of_eq h1 rv.length.symm);have k2:=bq (Nat.lt_of_lt_of_eq h2 GS.length.symm);obtain⟨t1,e1,p1⟩:=rr.wH k1;obtain⟨t2,e2,p2⟩:=BL.wH k2;obtain⟨w1,f1,g1⟩:=rv.get k1;obtain⟨w2,f2,g2⟩:=GS.get k2;rw[bq h1]at f1;rw[bq h2]at f2;rw[List.getElem_toArray,List.getElem_toArray,Option.some.inj f1,Option.some.inj f2,Fh e1,Fh e2];have m1:=dm e1;have q2:=oK q2 _ (dm e2);have q1:=oK q1 _ m1;have d:=bP (zV _ m1) d1;exact Fj I n d q1 q2 p1 p2 g1 g2 (ih d q1 q2 p1 p2 g1 g2 (by show A.units+1+n<cLine;omega)).1
  have S:=zW I p r rx;have S':=zW I p' r' ry;rcases Fl S S' hv with h|⟨ts,yS,⟨rfl,rfl⟩|⟨rfl,rfl⟩⟩
  ·exact h
  all_goals
   rw[dT]at hd;have it:=fun{vs MU us DN}=>@a8 vs MU us DN _ _ (Nat.le_of_add_le_add_right hd) p p';have e:=BK ts yS;rw[eqT]
  ·cases S with|tup q rr rv=>
   cases S' with|tup q' BL GS=>
   rw[<-e,<-rr.length,<-BL.length,rv.length,GS.length];exact⟨.tuples q q' hv (it rr BL rv GS),.tuples q q' hv (it rr BL rv GS)⟩
  cases S with|lst q rr rv=>
  cases S' with|lst q' BL GS=>
  have l:=rr.length;have l':=BL.length;rw[rv.length]at l;rw[GS.length]at l';by_cases hz:ts.length=yS.length
  ·rw[hz,Nat.min_self,bB,Bool.and_true,<-hz,<-l]at e;rw[<-e];exact⟨.lists q q' (by simp;omega) hv (it rr BL rv GS),.lists q q' (by simp;omega) hv (it rr BL rv GS)⟩
  ·rw[jo hz,wa]at e;rw[<-e];exact⟨.lists_lengths q q' (by simp;omega) hv,.lists_lengths q q' (by simp;omega) hv⟩
end
def ZN(a b:Tr):Rs Tr:=if qQ a=true/\qQ b=true/\dT a<=40 then .ok (.bl (eqT a b))else .bad
theorem dh(hu:X.A.units+40<cLine):A6 X (compareOp .Eq) ZN:=by
 intro U s Z H x y v u Q I rx ry ⟨B,tx,ty,hb,r1,r2,q⟩;obtain⟨⟨p1,p2,hd⟩,k⟩:=gy q;exact(Q9 I 40 hd p1 p2 r1.up r2.up rx ry hu).1 _ _ _ _ ⟨.bl _,H,I,rfl,k _ H (aE.refl H) (.bl _)⟩
section
variable {qa:Addr->Option Nat}
theorem Jn(I:Inv X U Z H s)(n:Nat){x y:V}{u:Value}{t t':Tr}(hd:dT t<=n)(p:qQ t=true)(p':qQ t'=true)(r:Rep X.K (⟨H,qa⟩:Vw) x t)(r':Rep X.K (⟨H,qa⟩:Vw) y t')(rx:RelV x aa)(ry:RelV y u)(hu:A.units+n<cLine):SeqAt.EqAt A s aa u (eqT t t'):=
 Fj I n hd p p' r r' rx ry (Q9 I n hd p p' r r' rx ry hu).1
end
def L8(a b:Tr):Rs Tr:=if qQ a=true/\qQ b=true/\dT a<=40 then .ok (.bl (!eqT a b))else .bad
theorem GU(hu:X.A.units+40<cLine):A6 X (compareOp .NotEq) L8:=by
 intro U s Z H x y v u Q I rx ry ⟨B,tx,ty,hb,r1,r2,q⟩;obtain⟨⟨p1,p2,hd⟩,k⟩:=gy q;exact(Q9 I 40 hd p1 p2 r1.up r2.up rx ry hu).2 _ _ _ _ ⟨.bl _,H,I,rfl,k _ H (aE.refl H) (.bl _)⟩
def ZO:Tr->Tr->Rs Tr
 |.int i,.int j=>.ok (.bl (decide (i<j)))
 |.str a,.str b=>.ok (.bl (decide (a.cps.toList<b.cps.toList)))
 |_,_=>.bad
def ZP:Tr->Tr->Rs Tr
 |.int i,.int j=>.ok (.bl (decide (i<=j)))
 |.str a,.str b=>.ok (.bl (!(decide (b.cps.toList<a.cps.toList))))
 |_,_=>.bad
def ZQ:Tr->Tr->Rs Tr
 |.int i,.int j=>.ok (.bl (decide (j<i)))
 |_,_=>.bad
def ZR:Tr->Tr->Rs Tr
 |.int i,.int j=>.ok (.bl (decide (j<=i)))
 |_,_=>.bad
theorem MV:A6 X (compareOp .Lt) ZO:=by
 intro U s Z H x y v u Q I rx ry ⟨B,tx,ty,hb,r1,r2,q⟩;unfold ZO at q;split at q
 ·exact UC U s Z H _ _ v u Q I rx ry ⟨_,_,r1.int_inv,r2.int_inv,q _ H (aE.refl H) (.bl _)⟩
 ·exact Gy U s Z H _ _ v u Q I rx ry ⟨_,_,r1.str_inv.1,r2.str_inv.1,q _ H (aE.refl H) (.bl _)⟩
 ·exact fe q
theorem ZU:A6 X (compareOp .LtE) ZP:=by
 intro U s Z H x y v u Q I rx ry ⟨B,tx,ty,hb,r1,r2,q⟩;unfold ZP at q;split at q
 ·exact UD U s Z H _ _ v u Q I rx ry ⟨_,_,r1.int_inv,r2.int_inv,q _ H (aE.refl H) (.bl _)⟩
 ·exact GI U s Z H _ _ v u Q I rx ry ⟨_,_,r1.str_inv.1,r2.str_inv.1,q _ H (aE.refl H) (.bl _)⟩
 ·exact fe q
theorem Q_:A6 X (compareOp .Gt) ZQ:=by
 intro U s Z H x y v u Q I rx ry ⟨B,tx,ty,hb,r1,r2,q⟩;unfold ZQ at q;split at q
 ·exact UE U s Z H _ _ v u Q I rx ry ⟨_,_,r1.int_inv,r2.int_inv,q _ H (aE.refl H) (.bl _)⟩
 ·exact fe q
theorem VC:A6 X (compareOp .GtE) ZR:=by
 intro U s Z H x y v u Q I rx ry ⟨B,tx,ty,hb,r1,r2,q⟩;unfold ZR at q;split at q
 ·exact UG U s Z H _ _ v u Q I rx ry ⟨_,_,r1.int_inv,r2.int_inv,q _ H (aE.refl H) (.bl _)⟩
 ·exact fe q
def Yu:Tr->Bool
 |.bO=>true
 |_=>false
theorem Fm{H:Vw}{x:V}{t:Tr}(r:Rep K H x t):decide (x=.bO)=Yu t:=by
 cases r<;>rfl
def Fo:Tr->Tr->Rs Tr
 |a,.bO=>.ok (.bl (Yu a))
 |.bl a,.bl b=>.ok (.bl (a==b))
 |_,_=>.bad
theorem BN:A6 X (compareOp .Is) Fo:=by
 intro U s Z H x y v u Q I rx ry ⟨B,tx,ty,hb,r1,r2,q⟩;unfold Fo at q;split at q
 ·exact P_ U s Z H _ _ v u Q I rx ry ⟨r2.ME,by rw[Fm r1];exact q _ H (aE.refl H) (.bl _)⟩
 ·exact QN U s Z H _ _ v u Q I rx ry ⟨_,_,r1.wM,r2.wM,q _ H (aE.refl H) (.bl _)⟩
 ·exact fe q
def dS(aM:List (Key×Tr))(k:Key):Option Tr:=(aM.find? fun kv=>decide (kv.1=k)).map (·.2)
def jt:Tr->Option Key
 |.int i=>some (.inl i)
 |.str z=>some (.inr z)
 |_=>none
theorem mG{H:Vw}{x:V}{t:Tr}{k:Key}(r:Rep K H x t)(e:jt t=some k):x=kV k:=by
 cases r with
 |int i=>cases e;rfl
 |str z h=>cases e;rfl
 |_=>cases e
theorem pI{H:Vw}(k:Key):∀{kvs:List (Key×V)} {aM:List (Key×Tr)},kvs.map (·.1)=aM.map (·.1)->bc K H (kvs.map (·.2)) (aM.map (·.2))->(dS aM k=none/\lO kvs k=none)\/∃t v,dS aM k=some t/\lO kvs k=some v/\Rep K H v t
 |[],[],_,_=>.inl ⟨rfl,rfl⟩
 |[],_::_,e,_=>by cases e
 |_::_,[],e,_=>by cases e
 |(k1,v1)::kvs,(k2,t2)::aM,e,r=>by
  rw[ba,ba]at e;injection e with e1 e2
  have MW:k1=k2:=e1;subst MW;cases r with
  |cons h r=>
   by_cases q:k1=k
   ·refine .inr ⟨t2,v1,?_,sA q,h⟩;unfold dS;rw[jn,iz (show(k1,t2).1=k from q)]
    rfl
   ·rw[sC q];have e3:dS ((k1,t2)::aM) k=dS aM k:=by
     unfold dS;rw[jn,eC (show¬(k1,t2).1=k from q)]
    rw[e3];exact pI k e2 r
theorem wU{H:Vw}{aM:List (Key×Tr)}{y:V}{t:Tr}{k:Key}(h:Rd H.H a (.dK kvs))(e:kvs.map (·.1)=aM.map (·.1))(r:bc K H (kvs.map (·.2)) (aM.map (·.2)))(ry:Rep K H y t)(hk:jt t=some k):
  ∃o,oF H a y o/\((dS aM k=none/\o=none)\/∃t v,dS aM k=some t/\o=some v/\Rep K H v t):=by
 have e1:=mG ry hk;subst e1;refine⟨_,.inl ⟨kvs,k,h,rfl,rfl⟩,?_⟩;rcases pI k e r with⟨h1,h2⟩|⟨t,v,h1,h2,h3⟩
 ·exact .inl ⟨h1,h2⟩
 ·exact .inr ⟨t,v,h1,h2,h3⟩
def yg:Tr->Bool
 |.bO=>true
 |.bl _=>true
 |.int _=>true
 |.str _=>true
 |_=>false
def eU(x:Tr)(u:Value):Bool:=match u with
 |.none=>eqT .bO x
 |.bool b=>eqT (.bl b) x
 |.int i _=>eqT (.int i) x
 |.str z _=>eqT (.str z) x
 |_=>false
theorem DO{H:Vw}{y:V}{t x:Tr}(r:Rep K H y t)(f:yg t=true)(ry:RelV y aa):eU x aa=eqT t x:=by
 cases r with
 |bO=>cases(show aa=Value.none from ry);rfl
 |bl b=>cases(show aa=Value.bool b from ry);rfl
 |int i=>obtain⟨w,rfl⟩:=(show∃t,aa=Value.int i t from ry);rfl
 |str z _=>obtain⟨w,rfl⟩:=(show∃t,aa=Value.str z t from ry);rfl
 |_=>cases f
theorem wV{H:Vw}{x:Tr}:∀{vs:List V} {ts:List Tr} {us:List Value},bc K H vs ts->ts.all yg=true->Vals vs us->us.any (eU x)=ts.any fun y=>eqT y x
 |[],_,_,r,_,rv=>by cases r;cases rv;rfl
 |_::_,_,_,r,f,rv=>by
  cases r with
  |cons h r=>
   cases rv with
   |cons h1 rv=>
    rw[gG,bp]at f;rw[iA,iA,DO h f.1 h1,wV r f.2 rv]
theorem MX{t:Tr}(f:yg t=true):dT t<=0/\qQ t=true:=by cases t<;>first|exact⟨aQ _,rfl⟩|cases f
theorem oN{qa:Addr->Option Nat}{A:Around}{x:V}{t:Tr}{v:Value}(I:Inv X U Z H s)(hu:A.units<cLine)(rx:Rep X.K (⟨H,qa⟩:Vw) x t)(p:qQ t=true)(rv:RelV x v):∀{vs:List V} {ts:List Tr} {us:List Value},bc X.K (⟨H,qa⟩:Vw) vs ts->ts.all yg=true->Vals vs us->∀u∈us,SeqAt.EqAt A s u v (eU t u)
 |[],_,_,r,_,q=>fun u m=>by cases q;cases m
 |_::_,_,_,r,f,q=>fun u m=>by
  cases r with
  |cons h r=>
   cases q with
   |cons h1 q=>
    rw[gG,bp]at f;rcases aV.mp m with rfl|m
    ·rw[DO h f.1 h1];obtain⟨d0,p0⟩:=MX f.1;exact Jn I 0 d0 p0 p h rx h1 rv hu
    ·exact oN I hu rx p rv r f.2 q u m
def Jo(x:Tr)(ts:List Tr):Rs Bool:=if qQ x=true/\ts.all yg=true then .ok (ts.any fun y=>eqT y x)else .bad
def GV:Tr->Tr->Rs Tr
 |x,.tup ts=>QX (Jo x ts)
 |x,.lst ts=>QX (Jo x ts)
 |x,.bw aM=>match jt x with
  |some k=>.ok (.bl (dS aM k).isSome)
  |none=>.bad
 |.str i,.str j=>.ok (.bl (!(Builtin.Str.occurrences j i 0 j.length 1).isEmpty))
 |_,_=>.bad
def MY:Tr->Tr->Rs Tr
 |x,.tup ts=>QX (GK (Jo x ts))
 |x,.lst ts=>QX (GK (Jo x ts))
 |x,.bw aM=>match jt x with
  |some k=>.ok (.bl (!(dS aM k).isSome))
  |none=>.bad
 |.str i,.str j=>.ok (.bl (!(!(Builtin.Str.occurrences j i 0 j.length 1).isEmpty)))
 |_,_=>.bad
theorem vm{x:Tr}{k:Bool->Prop}(q:Fi X H (Jo x ts) k):qQ x=true/\ts.all yg=true/\k (ts.any fun y=>eqT y x):=by
 unfold Jo at q;split at q
 ·rename_i h;exact⟨h.1,h.2,q⟩
 ·exact q.elim
theorem Fp{x y:V}{tx:Tr}{aM:List (Key×Tr)}{k:Key}(r:Rep K (bz B H) y (.bw aM))(r1:Rep K (bz B H) x tx)(ek:jt tx=some k):∃a,y=.ref a/\∃o,oF H a x o/\o.isSome=(dS aM k).isSome:=by
 cases r with
 |bw h e rr=>
  obtain⟨o,g,ho⟩:=wU (H:=raw _ _) (h.same aZ) e (rr.same eI) r1.up ek;refine⟨_,rfl,o,g,?_⟩;rcases ho with⟨h1,rfl⟩|⟨_,_,h1,rfl,_⟩
  ·rw[h1];rfl
  ·rw[h1];rfl
theorem mH(hu:X.A.units+1<cLine):A6 X (compareOp .In) GV:=by
 intro U s Z H x y v u Q I rx ry ⟨B,tx,ty,hb,r1,r2,q⟩;unfold GV at q;split at q
 ·have f:=vm (Fi.bind q);obtain⟨a,vs,rfl,h,rr⟩:=r2.dr;cases(show u=Value.ref a from ry);obtain⟨bE,rv,pl,_⟩:=I.tuple h.up;refine SeqAt.in_tupleAt (eU tx) pl (fun w hw=>oN I hu r1.up f.1 rx (rr.same eI) f.2.1 rv w (by simpa using hw)) ⟨.bl _,H,I,rfl,?_⟩;rw[show bE.toArray.any (eU tx)=bE.any (eU tx) by simp,wV rr f.2.1 rv];exact f.2.2 _ H (aE.refl H) (.bl _)
 ·have f:=vm (Fi.bind q);obtain⟨a,vs,rfl,h,rr⟩:=r2.lst_inv;cases(show u=Value.ref a from ry);obtain⟨bE,rv,pl,_⟩:=I.list (.of (dt h));refine SeqAt.in_listAt (eU tx) pl.isList (fun w hw=>oN I hu r1.up f.1 rx (rr.same eI) f.2.1 rv w (by simpa using hw)) ⟨.bl _,H,I,rfl,?_⟩;rw[show bE.toArray.any (eU tx)=bE.any (eU tx) by simp,wV rr f.2.1 rv];exact f.2.2 _ H (aE.refl H) (.bl _)
 ·split at q
  ·rename_i ek;obtain⟨a,rfl,g⟩:=Fp r2 r1 ek;cases(show u=Value.ref a from ry);obtain⟨o,g,eo⟩:=g;refine Zs hu I g rx fun s' I'=>⟨.bl _,H,I',rfl,?_⟩;rw[eo];exact q _ H (aE.refl H) (.bl _)
  ·exact fe q
 ·exact Gz U s Z H _ _ v u Q I rx ry ⟨_,_,r1.str_inv.1,r2.str_inv.1,q _ H (aE.refl H) (.bl _)⟩
 ·exact fe q
theorem sN(hu:X.A.units+1<cLine):A6 X (compareOp .NotIn) MY:=by
 intro U s Z H x y v u Q I rx ry ⟨B,tx,ty,hb,r1,r2,q⟩;unfold MY at q;split at q
 ·have f:=vm (Fi.bind (Fi.bind q));obtain⟨a,vs,rfl,h,rr⟩:=r2.dr;cases(show u=Value.ref a from ry);obtain⟨bE,rv,pl,_⟩:=I.tuple h.up;refine SeqAt.notIn_tupleAt (eU tx) pl (fun w hw=>oN I hu r1.up f.1 rx (rr.same eI) f.2.1 rv w (by simpa using hw)) ⟨.bl _,H,I,rfl,?_⟩;rw[show bE.toArray.any (eU tx)=bE.any (eU tx) by simp,wV rr f.2.1 rv];exact f.2.2 _ H (aE.refl H) (.bl _)
 ·have f:=vm (Fi.bind (Fi.bind q));obtain⟨a,vs,rfl,h,rr⟩:=r2.lst_inv;cases(show u=Value.ref a from ry);obtain⟨bE,rv,pl,_⟩:=I.list (.of (dt h));refine SeqAt.notIn_listAt (eU tx) pl.isList (fun w hw=>oN I hu r1.up f.1 rx (rr.same eI) f.2.1 rv w (by simpa using hw)) ⟨.bl _,H,I,rfl,?_⟩;rw[show bE.toArray.any (eU tx)=bE.any (eU tx) by simp,wV rr f.2.1 rv];exact f.2.2 _ H (aE.refl H) (.bl _)
 ·split at q
  ·rename_i ek;obtain⟨a,rfl,g⟩:=Fp r2 r1 ek;cases(show u=Value.ref a from ry);obtain⟨o,g,eo⟩:=g;refine Mu hu I g rx fun s' I'=>⟨.bl _,H,I',rfl,?_⟩;rw[eo];exact q _ H (aE.refl H) (.bl _)
  ·exact fe q
 ·exact zI U s Z H _ _ v u Q I rx ry ⟨_,_,r1.str_inv.1,r2.str_inv.1,q _ H (aE.refl H) (.bl _)⟩
 ·exact fe q
def kh{α:Type}:Option α->Rs α
 |some a=>.ok a
 |none=>.bad
def jf:Tr->Tr->Rs Tr
 |.tup ts,.int i=>kh (ua ts i)
 |.lst ts,.int i=>kh (ua ts i)
 |.str z,.int i=>(kh (ua z.cps.toList i)).bind fun c=>.ok (.str ⟨#[c]⟩)
 |.uC ns,.int i=>(kh (ua ns i)).bind fun n=>.ok (.int n)
 |.bw aM,t=>(kh (jt t)).bind fun k=>kh (dS aM k)
 |_,_=>.bad
theorem bc.ua {H:Vw}{vs:List V}{i:Int}{t:Tr}(r:bc K H vs ts)(e:L2.ua ts i=some t):∃v,L2.ua vs i=some v/\Rep K H v t:=by
 unfold L2.ua at e⊢;rw[r.length];cases q:LP ts.length i with
 |none=>rw[q]at e;cases e
 |some j=>
  rw[q]at e;obtain⟨v,e1,r1⟩:=r.get (show ts[j]?=some t from e);exact⟨v,e1,r1⟩
theorem fy{X:Cx}{H:Hp}{α:Type}{o:Option α}{k:α->Prop}(h:Fi X H (kh o) k):∃a,o=some a/\k a:=by
 cases o with
 |none=>exact h.elim
 |some a=>exact⟨a,rfl,h⟩
section
variable {b:Expr}
theorem MZ{α β:Type}(f:α->β)(xs:List α)(i:Int):L2.ua (xs.map f) i=(L2.ua xs i).map f:=by
 unfold L2.ua;rw[aK];cases LP xs.length i with
 |none=>rfl
 |some j=>show(xs.map f)[j]?=_;rw[bA];rfl
theorem M0(c:Nat):(⟨#[c]⟩:Str).length<=cw:=by show 1<=cw;decide
theorem M3{x y:V}{ty t:Tr}{aM:List (Key×Tr)}{k:Key}(r:Rep K (bz B H) x (.bw aM))(r2:Rep K (bz B H) y ty)(ek:jt ty=some k)(et:dS aM k=some t):∃tg w,x=.ref tg/\oF H tg y (some w)/\Rep K (bz B H) w t:=by
 obtain⟨tg,kvs,e0,h,e,rr⟩:=r.mE;refine⟨tg,?_⟩;rcases pI k e rr with⟨h1,_⟩|⟨t',w,h1,h2,h3⟩
 ·cases et.symm.trans h1
 ·cases et.symm.trans h1;exact⟨w,e0,.inl ⟨kvs,k,h.same aZ,mG r2 ek,h2.symm⟩,h3⟩
theorem VD(hu:X.A.units+1<cLine):UQ X (rT X jf):=by
 intro value slice U s Z H x y v u Q I rx ry ⟨B,tx,ty,hb,r1,r2,q⟩ hs;unfold jf at q;split at q
 ·obtain⟨tg,vs,e,h,rr⟩:=r1.dr;obtain⟨t,et,k⟩:=fy q;obtain⟨w,ew,oA⟩:=rr.ua et;exact Qi value slice U s Z H _ _ v u Q I rx ry ⟨_,_,_,w,e,r2.int_inv,h.up,ew,k w H (aE.refl H) oA⟩ hs
 ·obtain⟨tg,vs,e,h,rr⟩:=r1.lst_inv;obtain⟨t,et,k⟩:=fy q;obtain⟨w,ew,oA⟩:=rr.ua et;exact EV value slice U s Z H _ _ v u Q I rx ry ⟨_,_,_,w,e,r2.int_inv,.of (dt h),ew,k w H (aE.refl H) oA⟩ hs
 ·obtain⟨c,et,k⟩:=fy (Fi.bind q);exact Qj value slice U s Z H _ _ v u Q I rx ry ⟨_,_,c,r1.str_inv.1,r2.int_inv,bP r1.str_inv.2 kD,et,k _ H (aE.refl H) (.str _ (M0 c))⟩ hs
 ·obtain⟨n,et,k⟩:=fy (Fi.bind q);obtain⟨tg,e,h⟩:=r1.E8;exact EV value slice U s Z H _ _ v u Q I rx ry ⟨_,_,_,.int n,e,r2.int_inv,aE.seq aZ h,by rw[MZ,et];rfl,k _ H (aE.refl H) (.int n)⟩ hs
 ·obtain⟨k,ek,qk⟩:=fy (Fi.bind q);obtain⟨t,et,qt⟩:=fy qk;obtain⟨tg,w,rfl,g,oA⟩:=M3 r1 r2 ek et;cases(show v=Value.ref tg from rx);exact tail_any (Bt I g) PySem.F.slot_dict_getitem.lookup (GF hu I g ry fun w' s' I' rv=>⟨w,H,I',rv,qt w H (aE.refl H) oA⟩) hs
 ·exact fe q
theorem ZV(hu:X.A.units+1<cLine)(ha:PE X tg (tP X F))(hb:PE X b (tP X G))(hs:sk b:=by exact fun _ _=>rfl):PE X (.Subscript tg b pos) (tP X fun Y=>Je jf (F Y) (G Y)):=
 (OK (VD hu) ha hb hs).weak fun _ _ _ q=>sI q
inductive tO(X:Cx)(P:bf->Rs (Option Int))(Z:St)(H:Hp)(Q:Option Int->Hp->Prop):Prop
 |mk (B:d7) (Y:bf):HB B H->bV X.K B H Z Y->(Fi X H (P Y) fun o=>∀H',aE H H'->Q o H')->tO X P Z H Q
def M4(r:Rs Tr):Rs (Option Int):=r.bind fun t=>match t with
 |.int i=>.ok (some i)
 |_=>.bad
theorem Ra:PO X none (tO X fun _=>.ok none):=fun U s Z H Q I ⟨B,Y,hb,r,q⟩=>Ml U s Z H Q I (q H (aE.refl H))
theorem Rb(h:PE X e (tP X F)):PO X (some e) (tO X fun Y=>M4 (F Y)):=fun U s Z H Q I ⟨B,Y,hb,r,q⟩=>
 Mm h U s Z H Q I ⟨B,Y,hb,r,q.bind.mono fun t qt v H' s' r'=>by
  split at qt
  ·exact⟨_,r'.int_inv,qt H' s'⟩
  ·exact qt.elim⟩
def zX{α:Type}(xs:List α)(lo hi:Option Int):List α:=(xs.drop (HT.gb xs.length 0 lo)).take (HT.gb xs.length xs.length hi - HT.gb xs.length 0 lo)
theorem bc.cut {H:Vw}{vs:List V}(r:bc K H vs ts)(lo hi:Option Int):bc K H (Bq vs lo hi) (zX ts lo hi):=by
 unfold Bq zX;rw[r.length];exact(r.drop _).take _
def mI(n:Nat)(lo hi:Option Int):Bool:=HT.gb n 0 lo==0&&HT.gb n n hi==n
def ZW:Tr->Option Int->Option Int->Rs Tr
 |.tup ts,lo,hi=>if mI ts.length lo hi=true then .bad else .ok (.tup (zX ts lo hi))
 |.lst ts,lo,hi=>.ok (.lst (zX ts lo hi))
 |.str z,lo,hi=>if(Txt.slice z lo hi).length<=cw then .ok (.str (Txt.slice z lo hi))else .bad
 |_,_,_=>.bad
inductive rSl(X:Cx)(x:V)(lo:Option Int)(hi:Option Int)(H:Hp)(Q:VK):Prop
 |mk (B:d7) (t:Tr):HB B H->Rep X.K (bz B H) x t->(Fi X H (ZW t lo hi) fun t=>∀v H',aE H H'->Rep X.K (bz B H') v t->Q v H')->rSl X x lo hi H Q
theorem ZX:TK X (rSl X):=by
 intro U s Z H x v vl vu lo hi sl Q I rx hs pl pu ⟨B,t,hb,r,q⟩;cases r with
 |tup h rr=>
  rename_i tg vs ts;have q':Fi X H (if mI ts.length lo hi=true then Rs.bad else .ok (Tr.tup (zX ts lo hi))) _:=q;by_cases hw:mI ts.length lo hi=true
  ·rw[au hw]at q';exact fe q'
  ·rw[ay hw]at q';refine Qg U s Z H _ v vl vu lo hi sl Q I rx hs pl pu ⟨_,_,rfl,h.up,fun z=>hw ?_,fun p hp=>q' _ _ (aE.upd hp) (.Q6 hb hp (rr.cut lo hi))⟩;rw[rr.length]at z;unfold mI;rw[z.1,z.2,bB,bB];rfl
 |lst h rr=>exact Mp U s Z H _ v vl vu lo hi sl Q I rx hs pl pu ⟨_,_,rfl,.of (dt h),fun p hp=>q _ _ (aE.upd hp) (.zU hb hp (rr.cut lo hi))⟩
 |str z hz=>
  obtain⟨h1,k⟩:=gy q;exact QR U s Z H _ v vl vu lo hi sl Q I rx hs pl pu ⟨z,rfl,bP hz kD,k _ H (aE.refl H) (.str _ h1)⟩
 |_=>exact fe q
variable {P1 P2:bf->Rs (Option Int)}{lo hi:Option Expr}{p2:Pos}
def M5:List Tr->Rs Tr
 |[.str z]=>.ok (.int (z.length:Int))
 |[.tup ts]=>.ok (.int (ts.length:Int))
 |[.lst ts]=>.ok (.int (ts.length:Int))
 |[.uC ns]=>.ok (.int (ns.length:Int))
 |_=>.bad
theorem VE:kE X (.builtin "len") M5:=by
 intro U s Z H xs us Q I rv ⟨B,ts,hb,r,q⟩;unfold M5 at q;split at q
 ·obtain⟨x,e,r⟩:=fb r;exact sf U s Z H _ us Q I rv ⟨_,_,e,by rw[r.str_inv.1];exact⟨bP r.str_inv.2 kD,rfl⟩,q _ H (aE.refl H) (.int _)⟩
 ·obtain⟨x,e,r⟩:=fb r;obtain⟨tg,vs,rfl,h,rr⟩:=r.dr;exact sf U s Z H _ us Q I rv ⟨_,_,e,.inr ⟨_,h.up,rfl⟩,q _ H (aE.refl H) (by rw[rr.length];exact .int _)⟩
 ·obtain⟨x,e,r⟩:=fb r;obtain⟨tg,vs,rfl,h,rr⟩:=r.lst_inv;exact sf U s Z H _ us Q I rv ⟨_,_,e,.inl ⟨_,.of (dt h),rfl⟩,q _ H (aE.refl H) (by rw[rr.length];exact .int _)⟩
 ·obtain⟨x,e,r⟩:=fb r;obtain⟨tg,rfl,h⟩:=r.E8;exact sf U s Z H _ us Q I rv ⟨_,_,e,.inl ⟨_,aE.seq aZ h,rfl⟩,q _ H (aE.refl H) (by rw[aK];exact .int _)⟩
 ·exact fe q
def OT:List Tr->Rs Tr
 |[.tup ts]=>.ok (.lst ts)
 |[.lst ts]=>.ok (.lst ts)
 |_=>.bad
def DP:List Tr->Rs Tr
 |[.tup ts]=>.ok (.tup ts)
 |[.lst ts]=>.ok (.tup ts)
 |_=>.bad
theorem gf:kE X (.type "tuple") DP:=by
 intro U s Z H xs us Q I rv ⟨B,ts,hb,r,q⟩;unfold DP at q;split at q
 ·obtain⟨x,e,r⟩:=fb r;obtain⟨tg,vs,rfl,h,rr⟩:=r.dr;exact p9 U s Z H _ us Q I rv ⟨_,_,e,.inr ⟨h.up,q _ H (aE.refl H) (.tup h rr)⟩⟩
 ·obtain⟨x,e,r⟩:=fb r;obtain⟨tg,vs,rfl,h,rr⟩:=r.lst_inv;exact p9 U s Z H _ us Q I rv ⟨_,_,e,.inl ⟨.of (dt h),fun p hp=>q _ _ (aE.upd hp) (.Q6 hb hp rr)⟩⟩
 ·exact q.elim
def wW:Tr->String
 |.bO=>"NoneType"
 |.bl _=>"bool"
 |.int _=>"int"
 |.str _=>"str"
 |.ty _=>"type"
 |.tup _=>"tuple"
 |.lst _=>"list"
 |.uC _=>"list"
 |.bw _=>"dict"
 |.at _=>"object"
 |.uD _=>"dict"
 |.ob _ _=>"object"
 |.yM _=>"object"
def Yv(t:Tr)(c:String):Bool:=wW t==c||(wW t=="bool"&&c=="int")
def kinds:List String:=["int","str","bool","tuple","list","dict"]
theorem Fq(K:Frag):∀tg∈["NoneType","bool","int","str","tuple","list","dict"],∀c∈kinds,PySem.W.kitOne K (.type tg) (.type c)=some (tg==c||(tg=="bool"&&c=="int")):=by
 intro tg ha c hc;simp only[kinds,aV,cc,cf]at ha hc;rcases ha with rfl|rfl|rfl|rfl|rfl|rfl|rfl<;>rcases hc with rfl|rfl|rfl|rfl|rfl|rfl<;>first|rfl|(unfold PySem.W.kitOne;exact au (by decide))
def VF:Tr->Bool
 |.ty _|.at _|.ob _ _|.yM _=>true
 |_=>false
def Rc:List Tr->Rs Tr
 |[t,.ty c]=>if VF t=false/\kinds.contains c=true then .ok (.bl (Yv t c))else .bad
 |_=>.bad
theorem M6{qa:Addr->Option Nat}{x:V}{t:Tr}{c:String}(I:Inv X U Z H s)(r:Rep X.K (⟨H,qa⟩:Vw) x t)(h0:VF t=false)(rx:RelV x aa)(hc:c∈kinds)(h:∀tk,Q (.bool (Yv t c)) {s with toks:=tk}):
  wpAny (model X.prog X.w) A (call (.builtin "isinstance") [aa,.type c]) Q E s:=by
 have M7:=fun tg ha=>Fq X.K tg ha c hc;cases r with
 |bO=>exact lN I rx .bO (M7 _ (by decide)) h
 |bl b=>exact lN I rx (.bl b) (M7 _ (by decide)) h
 |int i=>exact lN I rx (.int i) (M7 _ (by decide)) h
 |str z hz=>exact lN I rx (.str z) (M7 _ (by decide)) h
 |ty n=>cases h0
 |«at» h=>cases h0
 |ob h e rr=>cases h0
 |yM h c=>cases h0
 |@uD tg kvs aM hq e rr=>
  cases(show aa=Value.ref tg from rx);obtain⟨_,_,xs,_,o,es,ep,h1,h2,_⟩:=(show cu X.prog X.w H s.heap tg (.dT kvs)from I.cp tg _ hq);exact dX rE I.kM ⟨o,h1,h2.1⟩ (M7 "dict" (by decide)) (fun z=>nomatch z) h
 |@tup tg vs ts hq rr=>
  cases(show aa=Value.ref tg from rx);obtain⟨bE,rv,⟨o,h1,h2,_⟩,_⟩:=I.tuple hq;exact dX PySem.W.kitx_tuple I.kM ⟨o,h1,h2⟩ (M7 "tuple" (by decide)) (fun z=>nomatch z) h
 |lst hq rr=>exact lN I rx (.lst hq) (M7 _ (by decide)) h
 |@uC tg ns hq=>
  cases(show aa=Value.ref tg from rx);obtain⟨bE,rv,⟨o,n,h1,h2,_⟩,_⟩:=I.list hq;exact dX vS I.kM ⟨o,h1,h2⟩ (M7 "list" (by decide)) (fun z=>nomatch z) h
 |@bw tg kvs aM hq e rr=>
  cases(show aa=Value.ref tg from rx);obtain⟨_,_,vs,_,p⟩:=(show cu X.prog X.w H s.heap tg (.dK kvs)from hq.ok I.cp);obtain⟨o,es,ep,h1,h2,_⟩:=p;exact dX rE I.kM ⟨o,h1,h2.1⟩ (M7 "dict" (by decide)) (fun z=>nomatch z) h
theorem yT:kE X (.builtin "isinstance") Rc:=by
 intro U s Z H xs us Q I rv ⟨B,ts,hb,r,q⟩;unfold Rc at q;split at q
 ·obtain⟨⟨h0,h1⟩,k⟩:=gy q;obtain⟨x,y,rfl,r1,r2⟩:=yO r;obtain⟨v,u,rfl,v1,v2⟩:=vals2 rv;cases r2;cases v2;exact M6 I r1.up h0 v1 (by simpa using h1) fun tk=>⟨.bl _,H,I.tok _,rfl,k _ H (aE.refl H) (.bl _)⟩
 ·exact q.elim
variable {name:Str}{cN:Pos}{id:String}{h:Str->List Tr->Rs Tr}
end
def Rf:Tr->Rs Tr
 |.int i=>.ok (.int (-i))
 |_=>.bad
theorem VG(ha:PE X e (tP X F)):PE X (.UnaryOp .USub e pos) (tP X fun Y=>(F Y).bind Rf):=
 (UB P9 ha).weak fun Z H Q ⟨B,Y,hb,r,q⟩=>⟨B,Y,hb,r,q.bind.mono fun t qt v H' s' r'=>by
  cases r' with
  |int i=>exact⟨i,rfl,qt _ H' s' (.int _)⟩
  |_=>exact fe qt⟩
theorem cL(hr:cz i A):A.units+40<cLine:=by have:=hr.units;omega
def qd(n m:Nat)(G:bf->Rs Out)(ts:List Tr):Rs Tr:=if ts.length=n then cX (G (startT m ts))else .bad
theorem M8{n:Nat}{G:bf->Rs Out}{t:Tr}(h:qd n i G ts=.ok t):ts.length=n:=by
 unfold qd at h;split at h
 ·assumption
 ·cases h
theorem Rg{m:Nat}{G:bf->Rs Out}{t:Tr}(h:qd i m G ts=.ok t):cX (G (startT m ts))=.ok t:=by
 unfold qd at h;split at h
 ·exact h
 ·cases h
def kP(aM:List (Key×Tr))(k:Key)(t:Tr):List (Key×Tr):=
 if(aM.any fun kv=>decide (kv.1=k))=true then aM.map (fun kv=>if kv.1=k then(kv.1,t)else kv)else aM++[(k,t)]
def kQ(aM more:List (Key×Tr)):List (Key×Tr):=more.foldl (fun acc kv=>kP acc kv.1 kv.2) aM
structure di(K:Frag)(H:Vw)(kvs:List (Key×V))(aM:List (Key×Tr)):Prop where
 keys:kvs.map (·.1)=aM.map (·.1)
 vals:bc K H (kvs.map (·.2)) (aM.map (·.2))
section
variable {H H':Vw}
theorem di.nil:di K H [] []:=⟨rfl,.nil⟩
theorem di.same {aM:List (Key×Tr)}(s:dQ H H')(h:di K H kvs aM):di K H' kvs aM:=⟨h.keys,h.vals.same s⟩
theorem di.cons {k:Key}{v:V}{t:Tr}{aM:List (Key×Tr)}(r:Rep K H v t)(h:di K H kvs aM):di K H ((k,v)::kvs) ((k,t)::aM):=⟨by rw[ba,ba,h.keys],.cons r h.vals⟩
theorem di.inv {k:Key}{v:V}{aM:List (Key×Tr)}(h:di K H ((k,v)::kvs) aM):∃t r,aM=(k,t)::r/\Rep K H v t/\di K H kvs r:=by
 obtain⟨e,r⟩:=h
 match aM,e,r with
 |(k2,t)::c8,e,r=>
  rw[ba,ba]at e;injection e with e1 e2
  have MW:k=k2:=e1;subst MW;cases r with
  |cons h1 h2=>exact⟨t,c8,rfl,h1,e2,h2⟩
theorem di.any (k:Key):∀{kvs:List (Key×V)} {aM:List (Key×Tr)},di K H kvs aM->(kvs.any fun kv=>decide (kv.1=k))=aM.any fun kv=>decide (kv.1=k)
 |[],aM,h=>by
  have e:=h.keys;cases aM with
  |nil=>rfl
  |cons a b=>cases e
 |(j,v)::kvs,aM,h=>by
  obtain⟨t,r,rfl,_,h2⟩:=h.inv;rw[iA,iA,di.any k h2]
theorem di.map (k:Key){y:V}{u:Tr}(ry:Rep K H y u):∀{kvs:List (Key×V)} {aM:List (Key×Tr)},di K H kvs aM->di K H (kvs.map fun kv=>if kv.1=k then(kv.1,y)else kv) (aM.map fun kv=>if kv.1=k then(kv.1,u)else kv)
 |[],aM,h=>by
  have e:=h.keys;cases aM with
  |nil=>exact .nil
  |cons a b=>cases e
 |(j,v)::kvs,aM,h=>by
  obtain⟨t,r,rfl,h1,h2⟩:=h.inv;rw[ba,ba];by_cases e:j=k
  ·rw[au (show(j,v).1=k from e),au (show(j,t).1=k from e)];exact .cons ry (di.map k ry h2)
  ·rw[ay (show¬(j,v).1=k from e),ay (show¬(j,t).1=k from e)];exact .cons h1 (di.map k ry h2)
theorem di.snoc (k:Key){y:V}{u:Tr}(ry:Rep K H y u):∀{kvs:List (Key×V)} {aM:List (Key×Tr)},di K H kvs aM->di K H (kvs++[(k,y)]) (aM++[(k,u)])
 |[],aM,h=>by
  have e:=h.keys;cases aM with
  |nil=>exact .cons ry .nil
  |cons a b=>cases e
 |(j,v)::kvs,aM,h=>by
  obtain⟨t,r,rfl,h1,h2⟩:=h.inv;exact .cons h1 (di.snoc k ry h2)
theorem di.put (k:Key){y:V}{u:Tr}(ry:Rep K H y u){aM:List (Key×Tr)}(h:di K H kvs aM):di K H (putK kvs k y) (kP aM k u):=by
 unfold putK kP;rw[h.any k];by_cases e:(aM.any fun kv=>decide (kv.1=k))=true
 ·rw[au e,au e];exact h.map k ry
 ·rw[ay e,ay e];exact h.snoc k ry
theorem di.merge:∀{more:List (Key×V)} {DQ:List (Key×Tr)} {kvs:List (Key×V)} {aM:List (Key×Tr)},di K H more DQ->di K H kvs aM->di K H (hJ kvs more) (kQ aM DQ)
 |[],DQ,kvs,aM,h,q=>by
  have e:=h.keys;cases DQ with
  |nil=>exact q
  |cons a b=>cases e
 |(k,v)::more,DQ,kvs,aM,h,q=>by
  obtain⟨t,r,rfl,h1,h2⟩:=h.inv;exact di.merge (more:=more) (DQ:=r) h2 (q.put k h1)
end
theorem bV.bar {Y:bf}{p:Addr}{o:HO}(h:bV K B H Z Y)(hp:H p=none):bV K (lS B p) (upd H p o) Z Y:=by
 refine⟨h.len,fun i t e=>?_,fun i ts e=>?_,h.ap⟩
 ·obtain⟨v,e1,r⟩:=h.sh i t e;exact⟨v,e1,r.same (jW hp)⟩
 ·obtain⟨D,ys,e1,e2,e3,r⟩:=h.ow i ts e;exact⟨D,ys,e1,Ff.hd _ e2,by rw[aF (bj e3 hp)];exact e3,r.same (jW hp)⟩
def OU(k v:Rs Tr)(r:Rs (List (Tr×Tr))):Rs (List (Tr×Tr)):=k.bind fun x=>v.bind fun y=>r.bind fun ps=>.ok ((x,y)::ps)
def wX:List (Tr×Tr)->Rs (List (Key×Tr))
 |[]=>.ok []
 |(k,t)::r=>(kh (jt k)).bind fun k=>(wX r).bind fun l=>.ok ((k,t)::l)
def VH(r:Rs (List (Tr×Tr))):Rs Tr:=r.bind fun ps=>if ps.length<=15 then(wX ps).bind fun aM=>.ok (.bw (kQ [] aM))else .bad
inductive wY(K:Frag)(H:Vw):List (V×V)->List (Tr×Tr)->Prop where
 |nil:wY K H [] []
 |cons {x y:V} {t u:Tr} {ps:List (V×V)} {qs:List (Tr×Tr)} (h1:Rep K H x t) (h2:Rep K H y u) (r:wY K H ps qs):wY K H ((x,y)::ps) ((t,u)::qs)
theorem wY.length {H:Vw}{ps:List (V×V)}{qs:List (Tr×Tr)}(h:wY K H ps qs):ps.length=qs.length:=by
 induction h with
 |nil=>rfl
 |cons _ _ _ ih=>rw[cG,cG,ih]
theorem yU{X:Cx}{H:Vw}{H0:Hp}{k:List (Key×Tr)->Prop}{ps:List (V×V)}{qs:List (Tr×Tr)}(h:wY K H ps qs):Fi X H0 (wX qs) k->∃kvs aM,k aM/\ps=kvs.map (fun kv=>(kV kv.1,kv.2))/\di K H kvs aM:=by
 induction h generalizing k with
 |nil=>exact fun q=>⟨[],[],q,rfl,.nil⟩
 |cons h1 h2 r ih=>
  intro q;obtain⟨key,ek,q1⟩:=fy (Fi.bind q);obtain⟨kvs,aM,k1,e1,rd⟩:=ih (Fi.bind q1);have e:=mG h1 ek;subst e;exact⟨(key,_)::kvs,_,k1,by rw[ba,e1],.cons h2 rd⟩
section
variable {a:Expr}{cN:Pos}{E:bf->Rs Tr}{keys:List (Option Expr)}{P:bf->Rs (List (Tr×Tr))}
structure QP(X:Cx)(pos:Pos)(keys:List (Option Expr))(es:List Expr)(P:bf->Rs (List (Tr×Tr))):Prop where
 h:∃zO,TL X pos keys es zO/\∀Z H Q,(∃B Y,HB B H/\bV X.K B H Z Y/\Fi X H (P Y) fun Rh=>∀M9 H',aE H H'->wY X.K (bz B H') M9 Rh->Q M9 H')->wz zO Z H Q
theorem OV:QP X pos [] [] fun _=>.ok []:=⟨[],E2,fun Z H Q ⟨B,Y,hb,r,q⟩=>q [] H (aE.refl H) .nil⟩
theorem wY.same {H H':Vw}(s:dQ H H'){ps:List (V×V)}{qs:List (Tr×Tr)}(h:wY K H ps qs):wY K H' ps qs:=by
 induction h with
 |nil=>exact .nil
 |cons h1 h2 r ih=>exact .cons (h1.same s) (h2.same s) ih
theorem M_(hk:PE X e (tP X F))(hv:PE X o (tP X G))(hr:QP X pos keys es P):QP X pos (some e::keys) (o::es) fun Y=>OU (F Y) (G Y) (P Y):=by
 obtain⟨zO,h1,h2⟩:=hr.h;refine⟨_,Bv hk hv h1,fun Z H Q ⟨B,Y,hb,r,q⟩=>?_⟩;refine⟨B,Y,hb,r,q.bind.mono fun x qx u H1 s1 r1=>⟨B,Y,hb.same s1,r.same s1,(qx.bind.same s1).mono fun y qy w H2 s2 r2=>h2 _ _ _ ⟨B,Y,hb.same (s1.trans s2),r.same (s1.trans s2),(qy.bind.same (s1.trans s2)).mono fun ps qp M9 H3 s3 r3=>?_⟩⟩⟩;exact qp _ H3 ((s1.trans s2).trans s3) (.cons (r1.same (aX (s2.trans s3))) (r2.same (aX s3)) r3)
theorem Ri(h:QP X pos keys es P)(tY:keys.all (·.isSome)=true:=by rfl) (hl:keys.length=es.length:=by rfl) (h0:keys.isEmpty=false:=by rfl) (My:keys.length<=15:=by decide):PE X (.Dict keys es pos) (tP X fun Y=>VH (P Y)):=by
 obtain⟨zO,h1,h2⟩:=h.h;refine(E3 h1 tY hl (fun z=>by rw[z]at h0;cases h0) My).weak fun Z H Q ⟨B,Y,hb,r,q⟩ p hp=>?_
 refine h2 Z _ _ ⟨lS B p,Y,Fe hb hp,r.bar hp,(q.bind.same (aE.upd hp)).mono fun Rh qp M9 H2 s2 r2=>?_⟩;by_cases hz:Rh.length<=15
 ·rw[au hz]at qp;obtain⟨kvs,aM,k1,e1,rd⟩:=yU r2 (Fi.bind qp);refine⟨s2 _ _ a_,kvs,e1,?_,?_⟩
  ·have e2:=cq List.length e1;rw[aK,r2.length]at e2;rw[<-e2];exact hz
  ·have hBp:=hb.free hp;have rm:=(di.merge rd di.nil);refine k1 _ _ (((aE.upd hp).trans s2).Bx hp) (.bw (.inl (by rw[fK hBp];exact a_)) rm.keys (rm.vals.same ?_));have e3:bz (lS B p) (upd H2 p (.dK (hJ [] kvs)))=bz (lS B p) H2:=sL;rw[<-e3];exact BG
 ·rw[ay hz]at qp;exact fe qp
def Jp(a b:Rs Tr):Rs Tr:=a.bind fun x=>match x with
 |.bw aM=>b.bind fun y=>(kh (jt y)).bind fun k=>.ok ((dS aM k).getD .bO)
 |_=>.bad
def Jq(a b c:Rs Tr):Rs Tr:=a.bind fun x=>match x with
 |.bw aM=>b.bind fun y=>c.bind fun z=>(kh (jt y)).bind fun k=>.ok ((dS aM k).getD z)
 |_=>.bad
theorem OW(hb:isCall o=false)(bQ:aP [e]=true)(hl:(b8.endLine==cN.line)=true):M1 X o x b8 e cN:=
 ⟨fu hb,by rw[iN bQ];rfl,hl,by rw[aY _ _ (aG bQ).1,starEach];rfl⟩
theorem OX(hb:isCall o=false)(bQ:aP [e,tg]=true)(hl:(b8.endLine==cN.line)=true):M2 X o x b8 e tg cN:=
 ⟨fu hb,by rw[iN bQ];rfl,hl,by rw[aY _ _ (aG bQ).1,aY _ _ (aG (aG bQ).2).1,starEach];rfl⟩
theorem Fs{y:V}{ov:Option V}(g:oF (bz B H) ae y ov):oF H ae y ov:=by
 rcases g with⟨kvs,k,e1,e2,e3⟩|⟨kvs,k,b,e1,e2,e3,e4⟩
 ·exact .inl ⟨kvs,k,e1.same aZ,e2,e3⟩
 ·exact .inr ⟨kvs,k,b,e1.same aZ,e2,aZ _ _ e3,e4⟩
theorem Rj(hu:X.A.units+1<cLine)(ho:PE X o (tP X F))(he:PE X e (tP X G))(hb:isCall o=false:=by rfl) (bQ:aP [e]=true:=by rfl) (hl:(b8.endLine==cN.line)=true:=by rfl):PE X (.Call (.Attribute o "get" b8) [e] [] cN) (tP X fun Y=>Jp (F Y) (G Y)):=
 (IV hu ho he (OW hb bQ hl)).weak fun Z H Q ⟨B,Y,hb,r,q⟩=>⟨B,Y,hb,r,q.bind.mono fun x qx v H1 s1 r1=>by
  split at qx
  ·obtain⟨_,_,rfl,h,e,rr⟩:=r1.mE;refine⟨_,rfl,.inl ⟨_,h.same aZ⟩,B,Y,hb.same s1,r.same s1,(Fi.bind qx|>.same s1).mono fun y qy w H2 s2 r2=>?_⟩;obtain⟨k,ek,qk⟩:=fy (Fi.bind qy);obtain⟨ov,g,ho⟩:=wU (Rd.same (aX s2).h h) e (rr.same (aX s2)) r2 ek;refine⟨ov,Fs g,qk _ H2 (s1.trans s2) ?_⟩;rcases ho with⟨h1,rfl⟩|⟨t,w',h1,rfl,h3⟩
   ·rw[h1];exact .bO
   ·rw[h1];exact h3
  ·exact qx.elim⟩
theorem Rk(hu:X.A.units+1<cLine)(ho:PE X o (tP X F))(he:PE X e (tP X G))(hf:PE X tg (tP X E))(hb:isCall o=false:=by rfl) (bQ:aP [e,tg]=true:=by rfl) (hl:(b8.endLine==cN.line)=true:=by rfl):PE X (.Call (.Attribute o "get" b8) [e,tg] [] cN) (tP X fun Y=>Jq (F Y) (G Y) (E Y)):=
 (IW hu ho he hf (OX hb bQ hl)).weak fun Z H Q ⟨B,Y,hb,r,q⟩=>⟨B,Y,hb,r,q.bind.mono fun x qx v H1 s1 r1=>by
  split at qx
  ·obtain⟨_,_,rfl,h,e,rr⟩:=r1.mE;refine⟨_,rfl,.inl ⟨_,h.same aZ⟩,B,Y,hb.same s1,r.same s1,(Fi.bind qx|>.same s1).mono fun y qy w H2 s2 r2=>⟨B,Y,hb.same (s1.trans s2),r.same (s1.trans s2),(Fi.bind qy|>.same (s1.trans s2)).mono fun z qz w3 H3 s3 r3=>?_⟩⟩;obtain⟨k,ek,qk⟩:=fy (Fi.bind qz);obtain⟨ov,g,ho⟩:=wU (Rd.same (aX (s2.trans s3)).h h) e (rr.same (aX (s2.trans s3))) (r2.same (aX s3)) ek;refine⟨ov,Fs g,qk _ H3 ((s1.trans s2).trans s3) ?_⟩;rcases ho with⟨h1,rfl⟩|⟨t,w',h1,rfl,h3⟩
   ·rw[h1];exact r3
   ·rw[h1];exact h3
  ·exact qx.elim⟩
def zY(K:Frag)(w:World)(mg:Str->Option Value)(x:Str)(aM:List (Str×Tr)):Prop:=
 ∃a kvs,mg x=some (.ref a)/\Bz K w a kvs/\∀z,(valueAt kvs z=none/\aM.lookup z=none)\/∃u v t,valueAt kvs z=some u/\RelV v u/\aM.lookup z=some t/\∀H,Rep K H v t
def Rm(aM:List (Str×Tr)):Tr->Rs Tr
 |.str z=>kh (aM.lookup z)
 |_=>.bad
variable {aM:List (Str×Tr)}
theorem VI(g:zY X.K X.w X.mg x aM)(ha:PE X a (tP X F))(hg:Gl X x:=by rfl) (hd:Db x:=by decide) (hs:Mv a:=by exact fun _ _=>rfl):PE X (.Subscript (.Name x p) a pos) (tP X fun Y=>(F Y).bind (Rm aM)):=by
 obtain⟨ad,kvs,hm,D,hz⟩:=g;refine(Jc (zH (v:=.ref ad) hg hm rfl hd) ha hs).weak fun Z H Q ⟨B,Y,hb,r,q⟩=>?_
 refine⟨B,Y,hb,r,q.bind.mono fun t qt v H1 s1 r1=>?_⟩;unfold Rm at qt;split at qt
 ·rename_i z;obtain⟨t,et,k⟩:=fy qt;rcases hz z with⟨h1,h2⟩|⟨u,v,t',h1,h3,h2,h4⟩
  ·cases et.symm.trans h2
  ·cases et.symm.trans h2;exact⟨ad,z,kvs,u,v,rfl,r1.str_inv.1,D,h1,h3,k v H1 s1 (h4 _)⟩
 ·exact qt.elim
def GW:List Tr->Rs (List Bool)
 |[]=>.ok []
 |.bl b::ts=>(GW ts).bind fun zs=>.ok (b::zs)
 |_=>.bad
theorem Ft{H:Vw}{H0:Hp}{k:List Bool->Prop}:∀{ts:List Tr} {vs:List V},bc K H vs ts->Fi X H0 (GW ts) k->∃bs,k bs/\vs=bs.map V.bl
 |[],_,r,q=>by cases r;exact⟨[],q,rfl⟩
 |t::ts,_,r,q=>by
  cases r with
  |cons h r=>
   cases h with
   |bl b=>
    obtain⟨bs,k1,e⟩:=Ft (k:=fun zs=>k (b::zs)) r (Fi.bind q);exact⟨b::bs,k1,by rw[e];rfl⟩
   |_=>exact fe q
def M':List Tr->Rs Tr
 |[.lst ts]=>(GW ts).bind fun bs=>.ok (.bl (bs.all id))
 |_=>.bad
theorem VJ(hc:X.calm=true):kE X (.builtin "all") M':=by
 intro U s Z H xs us Q I rv ⟨B,ts,hb,r,q⟩;unfold M' at q;split at q
 ·obtain⟨x,rfl,h⟩:=fb r;obtain⟨a,vs,rfl,hl,rr⟩:=h.lst_inv;obtain⟨bs,k,rfl⟩:=Ft rr (Fi.bind q);exact Jb hc U s Z H _ us Q I rv ⟨_,bs,rfl,.of (dt hl),k _ H (aE.refl H) (.bl _)⟩
 ·exact fe q
end
inductive DR(K:Frag)(w:World):List DictEntry->List (Str×Value)->List (Str×Tr)->Prop
 |nil:DR K w [] [] []
 |cons {z:Str} {t:Tok} {v:V} {u:Value} {tr:Tr} {es:List DictEntry} {kvs:List (Str×Value)} {aM:List (Str×Tr)}:RelV v u->(∀H,Rep K H v tr)->DR K w es kvs aM->
   DR K w (⟨PyData.keyHash w.params z,.str z t,u⟩::es) ((z,u)::kvs) ((z,tr)::aM)
variable {es:List DictEntry}{kvs:List (Str×Value)}{aM:List (Str×Tr)}
theorem DR.keys (prog:Program)(h:DR K w es kvs aM):∀e∈es,∃k,(PySem.strKind prog w).is k e.key=true/\e.hash=(PySem.strKind prog w).hash k:=by
 induction h with
 |nil=>intro e he;cases he
 |@cons z t v u tr es kvs aM _ _ _ ih=>
  intro e he;rcases aV.mp he with rfl|he
  ·exact⟨z,by simp[PySem.strKind,Value.isStrOf],rfl⟩
  ·exact ih e he
theorem DR.pairs (prog:Program)(h:DR K w es kvs aM):Pairs (PySem.strKind prog w) es kvs:=by
 induction h with
 |nil=>exact .nil
 |cons _ _ _ ih=>exact .cons (by simp[PySem.strKind,Value.isStrOf]) rfl ih
theorem DR.at (h:DR K w es kvs aM)(y:Str):(valueAt kvs y=none/\aM.lookup y=none)\/∃u v t,valueAt kvs y=some u/\RelV v u/\aM.lookup y=some t/\∀H,Rep K H v t:=by
 induction h with
 |nil=>exact .inl ⟨rfl,rfl⟩
 |@cons z t v u tr es kvs aM hr hp _ ih=>
  by_cases e:z=y
  ·subst e;exact .inr ⟨u,v,tr,by simp[valueAt],hr,by simp[List.lookup],hp⟩
  ·have e1:valueAt ((z,u)::kvs) y=valueAt kvs y:=by simp[valueAt,e]
   have e2:List.lookup y ((z,tr)::aM)=aM.lookup y:=by
    have:(y==z)=false:=iw.mpr fun k=>e k.symm;simp[List.lookup,this]
   rw[e1,e2];exact ih
theorem DR.gd {ep:Nat}(h:DR K w es kvs aM)(hm:mg x=some (.ref a))(hl:K.lookup a=some ⟨.type "dict",none,.dict es.toArray ep,#[]⟩) (hs:(a==sysModules)=false) (hn:(kvs.map (·.1)).Nodup):zY K w mg x aM:=
 ⟨a,kvs,hm,⟨hs,_,_,_,hl,⟨rfl,rfl,rfl⟩,rfl,fun prog=>⟨fun e he=>h.keys prog e (by simpa using he),h.pairs prog,hn⟩⟩,h.at⟩
inductive Ao where
 |lst (ts:List Tr)|bw (aM:List (Key×Tr))|ins (x:Str) (fs:List (Str×Tr))|uD (aM:List (List Key×Tr))|Dg (x:Str)
abbrev Ab:=List Ao
def qR(K:Frag)(B:d7)(H:Hp)(a:Addr):Ao->Prop
 |.lst ts=>B.hd a=true/\∃vs,H a=some (.lst vs)/\bc K (bz B H) vs ts
 |.bw aM=>B.hd a=true/\∃kvs,H a=some (.dK kvs)/\di K (bz B H) kvs aM
 |.uD aM=>B.hd a=true/\∃kvs,H a=some (.dT kvs)/\kvs.map (·.1)=aM.map (·.1)/\bc K (bz B H) (kvs.map (·.2)) (aM.map (·.2))
 |.ins x fs=>B.hd a=true/\∃dx gw,H a=some (.ins (clsAt K x) dx gw)/\H dx=some (.own a)/\B.ix dx=none/\gw.map (·.1)=fs.map (·.1)/\bc K (bz B H) (gw.map (·.2)) (fs.map (·.2))
 |.Dg x=>B.hd a=true/\∃oe:Obj,H a=some (.ext fun h=>h.get? a=some oe)/\oe.cls=.ref (clsAt K x)
structure HA(K:Frag)(B:d7)(A:Ab)(H:Hp):Prop where
 hb:HB B H
 ob:∀i o,A[i]?=some o->∃a,B.ix a=some i/\qR K B H a o
 inj:∀a b i,B.ix a=some i->B.ix b=some i->a=b
 lt:∀a i,B.ix a=some i->i<A.length
structure Grows(B:d7)(H:Hp)(B':d7)(H':Hp):Prop where
 jH:dQ (bz B H) (bz B' H')
 kp:∀b o,B.ix b=none->H b=some o->H' b=some o
 hd:∀b,B.ix b=none->B.hd b=true->B'.hd b=true
 nw:∀b i,B'.ix b=some i->B.ix b=none->H b=none
section
variable {B' B1 B2:d7}{H' H1 H2:Hp}{A:Ab}
theorem qR.same {o:Ao}(h:qR K B H a o)(s:aE H H'):qR K B H' a o:=by
 cases o with
 |lst ts=>obtain⟨h0,vs,h1,h2⟩:=h;exact⟨h0,vs,s _ _ h1,h2.same (aX s)⟩
 |bw aM=>obtain⟨h0,vs,h1,h2⟩:=h;exact⟨h0,vs,s _ _ h1,h2.same (aX s)⟩
 |uD aM=>obtain⟨h0,vs,h1,h2,h3⟩:=h;exact⟨h0,vs,s _ _ h1,h2,h3.same (aX s)⟩
 |Dg x=>obtain⟨h0,oe,h1,h2⟩:=h;exact⟨h0,oe,s _ _ h1,h2⟩
 |ins c fs=>obtain⟨h0,dx,gw,h1,h2,h3,h4,h5⟩:=h;exact⟨h0,dx,gw,s _ _ h1,s _ _ h2,h3,h4,h5.same (aX s)⟩
theorem qR.hd {o:Ao}(h:qR K B H a o):B.hd a=true:=by cases o<;>exact h.1
theorem qR.mem {o:Ao}(h:qR K B H a o):∃x,H a=some x/\(∀vs,x≠ .tup vs)/\∀ob u,x≠ .kg ob u:=by
 cases o with
 |lst ts=>obtain⟨h0,vs,h1,h2⟩:=h;exact⟨_,h1,(fun _ e=>by cases e),(fun _ _ e=>by cases e)⟩
 |bw aM=>obtain⟨h0,vs,h1,h2⟩:=h;exact⟨_,h1,(fun _ e=>by cases e),(fun _ _ e=>by cases e)⟩
 |uD aM=>obtain⟨h0,vs,h1,h2⟩:=h;exact⟨_,h1,(fun _ e=>by cases e),(fun _ _ e=>by cases e)⟩
 |Dg x=>obtain⟨h0,oe,h1,h2⟩:=h;exact⟨_,h1,(fun _ e=>by cases e),(fun _ _ e=>by cases e)⟩
 |ins c fs=>obtain⟨h0,dx,gw,h1,h2⟩:=h;exact⟨_,h1,(fun _ e=>by cases e),(fun _ _ e=>by cases e)⟩
theorem HA.same (h:HA K B A H)(s:aE H H'):HA K B A H':=
 ⟨h.hb.same s,fun i o e=>by obtain⟨a,h1,h2⟩:=h.ob i o e;exact⟨a,h1,h2.same s⟩,h.inj,h.lt⟩
theorem HA.get (h:HA K B A H){i:Nat}{o:Ao}(e:B.ix a=some i)(q:A[i]?=some o):qR K B H a o:=by
 obtain⟨b,h1,h2⟩:=h.ob i o q;rw[h.inj a b i e h1];exact h2
theorem HA.ex (h:HA K B A H){i:Nat}(e:B.ix a=some i):∃o,A[i]?=some o/\qR K B H a o:=by
 have l:=h.lt a i e;exact⟨A[i],bq l,h.get e (bq l)⟩
theorem HA.free (h:HA K B A H){p:Addr}(hp:H p=none):B.ix p=none:=by
 cases e:B.ix p with
 |none=>rfl
 |some i=>
  obtain⟨o,_,q⟩:=h.ex e;obtain⟨x,e2,_⟩:=q.mem;rw[hp]at e2;cases e2
theorem Grows.of (s:aE H H'):Grows B H B H':=⟨aX s,fun b o _ e=>s b o e,fun _ _ e=>e,fun b i e n=>by rw[n]at e;cases e⟩
theorem Grows.refl:Grows B H B H:=.of (aE.refl H)
theorem Grows.trans (hb:HB B H)(a:Grows B H B1 H1)(b:Grows B1 H1 B2 H2):Grows B H B2 H2:=by
 have key:∀c,B.ix c=none->(∃o,H c=some o)->B1.ix c=none:=fun c n ⟨o,e⟩=>by
  cases q:B1.ix c with
  |none=>rfl
  |some i=>have:=a.nw c i q n;rw[e]at this;cases this
 refine⟨a.jH.trans b.jH,fun c o n e=>b.kp c o (key c n ⟨o,e⟩) (a.kp c o n e),fun c n e=>?_,fun c i e n=>?_⟩
 ·exact b.hd c (key c n (hb c e)) (a.hd c n e)
 ·cases q:B1.ix c with
  |none=>
   have:=b.nw c i e q;cases q2:H c with
   |none=>rfl
   |some o=>rw[a.kp c o n q2]at this;cases this
  |some j=>exact a.nw c j q n
def oO(B:d7)(p:Addr)(i:Nat):d7:=⟨fun b=>B.hd b||b==p,fun b=>if b=p then some i else B.ix b⟩
theorem pJ:(oO B a i).hd a=true:=by show(B.hd a||a==a)=true;rw[bB,Bool.or_true]
theorem gK:(oO B a i).ix a=some i:=au rfl
theorem gL{b:Addr}(h:b≠a):(oO B a i).ix b=B.ix b:=ay h
theorem sO{b:Addr}(h:b≠a):(oO B a i).hd b=B.hd b:=by show(B.hd b||b==a)=_;rw[jo h,rR]
theorem Jr{p:Addr}(hp:H p=none)(hx:B.ix p=none)(s:aE H H'):dQ (bz B H) (bz (oO B p i) H'):=⟨fun b u e=>by
 have e1:=aZ b u e;have gq:b≠p:=bj e1 hp;have hB:B.hd b=false:=by
  cases q:B.hd b with
  |false=>rfl
  |true=>
   have e2:(if B.hd b=true then none else H b)=some u:=e;rw[q,au rfl]at e2;cases e2
 rw[fK (by rw[sO gq];exact hB)];exact s b u e1,fun b j e=>by
 have gq:b≠p:=fun z=>by rw[z]at e;rw[show(bz B H).ix p=B.ix p from rfl,hx]at e;cases e
 show(oO B p i).ix b=some j;rw[gL gq];exact e⟩
theorem HA.push {p:Addr}{o:Ao}(h:HA K B A H)(hp:H p=none)(s:aE H H')(ho:qR K (oO B p A.length) H' p o):Grows B H (oO B p A.length) H'/\HA K (oO B p A.length) (A++[o]) H':=by
 have hx:=h.free hp;have jH:dQ (bz B H) (bz (oO B p A.length) H'):=Jr hp hx s;have up:∀{a:Addr} {u:Ao},a≠p->qR K B H a u->qR K (oO B p A.length) H' a u:=fun{a u} gq q=>by
  have e0:(oO B p A.length).hd a=true:=by rw[sO gq];exact q.hd
  cases u with
  |lst ts=>obtain⟨h0,vs,h1,h2⟩:=q;exact⟨e0,vs,s _ _ h1,h2.same jH⟩
  |bw aM=>obtain⟨h0,vs,h1,h2⟩:=q;exact⟨e0,vs,s _ _ h1,h2.same jH⟩
  |uD aM=>obtain⟨h0,vs,h1,h2,h3⟩:=q;exact⟨e0,vs,s _ _ h1,h2,h3.same jH⟩
  |Dg x=>obtain⟨h0,oe,h1,h2⟩:=q;exact⟨e0,oe,s _ _ h1,h2⟩
  |ins c fs=>
   obtain⟨h0,dx,gw,h1,h2,h3,h4,h5⟩:=q;exact⟨e0,dx,gw,s _ _ h1,s _ _ h2,by rw[gL (bj h2 hp)];exact h3,h4,h5.same jH⟩
 refine⟨⟨jH,fun b u _ e=>s b u e,fun b _ e=>?_,fun b i e n=>?_⟩,⟨fun b e=>?_,fun i u e=>?_,fun a b i e1 e2=>?_,fun a i e=>?_⟩⟩
 ·show(B.hd b||b==p)=true;rw[e,Bool.true_or]
 ·by_cases q:b=p
  ·rw[q];exact hp
  ·rw[gL q,n]at e;cases e
 ·by_cases q:b=p
  ·rw[q];obtain⟨x,e2,_⟩:=ho.mem;exact⟨x,e2⟩
  ·rw[sO q]at e;obtain⟨x,e2⟩:=h.hb b e;exact⟨x,s _ _ e2⟩
 ·by_cases q:i<A.length
  ·rw[nE q]at e;obtain⟨a,e1,e2⟩:=h.ob i u e;have gq:a≠p:=fun z=>by rw[z,hx]at e1;cases e1
   exact⟨a,by rw[gL gq];exact e1,up gq e2⟩
  ·rw[vF (Nat.le_of_not_lt q)]at e;have hi:i - A.length=0:=by
    cases z:i - A.length with
    |zero=>rfl
    |succ k=>rw[z]at e;cases e
   rw[hi]at e;cases e;have:i=A.length:=by omega
   subst this;exact⟨p,gK,ho⟩
 ·by_cases q1:a=p
  ·by_cases q2:b=p
   ·rw[q1,q2]
   ·rw[q1,gK]at e1;cases e1;rw[gL q2]at e2;exact absurd (h.lt b _ e2) (dH _)
  ·by_cases q2:b=p
   ·rw[q2,gK]at e2;cases e2;rw[gL q1]at e1;exact absurd (h.lt a _ e1) (dH _)
   ·rw[gL q1]at e1;rw[gL q2]at e2;exact h.inj a b i e1 e2
 ·rw[dW,List.length_singleton];by_cases q:a=p
  ·rw[q,gK]at e;cases e;exact nR _
  ·rw[gL q]at e;exact kz (h.lt a i e)
theorem iD{u:HO}(h:B.hd a=true):bz B (upd H a u)=bz B H:=by
 unfold bz;congr 1;funext b;by_cases q:b=a
 ·subst q;rw[au h,au h]
 ·rw[aF q]
theorem HA.write {o:Ao}{u:HO}(h:HA K B A H)(e:B.ix a=some i)(ho:qR K B (upd H a u) a o):Grows B H B (upd H a u)/\HA K B (A.set i o) (upd H a u):=by
 have hd:B.hd a=true:=ho.hd;have hv:bz B (upd H a u)=bz B H:=iD hd;refine⟨⟨by rw[hv];exact dQ.refl _,fun b x n q=>?_,fun _ _ q=>q,fun b j q n=>by rw[n]at q;cases q⟩,⟨fun b q=>?_,fun j x q=>?_,h.inj,fun b j q=>by rw[jP];exact h.lt b j q⟩⟩
 ·have gq:b≠a:=fun z=>by rw[z,e]at n;cases n
  rw[aF gq];exact q
 ·by_cases z:b=a
  ·subst z;exact⟨u,a_⟩
  ·rw[aF z];exact h.hb b q
 ·rcases eO q with⟨rfl,_,rfl⟩|⟨zQ,q⟩
  ·exact⟨a,e,ho⟩
  ·obtain⟨b,e1,e2⟩:=h.ob j x q;have gq:b≠a:=fun z=>by rw[z,e]at e1;cases e1;exact zQ rfl
   refine⟨b,e1,?_⟩;cases x with
   |lst ts=>obtain⟨h0,vs,h1,h2⟩:=e2;exact⟨h0,vs,by rw[aF gq];exact h1,by rw[hv];exact h2⟩
   |bw aM=>obtain⟨h0,vs,h1,h2⟩:=e2;exact⟨h0,vs,by rw[aF gq];exact h1,by rw[hv];exact h2⟩
   |uD aM=>obtain⟨h0,vs,h1,h2,h3⟩:=e2;exact⟨h0,vs,by rw[aF gq];exact h1,h2,by rw[hv];exact h3⟩
   |Dg x=>obtain⟨h0,oe,h1,h2⟩:=e2;exact⟨h0,oe,by rw[aF gq];exact h1,h2⟩
   |ins c fs=>
    obtain⟨h0,dx,gw,h1,h2,h3,h4,h5⟩:=e2;have ZY:dx≠a:=fun z=>by rw[z,e]at h3;cases h3
    exact⟨h0,dx,gw,by rw[aF gq];exact h1,by rw[aF ZY];exact h2,h3,h4,by rw[hv];exact h5⟩
end
mutual
def uY:Tr->Bool
 |.at _=>false
 |.tup ts=>iO ts
 |.lst ts=>iO ts
 |.bw aM=>Fu aM
 |.uD aM=>Fv aM
 |.ob _ fs=>Fw fs
 |_=>true
def iO:List Tr->Bool
 |[]=>true
 |t::ts=>uY t&&iO ts
def Fu:List (Key×Tr)->Bool
 |[]=>true
 |p::r=>OY p&&Fu r
def OY:Key×Tr->Bool
 |(_,t)=>uY t
def Fv:List (List Key×Tr)->Bool
 |[]=>true
 |p::r=>OZ p&&Fv r
def OZ:List Key×Tr->Bool
 |(_,t)=>uY t
def Fw:List (Str×Tr)->Bool
 |[]=>true
 |p::r=>O0 p&&Fw r
def O0:Str×Tr->Bool
 |(_,t)=>uY t
end
theorem yV:∀(aM:List (Key×Tr)),Fu aM=iO (aM.map (·.2))
 |[]=>rfl
 |(k,t)::r=>by rw[Fu,OY,ba,iO,yV r]
theorem yW:∀(aM:List (List Key×Tr)),Fv aM=iO (aM.map (·.2))
 |[]=>rfl
 |(k,t)::r=>by rw[Fv,OZ,ba,iO,yW r]
theorem yX:∀(aM:List (Str×Tr)),Fw aM=iO (aM.map (·.2))
 |[]=>rfl
 |(k,t)::r=>by rw[Fw,O0,ba,iO,yX r]
mutual
def Ia:Tr->Bool
 |.bO=>true
 |.bl _=>true
 |.int _=>true
 |.str _=>true
 |.ty _=>true
 |.at _=>true
 |.tup ts=>mJ ts
 |_=>false
def mJ:List Tr->Bool
 |[]=>true
 |t::ts=>Ia t&&mJ ts
end
def aw:Nat->Ab->Tr->Tr
 |0,_,t=>t
 |n+1,A,.at i=>match A[i]? with
  |some (.lst ts)=>.lst (ts.map (aw n A))
  |some (.bw aM)=>.bw (aM.map fun p=>(p.1,aw n A p.2))
  |some (.uD aM)=>.uD (aM.map fun p=>(p.1,aw n A p.2))
  |some (.ins c fs)=>.ob c (fs.map fun p=>(p.1,aw n A p.2))
  |some (.Dg x)=>.yM x
  |none=>.at i
 |_+1,_,t=>t
def d7.un (B:d7):d7:=⟨fun b=>B.hd b&&(B.ix b).isNone,B.ix⟩
section
variable {B':d7}{H':Hp}{A:Ab}
theorem O1:uE B.un B:=⟨fun b e=>by
 have e':(B.hd b&&(B.ix b).isNone)=true:=e;rw[bp]at e';exact e'.1,fun _ _ e=>e⟩
theorem hU:dQ (bz B H) (bz B.un H):=wI O1
theorem Fx(h:HB B H):HB B.un H:=fun b e=>h b (O1.hd b e)
theorem BO(e:B.ix a=some i):(bz B.un H).H a=H a:=fK (by show(B.hd a&&(B.ix a).isNone)=false;rw[e];exact wa _)
theorem oP{W W':Vw}{f:Tr->Tr}(h:∀{v t},Rep K W v t->Rep K W' v (f t)):∀{vs:List V} {ts:List Tr},bc K W vs ts->bc K W' vs (ts.map f)
 |[],_,r=>by cases r;exact .nil
 |_::_,_,r=>by cases r with|cons h1 r=>exact .cons (h h1) (oP h r)
theorem iP(ha:HA K B A H):∀(n:Nat) {v:V} {t:Tr},Rep K (bz B H) v t->Rep K (bz B.un H) v (aw n A t)
 |0,v,t,r=>by rw[aw];exact r.same hU
 |n+1,v,t,r=>by
  cases r with
  |@«at» a i h=>
   have e:B.ix a=some i:=h;obtain⟨o,q,ao⟩:=ha.ex e;rw[aw,q];cases o with
   |lst ts=>
    obtain⟨h0,vs,h1,h2⟩:=ao;exact .lst (by rw[BO e];exact h1) (oP (fun r=>iP ha n r) h2)
   |bw aM=>
    obtain⟨h0,kvs,h1,h2⟩:=ao;refine .bw (.inl (by rw[BO e];exact h1)) (by rw[h2.keys,bY];rfl) ?_
    have:=oP (fun r=>iP ha n r) h2.vals;rw[bY]at this⊢;exact this
   |Dg x=>obtain⟨h0,oe,h1,h2⟩:=ao;exact .yM (by rw[BO e];exact h1) h2
   |uD aM=>
    obtain⟨h0,kvs,h1,h2,h3⟩:=ao;refine .uD (by rw[BO e];exact h1) (by rw[h2,bY];rfl) ?_
    have:=oP (fun r=>iP ha n r) h3;rw[bY]at this⊢;exact this
   |ins c fs=>
    obtain⟨h0,dx,gw,h1,h2,h3,h4,h5⟩:=ao;refine .ob (by rw[BO e];exact h1) (by rw[h4,bY];rfl) ?_
    have:=oP (fun r=>iP ha n r) h5;rw[bY]at this⊢;exact this
  |bO=>exact .bO
  |bl b=>exact .bl b
  |int i=>exact .int i
  |str z h=>exact .str z h
  |ty m=>exact .ty m
  |uC h=>exact .uC (hU.h.seq h)
  |tup h r=>exact .tup (hU.h.tup h) (r.same hU)
  |lst h r=>exact .lst (hU.h _ _ h) (r.same hU)
  |bw h e r=>exact .bw (h.same hU.h) e (r.same hU)
  |uD h e r=>exact .uD (hU.h _ _ h) e (r.same hU)
  |ob h e r=>exact .ob (hU.h _ _ h) e (r.same hU)
  |yM h c=>exact .yM (hU.h _ _ h) c
theorem Rn(ha:HA K B A H){x:HO}(e:(bz B.un H).H a=some x)(hx:(∃vs,x=.tup vs)\/∃o u,x=.kg o u):(bz B H).H a=some x:=by
 have e1:=aZ a x e;cases q:B.hd a with
 |false=>rw[fK q];exact e1
 |true=>
  cases z:B.ix a with
  |none=>
   have e2:(if B.un.hd a=true then none else H a)=some x:=e;rw[show B.un.hd a=(B.hd a&&(B.ix a).isNone)from rfl,q,z]at e2;cases e2
  |some i=>
   obtain⟨o,_,ao⟩:=ha.ex z;obtain⟨y,e3,n1,n2⟩:=ao.mem;rw[e1]at e3;cases e3;rcases hx with⟨vs,rfl⟩|⟨o,u,rfl⟩
   ·exact absurd rfl (n1 vs)
   ·exact absurd rfl (n2 o u)
structure lT(W W':Vw):Prop where
 h:∀a x,W.H a=some x->((∃vs,x=.tup vs)\/∃o u,x=.kg o u)->W'.H a=some x
 x:∀a i,W.ix a=some i->W'.ix a=some i
theorem lT.un (ha:HA K B A H):lT (bz B.un H) (bz B H):=⟨fun a x e hx=>Rn ha e hx,fun _ _ e=>e⟩
theorem lT.trans {W W1 W2:Vw}(a:lT W W1)(b:lT W1 W2):lT W W2:=⟨fun c x e hx=>b.h c x (a.h c x e hx) hx,fun c i e=>b.x c i (a.x c i e)⟩
theorem lT.new {p:Addr}{x:HO}(hx:B.ix p=none)(hp:H p=some x)(n1:∀vs,x≠ .tup vs)(n2:∀o u,x≠ .kg o u):lT (bz B H) (bz (oO B p i) H):=⟨fun a y e hy=>by
 have e1:=aZ a y e;have gq:a≠p:=fun z=>by
  rw[z,hp]at e1;cases e1;rcases hy with⟨vs,z⟩|⟨o,u,z⟩
  ·exact n1 vs z
  ·exact n2 o u z
 have hB:B.hd a=false:=by
  cases q:B.hd a with
  |false=>rfl
  |true=>
   have e2:(if B.hd a=true then none else H a)=some y:=e;rw[q,au rfl]at e2;cases e2
 rw[fK (by rw[sO gq];exact hB)];exact e1,fun a j e=>by
 have gq:a≠p:=fun z=>by rw[z]at e;rw[show(bz B H).ix p=B.ix p from rfl,hx]at e;cases e
 show(oO B p i).ix a=some j;rw[gL gq];exact e⟩
theorem Fy{W W':Vw}(s:lT W W'){v:V}{t:Tr}(h:Rep K W v t):Ia t=true->Rep K W' v t:=by
 refine Rep.rec (motive_1:=fun v t _=>Ia t=true->Rep K W' v t) (motive_2:=fun vs ts _=>mJ ts=true->bc K W' vs ts) ?_ ?_ ?_ ?_ ?_ ?_ ?_ ?_ ?_ ?_ ?_ ?_ ?_ ?_ ?_ h
 ·exact fun _=>.bO
 ·exact fun b _=>.bl b
 ·exact fun i _=>.int i
 ·exact fun z h _=>.str z h
 ·exact fun n _=>.ty n
 ·exact fun h f=>nomatch f
 ·intro a vs ts h _ ih f;refine .tup ?_ (ih f)
  rcases h with(h|⟨o,h⟩)|h
  ·exact .inl (.inl (s.h _ _ h (.inl ⟨_,rfl⟩)))
  ·exact .inl (.inr ⟨o,s.h _ _ h (.inr ⟨_,_,rfl⟩)⟩)
  ·exact .inr h
 ·exact fun h _ _ f=>nomatch f
 ·exact fun h _ _ _ f=>nomatch f
 ·exact fun h _=>.at (s.x _ _ h)
 ·exact fun h _ _ _ f=>nomatch f
 ·exact fun h _ _ _ f=>nomatch f
 ·exact fun h c f=>nomatch f
 ·exact fun _=>.nil
 ·intro v t vs ts _ _ ZZ Z0 f;rw[mJ,bp]at f;exact .cons (ZZ f.1) (Z0 f.2)
theorem sP{W W':Vw}(s:lT W W'):∀{vs:List V} {ts:List Tr},bc K W vs ts->mJ ts=true->bc K W' vs ts
 |[],_,r,_=>by cases r;exact .nil
 |_::_,_,r,f=>by
  cases r with
  |cons h r=>
   rw[mJ,bp]at f;exact .cons (Fy s h f.1) (sP s r f.2)
theorem yY(ha:HA K B A H){v:V}{t:Tr}(h:Rep K (bz B.un H) v t)(f:Ia t=true):Rep K (bz B H) v t:=Fy (.un ha) h f
theorem Rep.Js {W W':Vw}(s:aE W.H W'.H){v:V}{t:Tr}(h:Rep K W v t):uY t=true->Rep K W' v t:=by
 refine Rep.rec (motive_1:=fun v t _=>uY t=true->Rep K W' v t) (motive_2:=fun vs ts _=>iO ts=true->bc K W' vs ts) ?_ ?_ ?_ ?_ ?_ ?_ ?_ ?_ ?_ ?_ ?_ ?_ ?_ ?_ ?_ h
 ·exact fun _=>.bO
 ·exact fun b _=>.bl b
 ·exact fun i _=>.int i
 ·exact fun z h _=>.str z h
 ·exact fun n _=>.ty n
 ·exact fun h _=>.uC (s.seq h)
 ·exact fun h _ ih f=>.tup (s.tup h) (ih f)
 ·exact fun h _ ih f=>.lst (s _ _ h) (ih f)
 ·intro a kvs aM h e _ ih f;refine .bw (Rd.same s h) e (ih ?_);rw[uY,yV]at f;exact f
 ·exact fun h f=>nomatch f
 ·intro a kvs aM h e _ ih f;refine .uD (s _ _ h) e (ih ?_);rw[uY,yW]at f;exact f
 ·intro a c dx gw fs h e _ ih f;refine .ob (s _ _ h) e (ih ?_);rw[uY,yX]at f;exact f
 ·exact fun h c _=>.yM (s _ _ h) c
 ·exact fun _=>.nil
 ·intro v t vs ts _ _ ZZ Z0 f;rw[iO,bp]at f;exact .cons (ZZ f.1) (Z0 f.2)
theorem bc.Js {W W':Vw}(s:aE W.H W'.H):∀{vs:List V} {ts:List Tr},bc K W vs ts->iO ts=true->bc K W' vs ts
 |[],_,r,_=>by cases r;exact .nil
 |_::_,_,r,f=>by
  cases r with
  |cons h r=>
   rw[iO,bp]at f;exact .cons (h.Js s f.1) (bc.Js s r f.2)
end
def VL(A:Ab):Cell->Cell
 |.sh t=>.sh (aw 5 A t)
 |c=>c
def cQ(A:Ab)(Y:bf):bf:=Y.map (VL A)
theorem bV.Ro {A:Ab}{Y:bf}(ha:HA K B A H)(n:fw Y)(h:bV K B H Z Y):bV K B.un H Z (cQ A Y):=by
 have no:∀i ts,(cQ A Y)[i]? ≠some (Cell.ow ts):=fun i ts e=>by
  unfold cQ at e;rw[bA]at e;cases q:Y[i]? with
  |none=>rw[q]at e;cases e
  |some c=>
   rw[q]at e;cases c with
   |no=>cases e
   |sh t=>cases e
   |ow us=>exact n i us q
 refine⟨by unfold cQ;rw[aK];exact h.len,fun i t e=>?_,fun i ts e=>absurd e (no i ts),fun i j ts us D _ e=>absurd e (no i ts)⟩;unfold cQ at e;rw[bA]at e;cases q:Y[i]? with
 |none=>rw[q]at e;cases e
 |some c=>
  rw[q]at e;cases c with
  |no=>cases e
  |ow us=>exact absurd q (n i us)
  |sh u=>
   obtain⟨v,e1,r⟩:=h.sh i u q;have e2:aw 5 A u=t:=by
    have e3:=Option.some.inj e;exact(Cell.sh.inj e3)
   rw[<-e2];exact⟨v,e1,iP ha 5 r⟩
theorem bV.grow {B':d7}{H':Hp}{Y:bf}(h:bV K B H Z Y)(n:fw Y)(g:Grows B H B' H'):bV K B' H' Z Y:=
 ⟨h.len,fun i t e=>by obtain⟨v,e1,r⟩:=h.sh i t e;exact⟨v,e1,r.same g.jH⟩,fun i ts e=>absurd e (n i ts),fun i j ts us D _ e=>absurd e (n i ts)⟩
theorem cu.get {h:Heap}{o:HO}(x:cu P w H h a o):∃u,h.get? a=some u:=by
 cases o with
 |lst xs=>obtain⟨_,_,_,_,e⟩:=x;exact⟨_,e⟩
 |tup xs=>obtain⟨_,_,_,o,e,_⟩:=x;exact⟨o,e⟩
 |dK kvs=>obtain⟨_,_,_,_,o,_,_,e,_⟩:=x;exact⟨o,e⟩
 |dT kvs=>obtain⟨_,_,_,_,o,_,_,e,_⟩:=x;exact⟨o,e⟩
 |set S n=>obtain⟨o,_,_,_,e,_⟩:=x;exact⟨o,e⟩
 |ins C dx fs=>obtain⟨_,_,_,e,_⟩:=x;exact⟨_,e⟩
 |own y=>exact x
 |xd fs=>obtain⟨_,⟨_,_,_,e,_⟩,_⟩:=x;exact⟨_,e⟩
 |Yg lo hi=>obtain⟨_,_,_,e⟩:=x;exact⟨_,e⟩
 |kg ob u=>obtain⟨e,_⟩:=x;exact⟨_,e⟩
 |Oy ps=>exact⟨_,(show h.get? a=some _ from x)⟩
 |met f y=>exact⟨_,(show h.get? a=some _ from x)⟩
 |ext φ=>obtain⟨_,e,_⟩:=x;exact e
structure O2(h0:Heap)(H:Hp)(h:Heap)(a:Addr)(cls:Value):Prop where
 ob:∃oe vs a0,h.get? a=some oe/\oe.cls=cls/\oe.data=.fields vs/\vs[0]?=some a0/\
  (vs[1]?=some .none\/∃T oT ts,vs[1]?=some (.ref T)/\T≠a/\h0.get? T=none/\H T=none/\h.get? T=some oT/\oT.data=.fields ts/\ts[3]?=some .none)
 fr:H a=none
 nw:h0.get? a=none
def XS(X:Cx)(H:Hp)(cls e:Value)(s:Shared):Prop:=∃a U Z h0,e=.ref a/\Inv X U Z H s/\O2 h0 H s.heap a cls/\(∀b,h0.get? b=none->X.fq.heap.get? b=none)/\(∀p∈X.pn,∃o,h0.get? p.1=some o)/\∀b,s.heap.get? b=none->h0.get? b=none
def EX(X:Cx):XK:=fun cls _ H=>∀e s,XS X H cls e s->X.xe e s
def ud(P:Program)(w:World):Bl:=fun outer H s E e s'=>∃a cls H',e=.ref a/\s'.os=s.os/\AllBare s'.gens/\Un (je outer) [] H H' s.heap s'.heap/\qK P w H' s'.heap/\O2 s.heap H' s'.heap a cls/\E cls none H'
theorem O2.VM {h0 h1 h:Heap}{cls:Value}(u:O2 h1 H h a cls)(k:∀b,h1.get? b=none->h0.get? b=none):O2 h0 H h a cls:=by
 obtain⟨⟨oe,vs,a0,e1,e2,e3,e4,e5⟩,f,n⟩:=u;refine⟨⟨oe,vs,a0,e1,e2,e3,e4,?_⟩,f,k a n⟩;rcases e5 with e5|⟨T,oT,ts,q1,q2,q3,q4⟩
 ·exact .inl e5
 ·exact .inr ⟨T,oT,ts,q1,q2,k T q3,q4⟩
theorem Inv.BP (I:Inv X U Z H s)(hx:X.ex=[]){b:Addr}(n:s.heap.get? b=none):X.fq.heap.get? b=none:=by
 cases q:X.fq.heap.get? b with
 |none=>rfl
 |some o=>
  obtain⟨o',e⟩:=I.base.there b o q (by rw[hx];simp);rw[n]at e;cases e
theorem lU(hx:X.ex=[]):Passes (ud X.prog X.w) X (EX X):=by
 intro U Z H s e s' I z;obtain⟨a,cls,H',rfl,os,bare,un,cp,Fz,q⟩:=z;have ce:CE X.stack X.prog X.w H s (fun _ H2=>H2=H') .none s':=⟨.bO,H',os,bare,un,cp,rfl,rfl⟩;obtain⟨v,H2,I2,_,rfl⟩:=I.after ce;exact q (.ref a) s' ⟨a,U,Z,s.heap,rfl,I2,Fz,fun b n=>I.BP hx n,fun p hp=>⟨_,(I.pin p (jk _ hp)).1⟩,fun b n=>by
  cases z:s.heap.get? b with
  |none=>rfl
  |some o=>obtain⟨o',e⟩:=un.there b o z (by simp);rw[n]at e;cases e⟩
section
variable {base:Heap}{qual:Str}{scope:Scope}{outer:List Env}{E:XK}
theorem Jt{H':Hp}{cls e:Value}{s':Shared}(x:XS (nz (ud P w) P w K mg base ps qual scope ae aa A outer s H E) H' cls e s')(q:E cls none H'):(nz (ud P w) P w K mg base ps qual scope ae aa A outer s H E).xe e s':=by
 obtain⟨a,U,Z,h00,rfl,I,Z1,old,_,_⟩:=x;have Fz:=Z1.VM (h0:=s.heap) old;obtain⟨⟨oe,vs,a0,he,zG,hd,h0,h1⟩,fr,nw⟩:=Fz
 let env:=envOfC qual scope s.heap.objs.size ae aa
 have TX:(A.deeper env).frames=some (env::outer):=I.ok.frames;have hk:s'.heap.FunFrames base (env::outer):=I.stack;have TY:∀L∈je (env::outer),H' L=none/\∃o,s'.heap.get? L=some o/\∀ws,o.data≠ .fields ws:=fun L hL=>⟨I.vh L hL,(hk.mem hL).2⟩;have haf:a∉je (env::outer):=fun m=>by
  obtain⟨_,o,e1,e2⟩:=TY a m;rw[he]at e1;cases e1;exact e2 vs hd
 have fin:∀(hs:List Addr) (h':Heap),(∀b∈hs,H' b=none/\(b∈je (env::outer)\/s.heap.get? b=none))->(∀b∈je (env::outer),b∈hs)->a∈hs->(∀b∈hs,b∈je (env::outer)\/b=a\/H' b=none)->
   Heap.LeftW (PySem.W.hideAll s'.heap hs) (env::outer) a cls a0 s'.heap h'->ud P w outer H s E (.ref a) {s' with heap:=h'}:=by
  intro hs h' hh PB aa1 _ ⟨k1,k2,k3,k4⟩;have kp:∀b o,b∉hs->s'.heap.get? b=some o->h'.get? b=some o:=fun b o nb e=>k1 b o (lu _ e nb);have old:∀b o,s.heap.get? b=some o->b∉je outer->b∉hs:=fun b o e nf m=>by
   rcases(hh b m).2 with z|z
   ·unfold je at z;rw[nK]at z;have z':b∈s.heap.objs.size::je outer:=z;rcases aV.mp z' with z'|z'
    ·exact absurd (aO e) (by rw[z'];exact dH _)
    ·exact nf z'
   ·rw[e]at z;cases z
  have sl:∀b o,s'.heap.get? b=some o->b∈je outer->∃sl,h'.get? b=some {o with slots:=sl}:=fun b o e m=>by
   obtain⟨_,o2,e2,nf⟩:=TY b (by unfold je at m⊢;rw[nK];exact bF _ m);rw[e]at e2;cases e2;exact k4 b o e nf
  have pins:Un (je outer) [] H H' s.heap s'.heap:=I.base;refine⟨a,cls,H',rfl,I.os,I.bare,⟨fun b o e n nf nx=>?_,fun b o e n m nx=>?_,pins.free,fun b o e nx=>?_,pins.lL,pins.ki,pins.mC⟩,fun b o e=>?_,⟨?_,fr,nw⟩,q⟩
  ·exact kp b o (old b o e nf) (pins.keep b o e n nf nx)
  ·obtain⟨s1,e1⟩:=pins.slot b o e n m nx;obtain⟨s2,e2⟩:=sl b _ e1 m;exact⟨s2,e2⟩
  ·obtain⟨o1,e1⟩:=pins.there b o e nx;by_cases m:b∈je outer
   ·obtain⟨s2,e2⟩:=sl b o1 e1 m;exact⟨_,e2⟩
   ·exact⟨o1,kp b o1 (old b o e m) e1⟩
  ·refine(I.cp b o e).oq (fun c u hc z=>kp c u (fun m=>?_) z) (fun _ z=>z) fun _ _ z=>z;have n:=(hh c m).1;rcases hc with rfl|hc
   ·rw[n]at e;cases e
   ·rw[n]at hc;cases hc
  ·obtain⟨oe2,Z2,T,oT,ts,q1,⟨q2,q3⟩,q4,q5,q6,q7,q8,q9,Z3⟩:=k3;refine⟨oe2,Z2,a0,q1,q2,q4,q3,.inr ⟨T,oT,ts,q5,q7,?_,?_,q8,q9,Z3⟩⟩
   ·by_cases m:T∈hs
    ·rcases(hh T m).2 with z|z
     ·obtain⟨o3,e3,n3⟩:=(k2.mem z).2;rw[q8]at e3;cases e3;exact absurd q9 (n3 ts)
     ·exact z
    ·cases z:s.heap.get? T with
     |none=>rfl
     |some o=>
      obtain⟨o1,e1⟩:=pins.there T o z (by simp);rw[lu _ e1 m]at q6;cases q6
   ·by_cases m:T∈hs
    ·exact(hh T m).1
    ·cases z:H' T with
     |none=>rfl
     |some o=>
      obtain⟨u,e1⟩:∃u,s'.heap.get? T=some u:=(I.cp T o z).get;rw[lu _ e1 m]at q6;cases q6
 have kl:∀e∈(env::outer),∀b,e.frame=some b->b∈je (env::outer):=fun e he b hb=>ky.mpr ⟨e,he,hb⟩;show wpAny (model P w) (A.deeper env) (leaving env (.ref a)) (fun _ Qf=>ud P w outer H s E (.ref a) Qf) _ s';rcases h1 with h1|⟨T,oT,ts,h1,Z4,Z5,LR,hT,Yw,h3⟩
 ·let hs:=a::je (env::outer)
  refine wpAny_leaving_firstW (base:=PySem.W.hideAll s'.heap hs) TX (nH hk fun e he b hb=>bF _ (kl e he b hb)) rfl he (fun b o z=>lx _ z) (ko _ (bM ..)) hd h1 h0 fun h' hL=>?_
  rw[zG]at hL;refine fin hs h' (fun b m=>?_) (fun b m=>bF _ m) (bM ..) (fun b m=>?_) hL
  ·rcases aV.mp m with rfl|m
   ·exact⟨fr,.inr nw⟩
   ·exact⟨(TY b m).1,.inl m⟩
  ·rcases aV.mp m with rfl|m
   ·exact .inr (.inl rfl)
   ·exact .inl m
 ·let hs:=a::T::je (env::outer)
  refine wpAny_leaving_nextW (base:=PySem.W.hideAll s'.heap hs) (cls:=cls) (a0:=a0) TX (nH hk fun e he b hb=>bF _ (bF _ (kl e he b hb))) rfl
   ⟨oe,vs,T,oT,ts,he,⟨zG,h0⟩,hd,h1,ko _ (bF _ (bM ..)),Z4,hT,Yw,h3⟩ (fun b o z=>lx _ z) (ko _ (bM ..)) fun h' hL=>?_
  refine fin hs h' (fun b m=>?_) (fun b m=>bF _ (bF _ m)) (bM ..) (fun b m=>?_) hL
  ·rcases aV.mp m with rfl|m
   ·exact⟨fr,.inr nw⟩
   ·rcases aV.mp m with rfl|m
    ·exact⟨LR,.inr Z5⟩
    ·exact⟨(TY b m).1,.inl m⟩
  ·rcases aV.mp m with rfl|m
   ·exact .inr (.inl rfl)
   ·rcases aV.mp m with rfl|m
    ·exact .inr (.inr LR)
    ·exact .inl m
end
inductive Rz(α:Type) where
 |bad|ok (a:α) (A:Ab)|exc (c:Tr) (A:Ab)
variable {ag:bf->Ab->Rz (List Tr)}{ah:bf->Ab->Rz Tr}
def Rz.bind {α β:Type}(r:Rz α)(f:α->Ab->Rz β):Rz β:=match r with
 |.ok a A=>f a A
 |.exc c A=>.exc c A
 |.bad=>.bad
def gD(xc:Tr->Ab->Prop){α:Type}(r:Rz α)(k:α->Ab->Prop):Prop:=match r with
 |.ok a A=>k a A
 |.exc c A=>xc c A
 |.bad=>False
section
variable {α β:Type}{r:Rz α}{k k':α->Ab->Prop}{xc TQ:Tr->Ab->Prop}
theorem gD.mono (h:gD xc r k)(w:∀a A,k a A->k' a A):gD xc r k':=by
 cases r with
 |ok a A=>exact w a A h
 |_=>exact h
theorem gD.imp (h:gD xc r k)(w:∀c A,xc c A->TQ c A):gD TQ r k:=by
 cases r with
 |ok a A=>exact h
 |exc c A=>exact w c A h
 |bad=>exact h
theorem gD.bind {f:α->Ab->Rz β}{k:β->Ab->Prop}(h:gD xc (r.bind f) k):gD xc r fun a A=>gD xc (f a A) k:=by
 cases r with
 |_=>exact h
end
def fQ{α:Type}(r:Rs α)(A:Ab):Rz α:=match r with
 |.ok a=>.ok a A
 |_=>.bad
theorem oQ{X:Cx}{H:Hp}{α:Type}{xc:Tr->Ab->Prop}{r:Rs α}{A:Ab}{k:α->Ab->Prop}(q:gD xc (fQ r A) k):Fi X H r fun a=>k a A:=by
 cases r with
 |ok a=>exact q
 |exc c=>exact fe q
 |bad=>exact q
def VN(K:Frag):Tr->Value
 |.str x=>.ref (clsAt K x)
 |_=>.none
def XE(X:Cx)(B:d7)(H:Hp):Tr->Ab->Prop:=fun c A=>∀B' H',Grows B H B' H'->HA X.K B' A H'->EX X (VN X.K c) none H'
theorem XE.grow {B':d7}{H':Hp}{c:Tr}{A:Ab}(hb:HB B H)(h:XE X B H c A)(g:Grows B H B' H'):XE X B' H' c A:=fun B2 H2 g2 ha=>h B2 H2 (g.trans hb g2) ha
inductive tE(X:Cx)(F:bf->Ab->Rz Tr)(Z:St)(H:Hp)(Q:VK):Prop
 |mk (B:d7) (A:Ab) (Y:bf):HA X.K B A H->bV X.K B H Z Y->fw Y->(gD (XE X B H) (F Y A) fun t A'=>∀v B' H',Grows B H B' H'->HA X.K B' A' H'->Rep X.K (bz B' H') v t->Q v H')->tE X F Z H Q
inductive O3(X:Cx)(F:bf->Ab->Rz Bool)(Z:St)(H:Hp)(Q:Bool->Hp->Prop):Prop
 |mk (B:d7) (A:Ab) (Y:bf):HA X.K B A H->bV X.K B H Z Y->fw Y->(gD (XE X B H) (F Y A) fun b A'=>∀B' H',Grows B H B' H'->HA X.K B' A' H'->Q b H')->O3 X F Z H Q
inductive LS(X:Cx)(F:bf->Ab->Rz (List Tr))(Z:St)(H:Hp)(Q:List V->Hp->Prop):Prop
 |mk (B:d7) (A:Ab) (Y:bf):HA X.K B A H->bV X.K B H Z Y->fw Y->(gD (XE X B H) (F Y A) fun ts A'=>∀vs B' H',Grows B H B' H'->HA X.K B' A' H'->bc X.K (bz B' H') vs ts->Q vs H')->LS X F Z H Q
def Rp(H H':Hp)(p:Addr):Prop:=H p=none/\∀o u,H' p≠some (.kg o u)
theorem Rp.lst {H':Hp}{p:Addr}(h:H p=none)(r:Rep K (bz B H') (.ref p) (.lst ts)):Rp H H' p:=by
 cases r with
 |lst e _=>exact⟨h,fun o u z=>by rw[aZ _ _ e]at z;cases z⟩
theorem Rp.upd {H1:Hp}{p:Addr}{x:HO}(h:H p=none)(hx:∀o u,x≠ .kg o u):Rp H (L2.upd H1 p x) p:=⟨h,fun o u z=>by rw[a_]at z;cases z;exact hx _ _ rfl⟩
inductive tF(X:Cx)(F:bf->Rs Tr)(Z:St)(H:Hp)(Q:VK):Prop
 |mk (B:d7) (Y:bf):HB B H->bV X.K B H Z Y->(Fi X H (F Y) fun t=>∀v H',aE H H'->Rep X.K (bz B H') v t->(∀p,v=.ref p->Rp H H' p)->Q v H')->tF X F Z H Q
def q_(r:Rs Tr)(A:Ab):Rz Tr:=match r with
 |.ok t=>if Ia t=true then .ok t A else .bad
 |_=>.bad
def uZ(r:Rs Tr)(A:Ab):Rz Tr:=match r with
 |.ok (.lst ts)=>if mJ ts=true then .ok (.at A.length) (A++[.lst ts])else .bad
 |.ok (.bw aM)=>if mJ (aM.map (·.2))=true then .ok (.at A.length) (A++[.bw aM])else .bad
 |.ok (.uD aM)=>if mJ (aM.map (·.2))=true then .ok (.at A.length) (A++[.uD aM])else .bad
 |_=>.bad
section
variable {P:bf->Rs Bool}{GZ:bf->Ab->Rz Tr}
theorem BQ{Q:VK}(q:tE X (fun Y A=>fQ (F Y) A) Z H Q):tP X F Z H Q:=by
 obtain⟨B,A,Y,ha,r,_,q⟩:=q;exact⟨B,Y,ha.hb,r,(oQ q).mono fun t qt v H' s rv=>qt v B H' (.of s) (ha.same s) rv⟩
theorem Rq(h:PE X e (tP X F)):PE X e (tE X fun Y A=>fQ (F Y) A):=h.weak fun Z H Q q=>BQ q
theorem Rr(h:PE X e (tP X F)):PE X e (tE X fun Y A=>q_ (F (cQ A Y)) A):=
 h.weak fun Z H Q ⟨B,A,Y,ha,r,n,q⟩=>⟨B.un,cQ A Y,Fx ha.hb,r.Ro ha n,by
   have q:gD (XE X B H) (q_ (F (cQ A Y)) A) _:=q;cases e:F (cQ A Y)with
   |bad=>rw[e]at q;exact q
   |exc c=>rw[e]at q;exact fe q
   |ok t=>
    rw[e]at q;intro v H' s rv;by_cases f:Ia t=true
    ·have q':gD _ (if Ia t=true then Rz.ok t A else .bad) _:=q;rw[au f]at q';exact q' v B H' (.of s) (ha.same s) (yY (ha.same s) rv f)
    ·have q':gD _ (if Ia t=true then Rz.ok t A else .bad) _:=q;rw[ay f]at q';exact fe q'⟩
theorem Na(h:PT X e (tQ X P)):PT X e (O3 X fun Y A=>fQ (P (cQ A Y)) A):=
 h.weak fun Z H Q ⟨B,A,Y,ha,r,n,q⟩=>⟨B.un,cQ A Y,Fx ha.hb,r.Ro ha n,(oQ q).mono fun t qt H' s=>qt B H' (.of s) (ha.same s)⟩
theorem gz{c:Prop}[Decidable c]{α:Type}{xc:Tr->Ab->Prop}{r:Rz α}{k:α->Ab->Prop}(h:gD xc (if c then r else .bad) k):c/\gD xc r k:=by
 by_cases q:c
 ·rw[au q]at h;exact⟨q,h⟩
 ·rw[ay q]at h;exact fe h
theorem qS{Q:VK}(q:tE X (fun Y A=>uZ (F (cQ A Y)) A) Z H Q):tF X F Z H Q:=by
  obtain⟨B,A,Y,ha,r,n,q⟩:=q;refine⟨B.un,cQ A Y,Fx ha.hb,r.Ro ha n,?_⟩;have q:gD (XE X B H) (uZ (F (cQ A Y)) A) _:=q;cases e:F (cQ A Y)with
  |bad=>rw[e]at q;exact q
  |exc c=>rw[e]at q;exact fe q
  |ok t=>
   rw[e]at q;intro v H' s rv fr;have kO:=ha.same s;cases rv with
   |@lst p vs ts h rr=>
    have hp:=(fr p rfl).1;obtain⟨f,q'⟩:=gz q;have h1:H' p=some (.lst vs):=aZ _ _ h;obtain⟨g,h2⟩:=ha.push (o:=.lst ts) hp s ⟨pJ,vs,h1,sP ((lT.un kO).trans (.new (ha.free hp) h1 (fun _ z=>by cases z) fun _ _ z=>by cases z)) rr f⟩;exact q' _ _ H' g h2 (.at gK)
   |@bw p kvs aM h ek rr=>
    have hp:=(fr p rfl).1;obtain⟨f,q'⟩:=gz q;have h1:H' p=some (.dK kvs):=by
     rcases h.same aZ with h|⟨o,h⟩
     ·exact h
     ·exact((fr p rfl).2 _ _ h).elim
    obtain⟨g,h2⟩:=ha.push (o:=.bw aM) hp s ⟨pJ,kvs,h1,ek,sP ((lT.un kO).trans (.new (ha.free hp) h1 (fun _ z=>by cases z) fun _ _ z=>by cases z)) rr f⟩;exact q' _ _ H' g h2 (.at gK)
   |@uD p kvs aM h ek rr=>
    have hp:=(fr p rfl).1;obtain⟨f,q'⟩:=gz q;have h1:H' p=some (.dT kvs):=aZ _ _ h;obtain⟨g,h2⟩:=ha.push (o:=.uD aM) hp s ⟨pJ,kvs,h1,ek,sP ((lT.un kO).trans (.new (ha.free hp) h1 (fun _ z=>by cases z) fun _ _ z=>by cases z)) rr f⟩;exact q' _ _ H' g h2 (.at gK)
   |_=>exact fe q
theorem VO(h:PE X e (tF X F)):PE X e (tE X fun Y A=>uZ (F (cQ A Y)) A):=h.weak fun Z H Q q=>qS q
end
def yZ(X:Cx)(D:Ends)(B0:d7)(H0:Hp):Out->Ab->Prop
 |.nx Y,A=>∀cK B' H',Grows B0 H0 B' H'->HA X.K B' A H'->bV X.K B' H' cK Y->fw Y->D.nx cK H'
 |.ret t,A=>∀v B' H',Grows B0 H0 B' H'->HA X.K B' A H'->Rep X.K (bz B' H') v t->D.rt v H'
 |.bk Y,A=>∀cK B' H',Grows B0 H0 B' H'->HA X.K B' A H'->bV X.K B' H' cK Y->fw Y->D.bk cK H'
 |.ct Y,A=>∀cK B' H',Grows B0 H0 B' H'->HA X.K B' A H'->bV X.K B' H' cK Y->fw Y->D.ct cK H'
inductive tZ(X:Cx)(G:bf->Ab->Rz Out)(D:Ends)(Z:St)(H:Hp):Prop
 |mk (B0:d7) (H0:Hp) (B:d7) (A:Ab) (Y:bf):HB B0 H0->Grows B0 H0 B H->HA X.K B A H->bV X.K B H Z Y->fw Y->gD (XE X B0 H0) (G Y A) (yZ X D B0 H0)->tZ X G D Z H
section
variable {a b c:Expr}{F:bf->Ab->Rz Tr}{G G':bf->Ab->Rz Out}{P:bf->Ab->Rz Bool}{st:Stmt}{Vn:List Stmt}
def DT(r:Rz Out)(G:bf->Ab->Rz Out):Rz Out:=r.bind fun o A=>match o with
 |.nx Y=>G Y A
 |.ret t=>.ok (.ret t) A
 |.bk Y=>.ok (.bk Y) A
 |.ct Y=>.ok (.ct Y) A
theorem VP:nC X [] (tZ X fun Y A=>.ok (.nx Y) A):=EN.weak fun D Z H ⟨B0,H0,B,A,Y,hb,g,ha,r,n,q⟩=>q Z B H g ha r n
theorem Rt(h1:PS X st (tZ X G))(h2:nC X ac (tZ X G')):nC X (st::ac) (tZ X fun Y A=>DT (G Y A) G'):=
 (Bj h1 h2).weak fun D Z H ⟨B0,H0,B,A,Y,hb,g,ha,r,n,q⟩=>⟨B0,H0,B,A,Y,hb,g,ha,r,n,q.bind.mono fun o A1 qo=>by
  cases o with
  |nx g6=>exact fun cK B' H' g' kO r' n'=>⟨B0,H0,B',A1,g6,hb,g',kO,r',n',qo⟩
  |ret t=>exact qo
  |bk g6=>exact qo
  |ct g6=>exact qo⟩
theorem VQ(h1:PS X st (tZ X G)):nC X [st] (tZ X G):=EO h1
theorem VR:PE X e (tE X fun _ _=>.bad):=fun _ _ _ _ _ _ ⟨_,_,_,_,_,_,q⟩=>(show False from q).elim
theorem oR{B0:d7}{H0:Hp}{A:Ab}{Y:bf}{k:Tr->Ab->Prop}(hb:HB B0 H0)(g:Grows B0 H0 B H)(ha:HA X.K B A H)(r:bV X.K B H Z Y)(n:fw Y)(q:gD (XE X B0 H0) (F Y A) k){Q:VK}
  (hq:∀t A' v B' H',k t A'->Grows B0 H0 B' H'->HA X.K B' A' H'->bV X.K B' H' Z Y->Rep X.K (bz B' H') v t->Grows B H B' H'->Q v H'):tE X F Z H Q:=
 ⟨B,A,Y,ha,r,n,(q.imp fun c A' x=>x.grow hb g).mono fun t A' qp v B' H' g' kO rv=>hq t A' v B' H' qp (g.trans hb g') kO (r.grow n g') rv g'⟩
theorem Ru{B0:d7}{H0:Hp}{A:Ab}{Y:bf}{k:Bool->Ab->Prop}(hb:HB B0 H0)(g:Grows B0 H0 B H)(ha:HA X.K B A H)(r:bV X.K B H Z Y)(n:fw Y)(q:gD (XE X B0 H0) (P Y A) k){Q:Bool->Hp->Prop}
  (hq:∀t A' B' H',k t A'->Grows B0 H0 B' H'->HA X.K B' A' H'->bV X.K B' H' Z Y->Q t H'):O3 X P Z H Q:=
 ⟨B,A,Y,ha,r,n,(q.imp fun c A' x=>x.grow hb g).mono fun t A' qp B' H' g' kO=>hq t A' B' H' qp (g.trans hb g') kO (r.grow n g')⟩
def zZ(i:Nat)(r:Rz Tr)(Y:bf):Rz Out:=r.bind fun t A=>.ok (.nx (Y.set i (.sh t))) A
theorem VS(he:PE X e (tE X F))(hN:X.N.Nodup:=by assumption) (hi:X.N[i]?=some x:=by rfl) (hx:Loc X.env.scope x:=by first|exact Or.inl rfl|exact Or.inr rfl) (hs:qP e=false:=by rfl) (hf:ye X x:=by first|exact .inl rfl|exact .inr rfl|assumption):
  PS X (.Assign [.Name x p] e pos) (tZ X fun Y A=>zZ i (F Y A) Y):=
 (Iy hN hi hx he (wJ hs) hf).weak fun D Z H ⟨B0,H0,B,A,Y,hb,g,ha,r,n,q⟩=>oR hb g ha r n q.bind fun t A' v B' H' qt g' kO r' rv _=>qt _ B' H' g' kO (r'.set i rv) (n.set i t)
def Ju(r:Rz Tr):Rz Out:=r.bind fun t A=>.ok (.ret t) A
theorem VT(he:PE X e (tE X F)):PS X (.Return (some e) pos) (tZ X fun Y A=>Ju (F Y A)):=
 (Ir he).weak fun D Z H ⟨B0,H0,B,A,Y,hb,g,ha,r,n,q⟩=>oR hb g ha r n q.bind fun t A' v B' H' qt g' kO r' rv _=>qt v B' H' g' kO rv
theorem Rv:PS X (.Return none pos) (tZ X fun _ A=>.ok (.ret .bO) A):=
 L'.weak fun D Z H ⟨B0,H0,B,A,Y,hb,g,ha,r,n,q⟩=>q .bO B H g ha .bO
def qe(r:Rz Tr)(Y:bf):Rz Out:=r.bind fun _ A=>.ok (.nx Y) A
theorem Rw(he:PE X e (tE X F))(hs:qP e=false:=by rfl):PS X (.Expr e pos) (tZ X fun Y A=>qe (F Y A) Y):=
 (L_ he (wJ hs)).weak fun D Z H ⟨B0,H0,B,A,Y,hb,g,ha,r,n,q⟩=>oR hb g ha r n q.bind fun t A' v B' H' qt g' kO r' rv _=>qt _ B' H' g' kO r' n
def Yx(c:Rz Bool)(a b:Ab->Rz Out):Rz Out:=c.bind fun k A=>if k then a A else b A
theorem Z6{ns:List Stmt}(hc:PT X c (O3 X P))(h1:nC X ac (tZ X G))(h2:nC X ns (tZ X G')):PS X (.If c ac ns pos) (tZ X fun Y A=>Yx (P Y A) (G Y) (G' Y)):=
 (OD hc h1 h2).weak fun D Z H ⟨B0,H0,B,A,Y,hb,g,ha,r,n,q⟩=>Ru hb g ha r n q.bind fun k A' B' H' qk g' kO r'=>by
  cases k with
  |true=>exact QC ⟨B0,H0,B',A',Y,hb,g',kO,r',n,qk⟩
  |false=>exact Qz ⟨B0,H0,B',A',Y,hb,g',kO,r',n,qk⟩
def Jv(T:nD)(r:Rz Tr)(Y:bf):Rz Out:=r.bind fun t A=>(fQ (T t Y) A).bind fun g6 A=>.ok (.nx g6) A
theorem O4{T:nD}{B0:d7}{H0:Hp}{A:Ab}{Y:bf}{v:V}{t:Tr}{k:bf->Ab->Prop}(hT:js T)(hb:HB B0 H0)(g:Grows B0 H0 B H)(ha:HA X.K B A H)(r:bV X.K B H Z Y)(n:fw Y)(rv:Rep X.K (bz B H) v t){xc:Tr->Ab->Prop}(q:gD xc (fQ (T t Y) A) k){Q:St->Hp->Prop}
  (hq:∀g6 cK H',k g6 A->Grows B0 H0 B H'->HA X.K B A H'->bV X.K B H' cK g6->fw g6->aE H H'->Q cK H'):tG X T v Z H Q:=by
 refine⟨B,Y,t,ha.hb,r,rv,?_⟩;cases e:T t Y with
 |ok g6=>rw[e]at q;exact fun cK H' s r'=>hq g6 cK H' q (g.trans hb (.of s)) (ha.same s) r' (hT t Y g6 n e) s
 |exc c=>rw[e]at q;exact fe q
 |bad=>rw[e]at q;exact q
theorem VU{T:nD}(hg:PG X tg (tG X T))(hT:js T)(he:PE X e (tE X F))(hs:swapsWithSole [tg] e pos.line X.env=pure false:=by rfl) (hw:swappedStores [tg] e X.env=pure none:=by rfl)
  (h1:(assignEach [tg] X.env).map (·.2)=[assign tg X.env]:=by rfl):PS X (.Assign [tg] e pos) (tZ X fun Y A=>Jv T (F Y A) Y):=
 (Iw he hg hs hw h1).weak fun D Z H ⟨B0,H0,B,A,Y,hb,g,ha,r,n,q⟩=>oR hb g ha r n q.bind fun t A' v B' H' qt g' kO r' rv _=>
  O4 hT hb g' kO r' n rv (gD.bind qt) fun iZ yj H2 q2 g2 oS r2 n2 _=>q2 yj B' H2 g2 oS r2 n2
def ue(T:nD)(G:bf->Ab->Rz Out):List Tr->bf->Ab->Rz Out
 |[],Y,A=>.ok (.nx Y) A
 |t::ts,Y,A=>(fQ (T t Y) A).bind fun qZ A=>(G qZ A).bind fun o A=>match o with
  |.nx iZ=>ue T G ts iZ A
  |.ct iZ=>ue T G ts iZ A
  |.bk iZ=>.ok (.nx iZ) A
  |.ret t=>.ok (.ret t) A
def Jw(T:nD)(G:bf->Ab->Rz Out)(l:Rz (List Tr))(Y:bf):Rz Out:=l.bind fun ts A=>ue T G ts Y A
theorem VW{c0:Expr}{T:nD}(hi:PI X tg c0 (tI X L))(hg:PG X tg (tG X T))(hT:js T)(hb:nC X ac (tZ X G))(hp:PassesOwn (model X.prog X.w) X.A X.env X.xe:=by first|exact rS|exact PassesOwn.leaving) (hc:X.calm=true:=by rfl)
  (hs:isSet c0=false:=by rfl):PS X (.For tg c0 ac [] pos) (tZ X fun Y A=>Jw T G (fQ (L Y) A) Y):=
 (IA hp hc hi hg hb (gx hs)).weak fun D Z H ⟨B0,H0,B,A,Y,Ib,g,ha,r,n,q⟩=>⟨B,Y,ha.hb,r,(oQ (gD.bind q)).mono fun ts qt J H1 s1 gt=>by
  have g1:Grows B0 H0 B H1:=g.trans Ib (.of s1);have DU:HB B H1:=ha.hb.same s1;refine⟨fun i m cK H'=>m=ts.length - i/\i<=ts.length/\∃B' A' g6,Grows B H1 B' H'/\HA X.K B' A' H'/\bV X.K B' H' cK g6/\fw g6/\gD (XE X B0 H0) (ue T G (ts.drop i) g6 A') (yZ X D B0 H0),⟨_,rfl,dF _,B,A,Y,.refl,ha.same s1,r.same s1,n,qt⟩,?_⟩
  rintro i m cK H' ⟨rfl,hi,B',A',g6,g',kO,r',n',q'⟩
  by_cases gn:i<ts.length
  ·rw[ra gn]at q';refine .inr ⟨gt.go i B' H' gn g'.jH kO.hb,fun yj H2=>∃B2 A2 iZ,Grows B H1 B2 H2/\HA X.K B2 A2 H2/\bV X.K B2 H2 yj iZ/\fw iZ/\gD (XE X B0 H0) (ue T G (ts.drop (i+1)) iZ A2) (yZ X D B0 H0),
    fun yj H2 x=>⟨ts.length - (i+1),by omega,rfl,gn,x⟩,fun x H2 hx=>?_⟩
   obtain⟨s2,t,et,rt⟩:=gt.Gu i B' H' x H2 gn g'.jH kO.hb hx;have Vy:ts[i]=t:=by rw[bq gn]at et;exact Option.some.inj et
   rw[Vy]at q';have g2:Grows B H1 B' H2:=g'.trans DU (.of s2);refine O4 hT DU g2 (kO.same s2) (r'.same s2) n' rt (gD.bind q') fun qZ OF H3 q1 g3 Ic r3 n3 _=>?_
   refine⟨B,H1,B',A',qZ,DU,g3,Ic,r3,n3,((gD.bind q1).imp fun c A'' x=>x.grow Ib g1).mono fun o A4 qo=>?_⟩;cases o with
   |nx iZ=>exact fun Rx B4 H4 g4 Ry r4 n4=>⟨B4,A4,iZ,g4,Ry,r4,n4,qo⟩
   |ct iZ=>exact fun Rx B4 H4 g4 Ry r4 n4=>⟨B4,A4,iZ,g4,Ry,r4,n4,qo⟩
   |bk iZ=>exact fun Rx B4 H4 g4 Ry r4 n4=>qo Rx B4 H4 (g1.trans Ib g4) Ry r4 n4
   |ret t=>exact fun v B4 H4 g4 Ry r4=>qo v B4 H4 (g1.trans Ib g4) Ry r4
  ·have e:i=ts.length:=by omega
   subst e;rw[rK]at q';exact .inl ⟨gt.stop B' H' g'.jH,q' cK B' H' (g1.trans Ib g') kO r' n'⟩⟩
end
section
variable {a:Expr}{name:Str}{id:String}
def FA(r:Rz Tr)(l:Ab->Rz (List Tr)):Rz (List Tr):=r.bind fun x A=>(l A).bind fun xs A=>.ok (x::xs) A
theorem Jx:PA X [] (LS X fun _ A=>.ok [] A):=qM.weak fun Z H Q ⟨B,A,Y,ha,r,n,q⟩=>q [] B H .refl ha .nil
theorem FC(h1:PE X a (tE X ah))(hr:PA X af (LS X ag))(hs:isStar a=false:=by rfl):PA X (a::af) (LS X fun Y A=>FA (ah Y A) (ag Y)):=
 (kC h1 hr (aY _ _ hs)).weak fun Z H Q ⟨B,A,Y,ha,r,n,q⟩=>⟨B,A,Y,ha,r,n,q.bind.mono fun x A1 qx v B1 H1 g1 mj r1=>⟨B1,A1,Y,mj,r.grow n g1,n,((gD.bind qx).imp fun c A' x=>x.grow ha.hb g1).mono fun xs A2 qs vs B2 H2 g2 oS r2=>qs _ B2 H2 (g1.trans ha.hb g2) oS (.cons (r1.same g2.jH) r2)⟩⟩
def Z7(X:Cx)(r:V->List V->Hp->VK->Prop)(h:Nat->List Tr->Ab->Rz Tr):Prop:=
 ∀(B:d7) (A:Ab) (H:Hp) (a:Addr) (i:Nat) (xs:List V) (ts:List Tr) (Q:VK),HA X.K B A H->B.ix a=some i->bc X.K (bz B H) xs ts->
  gD (XE X B H) (h i ts A) (fun t A'=>∀v B' H',Grows B H B' H'->HA X.K B' A' H'->Rep X.K (bz B' H') v t->Q v H')->r (.ref a) xs H Q
def VX(A:Ab)(i:Nat):Bool:=match A[i]? with
 |some (.lst _)=>true
 |_=>false
theorem RB{A:Ab}(ha:HA K B A H)(e:B.ix ae=some i)(h:VX A i=true):∃xs,H ae=some (.lst xs):=by
 obtain⟨o,eo,ao⟩:=ha.ex e;unfold VX at h;rw[eo]at h;cases o with
 |lst ts=>obtain⟨_,vs,h1,_⟩:=ao;exact⟨vs,h1⟩
 |_=>cases h
def Z8(h:Nat->List Tr->Ab->Rz Tr)(r:Rz Tr)(l:Ab->Rz (List Tr)):Rz Tr:=r.bind fun t A=>match t with
 |.at i=>if VX A i=true then(l A).bind fun ts A=>h i ts A else .bad
 |_=>.bad
variable {r:V->List V->Hp->VK->Prop}{h:Nat->List Tr->Ab->Rz Tr}
theorem VY(slot:Slot "list" name id)(Mq:typeOf (.builtin id)=pure (.type "method_descriptor"))(hm:Zn X id r)(hz:Z7 X r h)(ho:PE X o (tE X ah))(ha:PA X (e::af) (LS X ag))(pa:PlainAttrs "list":=by exact rh)
  (oB:isCall o=false:=by rfl) (bQ:aP (e::af)=true:=by rfl) (hn:(e::af).length<30:=by decide) (e_:(b8.endLine==p.line)=true:=by rfl):
  PE X (.Call (.Attribute o name b8) (e::af) [] p) (tE X fun Y A=>Z8 h (ah Y A) (ag Y)):=
 (EW pa slot Mq hm ho ha (fu oB) (by rw[iN bQ,iz (show(e::af).length+([]:List Keyword).length+(if([]:List Keyword).isEmpty then 0 else 1)<30 from hn)];rfl) e_ (aY _ _ (aG bQ).1) (cg (aG bQ).2)).weak fun Z H Q ⟨B,A,Y,ha,r,n,q⟩=>⟨B,A,Y,ha,r,n,q.bind.mono fun t A1 qt v B1 H1 g1 mj rv=>by
  split at qt
  ·rename_i i;obtain⟨a,rfl,p8⟩:=rv.mF;obtain⟨hl,q2⟩:=gz qt;obtain⟨xs,Z9⟩:=RB mj p8 hl;exact⟨.inl ⟨rfl,xs,kB.of Z9⟩,B1,A1,Y,mj,r.grow n g1,n,((gD.bind q2).imp fun c A' x=>x.grow ha.hb g1).mono fun ts A2 qs vs B2 H2 g2 oS rs=>hz B2 A2 H2 a i vs ts Q oS (g2.jH.x _ _ p8) rs ((qs.imp fun c A' x=>x.grow ha.hb (g1.trans ha.hb g2)).mono fun t A3 qt v B3 H3 g3 Ic r3=>qt v B3 H3 ((g1.trans ha.hb g2).trans ha.hb g3) Ic r3)⟩
  ·exact qt.elim⟩
def RC(i:Nat):List Tr->Ab->Rz Tr
 |[t],A=>match A[i]? with
  |some (.lst ts)=>if ts.length<ee then .ok .bO (A.set i (.lst (ts++[t])))else .bad
  |_=>.bad
 |_,_=>.bad
theorem uf:Z7 X EY RC:=by
 intro B A H a i xs ts Q ha p8 rs q;unfold RC at q;split at q
 ·obtain⟨y,rfl,r1⟩:=fb rs;split at q
  ·rename_i eo;obtain⟨hz,q⟩:=gz q;obtain⟨hd,vs,h1,h2⟩:=ha.get p8 eo;obtain⟨g,h3⟩:=ha.write (o:=.lst (_++[_])) (u:=.lst (vs++[y])) p8 ⟨hd,_,a_,by rw[iD hd];exact h2.append (.cons r1 .nil)⟩;exact⟨a,vs,y,rfl,rfl,h1,by rw[h2.length,<-i8];exact hz,q .bO B _ g h3 .bO⟩
  ·exact q.elim
 ·exact q.elim
end
def wZ(r:Rz Out):Rs Tr:=match r with
 |.ok (.nx _) _=>.ok .bO
 |.ok (.ret t) A=>if uY (aw 3 A t)=true then .ok (aw 3 A t)else .bad
 |_=>.bad
theorem w4{n:Nat}:fw (startT n ts):=fun i us e=>by
 rcases pH e with q|⟨u,_,q⟩<;>cases q
theorem yf.okZ {base:Heap}{qual:Str}{st:Stmt}{f:Addr}{fd:FuncData}{N:List Str}{k:Nat}(Fn:yf K x qual st f fd)(S:gc N ps (aW st))(len:∀ts t,h ts=.ok t->ts.length=ps.length)
  (jV:∀(eY:Value) (A:Around) (outer:List Env) (s:Shared) (H:Hp) (E:XK),cz k (A.deeper (envOfC qual (aW st) s.heap.objs.size f eY))->
   ∃G,nC (nz lq P w K mg base N qual (aW st) f eY A outer s H E).HZ (eW st) (tZ (nz lq P w K mg base N qual (aW st) f eY A outer s H E).HZ G)/\∀ts t,h ts=.ok t->iO ts=true/\wZ (G (startT N.length ts) [])=.ok t):dw P w K mg base lq (k+1) f fd ps (spT K h):=by
 refine Fn.ok S (fun vs H Q E q=>?_) (fun eY A outer s H vs Q E hr q=>?_)
 ·obtain⟨B,ts,hb,r,t,e,_⟩:=q;rw[r.length];exact len ts t e
 ·obtain⟨B,ts,hb,r,t,e,q⟩:=q;obtain⟨G,hG,hE⟩:=jV eY A outer s H E hr;obtain⟨na,e1⟩:=hE ts t e
  let B0:d7:=⟨B.hd,fun _=>none⟩
  have Ib:HB B0 H:=hb;have ha0:HA K B0 [] H:=⟨Ib,fun i o z=>by simp at z,(fun a b i z=>by cases(show(none:Option Nat)=some i from z)),(fun a i z=>by cases(show(none:Option Nat)=some i from z))⟩;have r0:bc K (bz B0 H) vs ts:=bc.Js (W:=bz B H) (W':=bz B0 H) (fun _ _ e=>e) r na;have sm:∀{B':d7} {H':Hp},Grows B0 H B' H'->aE H H':=fun g b o z=>g.kp b o rfl z;refine⟨_,hG,B0,H,B0,[],startT N.length ts,Ib,.refl,ha0,bV.start r0,w4,?_⟩;cases eo:G (startT N.length ts) []with
  |ok o A1=>
   rw[eo]at e1;cases o with
   |nx Y=>cases e1;exact fun cK B' H' g ha r' n'=>q .bO H' (sm g) .bO
   |ret u=>
    have e2:(if uY (aw 3 A1 u)=true then Rs.ok (aw 3 A1 u)else .bad)=.ok t:=e1;by_cases z:uY (aw 3 A1 u)=true
    ·rw[au z]at e2;cases e2;intro v B' H' g ha r';refine q v H' (sm g) (Rep.Js (fun b o z=>?_) (iP ha 3 r') z);have z1:=aZ b o z;cases hB:B.hd b with
     |false=>rw[fK hB];exact z1
     |true=>
      have h2:B'.hd b=true:=g.hd b rfl hB;have h3:B'.ix b=none:=by
       cases h4:B'.ix b with
       |none=>rfl
       |some i=>have h5:=g.nw b i h4 rfl;obtain⟨o2,h6⟩:=hb b hB;rw[h5]at h6;cases h6
      have z2:(if B'.un.hd b=true then none else H' b)=some o:=z;rw[show B'.un.hd b=(B'.hd b&&(B'.ix b).isNone)from rfl,h2,h3]at z2;cases z2
    ·rw[ay z]at e2;cases e2
   |_=>cases e1
  |_=>rw[eo]at e1;cases e1
def BR(n m:Nat)(G:bf->Ab->Rz Out)(ts:List Tr):Rs Tr:=if ts.length=n/\iO ts=true then wZ (G (startT m ts) [])else .bad
theorem Jy{n:Nat}{G:bf->Ab->Rz Out}{t:Tr}(h:BR n i G ts=.ok t):ts.length=n:=by
 unfold BR at h;split at h
 ·rename_i z;exact z.1
 ·cases h
theorem Nb{m:Nat}{G:bf->Ab->Rz Out}{t:Tr}(h:BR i m G ts=.ok t):iO ts=true/\wZ (G (startT m ts) [])=.ok t:=by
 unfold BR at h;split at h
 ·rename_i z;exact⟨z.2,h⟩
 ·cases h
section
variable {b:Expr}{A:bf->Rs Bool}
theorem VZ(h:PA X af (BA X L)):PE X (.List af pos) (tF X fun Y=>BC (L Y)):=
 (IJ h).weak fun Z H Q ⟨B,Y,hb,r,q⟩=>⟨B,Y,hb,r,q.bind.mono fun ts qt vs H1 s1 r1=>by
  by_cases hz:ts.length<=ee
  ·rw[au hz]at qt;refine⟨by rw[r1.length,<-i8];exact hz,fun p hp=>qt (.ref p) _ (s1.Bx (s1.free hp)) (.lst ((hb.same s1).new hp) (r1.same (aX (aE.upd hp)))) fun p' e=>by cases e;exact .upd (s1.free hp) (fun _ _ z=>by cases z)⟩
  ·rw[ay hz]at qt;exact qt.elim⟩
theorem RD:PE X (.Dict [] [] pos) (tF X fun _=>.ok (.bw [])):=
 IU.weak fun Z H Q ⟨B,Y,hb,r,q⟩ p hp=>q (.ref p) _ (aE.upd hp) (.bw (.inl (hb.new hp)) rfl .nil) fun p' e=>by cases e;exact .upd hp (fun _ _ z=>by cases z)
variable {scope:Scope}{N':List Str}{ix:List (Option Nat)}{elt c0:Expr}{ifs:List Expr}{T:nD}{W:bf->Rs (List Tr)}
theorem y0{Q:VK}(hT:js T)(q:tF X (fun Y=>uF ix T A F (W Y) Y) Z H Q):TN (tI X W) ix (OS X.K T) (OR X.K A) (OQ X.K F) Z H Q:=by
 obtain⟨B,Y,hb,r,q⟩:=q;refine⟨B,Y,hb,r,q.bind.mono fun ts qt J H1 s1 gt D hD=>?_⟩;by_cases hz:ts.length<=ee
 ·rw[au hz]at qt;exact vk hT (vj ix Y) (hb.same s1) gt hz ((r.same s1).comp ix (jW hD)) hD (Fi.bind qt) fun ys H' k s' rp=>k _ H' (s1.trans s') rp fun p e=>by cases e;exact .lst (s1.free hD) rp
 ·rw[ay hz]at qt;exact qt.elim
theorem Z_(Lk:fP X N' ix scope)(hi:PI X tg c0 (tI X W))(kl:MM X scope N' tg elt ifs T A F)(hT:js T)(hc:X.calm=true:=by rfl) (hs:isSet c0=false:=by rfl):
  PE X (.ListComp elt [⟨tg,c0,ifs,0⟩] scope pos) (tF X fun Y=>uF ix T A F (W Y) Y):=
 (Ja Lk hc hi kl.TV (gx hs)).weak fun Z H Q q=>y0 hT q
theorem Nc(Lk:fP X N' ix scope)(hit:PI X tg c0 (tI X W))(kl:MM X scope N' tg elt ifs T A F)(hT:js T)(hN:X.N.Nodup:=by assumption) (hc:X.calm=true:=by rfl) (hi:X.N[i]?=some x:=by rfl) (hx:Loc X.env.scope x:=by first|exact Or.inl rfl|exact Or.inr rfl)
  (GH:swapsWith (.ListComp elt [⟨tg,c0,ifs,0⟩] scope pos) (some (.Name x p)) b8.line X.env=pure true:=by rfl) (hs:isSet c0=false:=by rfl) (hf:ye X x:=by first|exact .inl rfl|exact .inr rfl|assumption):
  PS X (.Assign [.Name x p] (.ListComp elt [⟨tg,c0,ifs,0⟩] scope pos) b8) (tZ X fun Y A'=>zZ i (uZ (uF ix T A F (W (cQ A' Y)) (cQ A' Y)) A') Y):=
 (wG Lk hc hN hi hx hit kl.TV GH (gx hs) hf).weak fun D Z H ⟨B0,H0,B,A',Y,hb,g,ha,r,n,q⟩=>y0 hT (qS (F:=fun Y=>uF ix T A F (W Y) Y) (oR (F:=fun Y A'=>uZ (uF ix T A F (W (cQ A' Y)) (cQ A' Y)) A') hb g ha r n q.bind fun t A2 v B' H' qt g' kO r' rv _=>qt _ B' H' g' kO (r'.set i rv) (n.set i t)))
inductive rF(X:Cx)(h:List Tr->Rs Tr)(xs:List V)(H:Hp)(Q:VK):Prop
 |mk (B:d7) (ts:List Tr):HB B H->bc X.K (bz B H) xs ts->(Fi X H (h ts) fun t=>∀v H',aE H H'->Rep X.K (bz B H') v t->(∀p,v=.ref p->Rp H H' p)->Q v H')->rF X h xs H Q
theorem Jz{T:String}(hc:fG X (.type T) (rF X h))(hm:X.mg x=none)(ha:PA X (e::af) (BA X L))(hv:bootBuiltins x=some (.type T):=by rfl) (hg:Gl X x:=by rfl) (hn:x≠"__name__":=by decide) (eM:Db x:=by decide)
  (bQ:aP (e::af)=true:=by rfl):PE X (.Call (.Name x p) (e::af) [] pos) (tF X fun Y=>cP h (L Y)):=
 (t_ hc hg hm hv ha hn eM (aY _ _ (aG bQ).1) (cg (aG bQ).2)).weak fun Z H Q ⟨B,Y,hb,r,q⟩=>⟨B,Y,hb,r,q.bind.mono fun ts qt vs H1 s1 r1=>⟨B,ts,hb.same s1,r1,(qt.same s1).mono fun t qt v H2 s2 r2 fr=>qt v H2 (s1.trans s2) r2 fun p e=>⟨s1.free (fr p e).1,(fr p e).2⟩⟩⟩
theorem Nd:fG X (.type "list") (rF X OT):=by
 intro U s Z H xs us Q I rv ⟨B,ts,hb,r,q⟩;unfold OT at q;split at q
 ·obtain⟨x,e,r1⟩:=fb r;obtain⟨o,vs,rfl,h,rr⟩:=r1.dr;exact sx U s Z H _ us Q I rv ⟨_,_,e,.inr h.up,fun p hp=>q _ _ (aE.upd hp) (.zU hb hp rr) fun p' e=>by cases e;exact .upd hp (fun _ _ z=>by cases z)⟩
 ·obtain⟨x,e,r1⟩:=fb r;obtain⟨o,vs,rfl,h,rr⟩:=r1.lst_inv;exact sx U s Z H _ us Q I rv ⟨_,_,e,.inl (.of (dt h)),fun p hp=>q _ _ (aE.upd hp) (.zU hb hp rr) fun p' e=>by cases e;exact .upd hp (fun _ _ z=>by cases z)⟩
 ·exact q.elim
end
section
variable {H1 H':Hp}{o:Obj}{kvs:List (Key×V)}
theorem Inv.frozen (I:Inv X U Z H s)(ha:H a=some (.dK kvs))(ho:s.heap.get? a=some o):Inv X U Z (upd H a (.kg o (.dK kvs))) s:=by
 have ne:∀{b:Addr} {u:HO},H b=some u->u≠ .dK kvs->b≠a:=fun{b u} e d z=>by subst z;rw[ha]at e;cases e;exact d rfl
 have nn:∀{b:Addr},H b=none->b≠a:=fun{b} e z=>by subst z;rw[ha]at e;cases e
 refine⟨I.ok,I.os,I.bare,⟨I.base.keep,I.base.slot,fun b ob e n hx=>?_,I.base.there,fun b xs e=>?_,fun b ob u e=>?_,fun b ps e=>?_⟩,I.loc,I.cell,?_,fun x c e=>?_,fun p hp=>?_,fun b u e=>?_,I.len⟩
 ·have q:=I.base.free b ob e n hx;rw[aF (nn q)];exact q
 ·have q:=I.base.lL b xs e;rw[aF (ne q (fun z=>by cases z))];exact q
 ·have q:=I.base.ki b ob u e;rw[aF (ne q (fun z=>by cases z))];exact q
 ·obtain⟨m,q⟩:=I.base.mC b ps e;exact⟨m,by rw[aF (ne q (fun z=>by cases z))];exact q⟩
 ·rw[aF (nn I.free)];exact I.free
 ·rw[aF (nn (I.eZ x c e))];exact I.eZ x c e
 ·obtain⟨p1,p2,p3⟩:=I.pin p hp;exact⟨p1,by rw[aF (nn p2)];exact p2,p3⟩
 ·have ow:∀c d,H c=some (.own d)->upd H a (.kg o (.dK kvs)) c=some (.own d):=fun c d q=>by rw[aF (ne q (fun z=>by cases z))];exact q
  have tu:∀c xs,H c=some (.tup xs)->upd H a (.kg o (.dK kvs)) c=some (.tup xs):=fun c d q=>by rw[aF (ne q (fun z=>by cases z))];exact q
  by_cases z:b=a
  ·subst z;rw[a_]at e;cases e;exact⟨ho,(I.cp b _ ha).oq (fun _ _ _ q=>q) (fun c q=>ow c b q) tu⟩
  ·rw[aF z]at e;exact(I.cp b u e).oq (fun _ _ _ q=>q) (fun c q=>ow c b q) tu
theorem Inv.RE (I:Inv X U Z H s)(ha:H a=some (.kg o (.dK kvs)))(h0:∀o' u,X.Bh a≠some (.kg o' u)):Inv X U Z (upd H a (.dK kvs)) s:=by
 have ne:∀{b:Addr} {u:HO},H b=some u->u≠ .kg o (.dK kvs)->b≠a:=fun{b u} e d z=>by subst z;rw[ha]at e;cases e;exact d rfl
 have nn:∀{b:Addr},H b=none->b≠a:=fun{b} e z=>by subst z;rw[ha]at e;cases e
 refine⟨I.ok,I.os,I.bare,⟨I.base.keep,I.base.slot,fun b ob e n hx=>?_,I.base.there,fun b xs e=>?_,fun b ob u e=>?_,fun b ps e=>?_⟩,I.loc,I.cell,?_,fun x c e=>?_,fun p hp=>?_,fun b u e=>?_,I.len⟩
 ·have q:=I.base.free b ob e n hx;rw[aF (nn q)];exact q
 ·have q:=I.base.lL b xs e;rw[aF (ne q (fun z=>by cases z))];exact q
 ·have q:=I.base.ki b ob u e;rw[aF (fun z=>by subst z;exact h0 _ _ e)];exact q
 ·obtain⟨m,q⟩:=I.base.mC b ps e;exact⟨m,by rw[aF (ne q (fun z=>by cases z))];exact q⟩
 ·rw[aF (nn I.free)];exact I.free
 ·rw[aF (nn (I.eZ x c e))];exact I.eZ x c e
 ·obtain⟨p1,p2,p3⟩:=I.pin p hp;exact⟨p1,by rw[aF (nn p2)];exact p2,p3⟩
 ·have ow:∀c d,H c=some (.own d)->upd H a (.dK kvs) c=some (.own d):=fun c d q=>by rw[aF (ne q (fun z=>by cases z))];exact q
  have tu:∀c xs,H c=some (.tup xs)->upd H a (.dK kvs) c=some (.tup xs):=fun c d q=>by rw[aF (ne q (fun z=>by cases z))];exact q
  by_cases z:b=a
  ·subst z;rw[a_]at e;cases e;exact(I.cp b _ ha).2.oq (fun _ _ _ q=>q) (fun c q=>ow c b q) tu
  ·rw[aF z]at e;exact(I.cp b u e).oq (fun _ _ _ q=>q) (fun c q=>ow c b q) tu
structure y1(H H':Hp)(a:Addr)(u u':HO)(kvs:List (Key×V)):Prop where
 fr:H a=some u
 to:H'=upd H a u'
 ok:(u=.dK kvs/\∃o,u'=.kg o (.dK kvs))\/(u'=.dK kvs/\∃o,u=.kg o (.dK kvs))
variable {u u':HO}
theorem y1.sQ (w:y1 H H' a u u' kvs){b:Addr}{x:HO}(e:H b=some x)(h1:∀k,x≠ .dK k)(h2:∀o k,x≠ .kg o (.dK k)):H' b=some x:=by
 rw[w.to,aF ?_]
 ·exact e
 ·intro z;subst z;rw[w.fr]at e;cases e;rcases w.ok with⟨e1,_⟩|⟨_,o,e1⟩
  ·exact h1 _ e1
  ·exact h2 _ _ e1
theorem kR{x:HO}(e:(bz B H).H a=some x)(h:H a=some x->H' a=some x):(bz B H').H a=some x:=by
 have e':(if B.hd a=true then none else H a)=some x:=e;show(if B.hd a=true then none else H' a)=some x;split at e'
 ·cases e'
 ·rename_i n;rw[ay n];exact h e'
theorem y1.seq (w:y1 H H' a u u' kvs){b:Addr}{xs:List V}(h:kB K (bz B H).H b xs):kB K (bz B H').H b xs:=by
 rcases h with(h|⟨o,h⟩)|h
 ·exact .inl (.inl (kR h fun e=>w.sQ e (fun _ z=>by cases z) fun _ _ z=>by cases z))
 ·exact .inl (.inr ⟨o,kR h fun e=>w.sQ e (fun _ z=>by cases z) fun _ _ z=>by cases z⟩)
 ·exact .inr h
theorem y1.tup (w:y1 H H' a u u' kvs){b:Addr}{xs:List V}(h:g9 K (bz B H).H b xs):g9 K (bz B H').H b xs:=by
 rcases h with(h|⟨o,h⟩)|h
 ·exact .inl (.inl (kR h fun e=>w.sQ e (fun _ z=>by cases z) fun _ _ z=>by cases z))
 ·exact .inl (.inr ⟨o,kR h fun e=>w.sQ e (fun _ z=>by cases z) fun _ _ z=>by cases z⟩)
 ·exact .inr h
theorem y1.bw (w:y1 H H' a u u' kvs){b:Addr}{ks:List (Key×V)}(h:Rd (bz B H).H b (.dK ks)):Rd (bz B H').H b (.dK ks):=by
 by_cases z:b=a
 ·subst z;have hb:B.hd b=false:=by
   cases q:B.hd b with
   |false=>rfl
   |true=>
    have n:(bz B H).H b=none:=by show(if B.hd b=true then none else H b)=none;rw[au q]
    rcases h with h|⟨o,h⟩<;>(rw[n]at h;cases h)
  have h':Rd H b (.dK ks):=by unfold Rd at h⊢;rw[fK hb]at h;exact h
  have ek:ks=kvs:=by
   rcases h' with h|⟨o,h⟩<;>rw[w.fr]at h<;>rcases w.ok with⟨e1,_⟩|⟨_,o',e1⟩<;>rw[e1]at h<;>cases h<;>rfl
  subst ek;unfold Rd;rw[fK hb,w.to,a_];rcases w.ok with⟨_,o',e1⟩|⟨e1,_⟩
  ·rw[e1];exact .inr ⟨o',rfl⟩
  ·rw[e1];exact .inl rfl
 ·have hn:(bz B H').H b=(bz B H).H b:=by
   show(if B.hd b=true then none else H' b)=(if B.hd b=true then none else H b);rw[w.to,aF z]
  unfold Rd;rw[hn];exact h
theorem y1.rep (w:y1 H H' a u u' kvs){v:V}{t:Tr}(h:Rep K (bz B H) v t):Rep K (bz B H') v t:=by
 refine Rep.rec (motive_1:=fun v t _=>Rep K (bz B H') v t) (motive_2:=fun vs ts _=>bc K (bz B H') vs ts) ?_ ?_ ?_ ?_ ?_ ?_ ?_ ?_ ?_ ?_ ?_ ?_ ?_ ?_ ?_ h
 ·exact .bO
 ·exact fun b=>.bl b
 ·exact fun i=>.int i
 ·exact fun z h=>.str z h
 ·exact fun n=>.ty n
 ·exact fun h=>.uC (w.seq h)
 ·exact fun h _ r=>.tup (w.tup h) r
 ·exact fun h _ r=>.lst (kR h fun e=>w.sQ e (fun _ z=>by cases z) fun _ _ z=>by cases z) r
 ·exact fun h e _ r=>.bw (w.bw h) e r
 ·exact fun h=>.at h
 ·exact fun h e _ r=>.uD (kR h fun e=>w.sQ e (fun _ z=>by cases z) fun _ _ z=>by cases z) e r
 ·exact fun h e _ r=>.ob (kR h fun e=>w.sQ e (fun _ z=>by cases z) fun _ _ z=>by cases z) e r
 ·exact fun h c=>.yM (kR h fun e=>w.sQ e (fun _ z=>by cases z) fun _ _ z=>by cases z) c
 ·exact .nil
 ·exact fun _ _ h r=>.cons h r
theorem y1.V0 (w:y1 H H' a u u' kvs):∀{vs:List V} {ts:List Tr},bc K (bz B H) vs ts->bc K (bz B H') vs ts
 |[],_,h=>by cases h;exact .nil
 |_::_,_,h=>by cases h with|cons h r=>exact .cons (w.rep h) (y1.V0 w r)
theorem y1.GX {Y:bf}(w:y1 H H' a u u' kvs)(h:bV K B H Z Y):bV K B H' Z Y:=
 ⟨h.len,fun i t e=>by obtain⟨v,e1,r⟩:=h.sh i t e;exact⟨v,e1,w.rep r⟩,
   fun i ts e=>by obtain⟨D,ys,e1,e2,e3,r⟩:=h.ow i ts e;exact⟨D,ys,e1,e2,w.sQ e3 (fun _ z=>by cases z) (fun _ _ z=>by cases z),w.V0 r⟩,h.ap⟩
theorem y1.hb (w:y1 H H' a u u' kvs)(h:HB B H):HB B H':=fun b e=>by
 obtain⟨o,q⟩:=h b e;by_cases z:b=a
 ·subst z;rw[w.to];exact⟨_,a_⟩
 ·exact⟨o,by rw[w.to,aF z];exact q⟩
def GY(X:Cx)(B:d7)(H H':Hp):Prop:=aE H H'\/∃H1 a o kvs,aE H H1/\B.hd a=false/\H1 a=some (.dK kvs)/\H'=upd H1 a (.kg o (.dK kvs))/\∀o u,X.Bh a≠some (.kg o u)
def jX(X:Cx)(H:Hp)(k:Hp->Prop):Prop:=k H\/∃a o kvs,H a=some (.kg o (.dK kvs))/\(∀o u,X.Bh a≠some (.kg o u))/\k (upd H a (.dK kvs))
theorem jX.inv {k:Hp->Prop}(q:jX X H k)(I:Inv X U Z H s):∃H',Inv X U Z H' s/\k H':=by
 rcases q with q|⟨a,o,kvs,e,h0,q⟩
 ·exact⟨H,I,q⟩
 ·exact⟨_,I.RE e h0,q⟩
theorem PE.TZ {t:TE}(h:PE X e t):PE X e (fun Z H Q=>t Z H fun v H'=>jX X H' (Q v)):=fun U s Z H Q I q=>
 dA (h U s Z H _ I q) fun u s' ⟨v,H',I',r,z⟩=>by
  obtain⟨H2,I2,q2⟩:=z.inv I';exact⟨v,H2,I2,r,q2⟩
def Ends.TZ (X:Cx)(D:Ends):Ends:=⟨fun Z H=>jX X H (D.nx Z),fun v H=>jX X H (D.rt v),fun Z H=>jX X H (D.bk Z),fun Z H=>jX X H (D.ct Z)⟩
theorem PS.TZ {st:Stmt}{t:TS}(h:PS X st t):PS X st (fun D Z H=>t (D.TZ X) Z H):=fun U s Z H D I q=>
 dA (h U s Z H _ I q) fun f s' z=>by
  cases f with
  |next=>obtain⟨cK,H',I',z⟩:=z;obtain⟨H2,I2,q2⟩:=jX.inv z I';exact⟨cK,H2,I2,q2⟩
  |brk=>obtain⟨cK,H',I',z⟩:=z;obtain⟨H2,I2,q2⟩:=jX.inv z I';exact⟨cK,H2,I2,q2⟩
  |cont=>obtain⟨cK,H',I',z⟩:=z;obtain⟨H2,I2,q2⟩:=jX.inv z I';exact⟨cK,H2,I2,q2⟩
  |ret u=>obtain⟨v,cK,H',I',r,z⟩:=z;obtain⟨H2,I2,q2⟩:=jX.inv z I';exact⟨v,cK,H2,I2,r,q2⟩
theorem GY.GX {Y:bf}(h:GY X B H H')(r:bV K B H Z Y):bV K B H' Z Y:=by
 rcases h with s|⟨H1,a,o,kvs,s,hv,ha,rfl,h0⟩
 ·exact r.same s
 ·exact y1.GX (u:=.dK kvs) ⟨ha,rfl,.inl ⟨rfl,o,rfl⟩⟩ (r.same s)
theorem GY.hb (h:GY X B H H')(r:HB B H):HB B H':=by
 rcases h with s|⟨H1,a,o,kvs,s,hv,ha,rfl,h0⟩
 ·exact r.same s
 ·exact y1.hb (u:=.dK kvs) ⟨ha,rfl,.inl ⟨rfl,o,rfl⟩⟩ (r.same s)
theorem GY.free {p:Addr}(h:GY X B H H')(e:H' p=none):H p=none:=by
 rcases h with s|⟨H1,a,o,kvs,s,hv,ha,rfl,h0⟩
 ·exact s.free e
 ·refine s.free ?_
  by_cases z:p=a
  ·subst z;rw[a_]at e;cases e
  ·rw[aF z]at e;exact e
theorem GY.back {H2:Hp}{B2:d7}{C:d7}(h:GY X B H H')(si:dv C B H' B2 H2):∃Hu,dv C B H B2 Hu/\(∀{K:Frag} {B3:d7} {v:V} {t:Tr},Rep K (bz B3 H2) v t->Rep K (bz B3 Hu) v t)/\(∀{K:Frag} {Z:St} {Y:bf},bV K B2 H2 Z Y->bV K B2 Hu Z Y)/\∀k:Hp->Prop,k Hu->jX X H2 k:=by
 rcases h with s|⟨H1,a,o,kvs,s,hv,ha,rfl,h0⟩
 ·exact⟨H2,⟨fun b o c e=>si.kp b o c (s _ _ e),(aX s).trans si.jH,si.sub,si.hb⟩,fun r=>r,fun r=>r,fun k q=>.inl q⟩
 ·have e1:(bz B (upd H1 a (.kg o (.dK kvs)))).H a=some (.kg o (.dK kvs)):=by rw[fK hv];exact a_
  have e2:=si.jH.h _ _ e1;have e3:H2 a=some (.kg o (.dK kvs)):=aZ _ _ e2;have w:y1 H2 (upd H2 a (.dK kvs)) a (.kg o (.dK kvs)) (.dK kvs) kvs:=⟨e3,rfl,.inr ⟨rfl,o,rfl⟩⟩;have hv2:B2.hd a=false:=by
   cases q:B2.hd a with
   |false=>rfl
   |true=>
    have n:(bz B2 H2).H a=none:=by show(if B2.hd a=true then none else H2 a)=none;rw[au q]
    rw[n]at e2;cases e2
  refine⟨upd H2 a (.dK kvs),⟨fun b ob c e=>?_,⟨fun b ob e=>?_,fun b i e=>?_⟩,si.sub,w.hb si.hb⟩,fun r=>w.rep r,fun r=>w.GX r,fun k q=>.inr ⟨a,o,kvs,e3,h0,q⟩⟩
  ·have q:=s _ _ e;by_cases z:b=a
   ·subst z;rw[ha]at q;cases q;exact a_
   ·rw[aF z];exact si.kp b ob c (by rw[aF z];exact q)
  ·by_cases z:b=a
   ·subst z;have q:=s _ _ (aZ _ _ e);rw[ha]at q;cases q;rw[fK hv2];exact a_
   ·have q:(bz B (upd H1 a (.kg o (.dK kvs)))).H b=some ob:=kR e fun e=>by rw[aF z];exact s _ _ e
    exact kR (si.jH.h _ _ q) fun e=>by rw[aF z];exact e
  ·exact si.jH.x b i e
theorem GY.O5 {H2:Hp}(h:GY X B H H')(hb:HB B H)(s2:aE H' H2):∃Hu,aE H Hu/\(∀{K:Frag} {B3:d7} {v:V} {t:Tr},Rep K (bz B3 H2) v t->Rep K (bz B3 Hu) v t)/\∀k:Hp->Prop,k Hu->jX X H2 k:=by
 obtain⟨Hu,si,r,_,k⟩:=h.back (C:=B) (B2:=B) (H2:=H2) ⟨fun b o _ e=>s2 _ _ e,aX s2,.refl,(h.hb hb).same s2⟩;exact⟨Hu,si.same,r,k⟩
end
def Z'(a:Addr)(o:Obj)(kvs:List (Key×V)):It:=
 ⟨fun i H=>H a=some (.kg o (.dK kvs))/\i<kvs.length,fun i H x H'=>H'=H/\∃k v,kvs[i]?=some (k,v)/\x=kV k,fun i H=>H a=some (.kg o (.dK kvs))/\kvs.length<=i⟩
theorem z5{kvs:List (Key×V)}{vs:List (Key×Value)}(r:KV kvs vs){k:Key}{v:V}(e:kvs[i]?=some (k,v)):∃u,vs[i]?=some (k,u):=by
 have r':Paired _ kvs vs:=r
 clear r
 induction r' generalizing i with
 |nil=>simp at e
 |cons h t ih=>
  cases i with
  |zero=>
   simp at e;subst e;rename_i q _ _;obtain⟨qk,qu⟩:=q;cases h.1;exact⟨qu,rfl⟩
  |succ j=>exact ih (by simpa using e)
theorem qT{κ:Type}{kvs:List (κ×V)}{vs:List (κ×Value)}(r:KV kvs vs):kvs.length=vs.length:=by
 have r':Paired _ kvs vs:=r
 clear r
 induction r' with
 |nil=>rfl
 |cons h t ih=>rw[cG,cG,ih]
theorem G0(a it:Addr)(o:Obj)(kvs:List (Key×V))(es:Array DictEntry)(ep:Nat)(hd:o.data=.dict es ep):Turn P w K tg (Z' a o kvs) [it] it (fun i h=>h.IsKeyIter it a i kvs.length ep) where
 mem:=by simp
 obj:=fun i h st b hb=>by
  have e:b=it:=by simpa using hb
  subst e;obtain⟨o,e,c,d⟩:=st;exact⟨o,e,fun v z=>by rw[d]at z;cases z⟩
 keep:=fun i h h' st k=>by
  obtain⟨o,e,c⟩:=st;exact⟨o,k it (by simp) o e,c⟩
 item:=by
  intro X hP hw hK hc i U s Z H E I hf st ⟨hg,hi⟩;subst hP hw hK;obtain⟨ho,hz,hs,vs,rv,o',zF,Il,h1,h2,h3,h4⟩:=(show cu X.prog X.w H s.heap a (.kg o (.dK kvs))from I.cp a _ hg);rw[ho]at h1;cases h1;rw[hd]at h3;cases h3;obtain⟨f0,f1,f2,f3,f4,f5⟩:=hf it (by simp);have hl:=qT rv;have ex:kvs[i]?=some (kvs[i].1,kvs[i].2):=by simp[hi]
  obtain⟨u,hu⟩:=z5 rv ex;rw[hl]at st;refine wpAny_pyNext_dict_item (knd:=bC X.prog X.w) st ⟨o,es,ho,h2,hd,h4⟩ hu fun key h' hk wk sb=>?_
  have I1:Inv X U Z H {s with heap:=h'}:=I.turned (t':=s.toks) (fun b o hb e=>(sb.2 b hb).trans e) f0 f1 f3 f4 f5;obtain⟨oi,e,c,d⟩:=id wk;refine⟨key,rfl,yD (s:={s with heap:=h'}) e c d (by decide) ⟨kV kvs[i].1,H,I1,?_,⟨rfl,_,_,ex,rfl⟩,by rw[hl];exact wk,fun b hb=>(hf b hb).1⟩⟩;rcases cW hk with⟨j,t,e1,e2⟩|⟨y,t,e1,e2⟩
  ·rw[e1,e2];exact⟨t,rfl⟩
  ·rw[e1,e2];exact⟨t,rfl⟩
 done:=by
  intro X hP hw hK hc i U s Z H E I hf st ⟨hg,hi⟩;subst hP hw hK;obtain⟨ho,hz,hs,vs,rv,o',zF,Il,h1,h2,h3,h4⟩:=(show cu X.prog X.w H s.heap a (.kg o (.dK kvs))from I.cp a _ hg);rw[ho]at h1;cases h1;rw[hd]at h3;cases h3;obtain⟨f0,f1,f2,f3,f4,f5⟩:=hf it (by simp);have hl:=qT rv;rw[hl]at st;exact wpAny_pyNext_dict_end (knd:=bC X.prog X.w) (I.ok.hd hc) st ⟨o,es,ho,h2,hd,h4⟩ (List.getElem?_eq_none (by rw[<-hl];exact hi)) fun h' eb=>⟨rfl,I.turned (t':=s.toks) (fun b o hb e=>eb b o hb e) f0 f1 f3 f4 f5⟩
 self:=fun _ _ _ _ _ st h=>wpAny_pyIter_keyiter st h
def y2:Key->Tr
 |.inl i=>.int i
 |.inr z=>.str z
def keyOk:Key->Bool
 |.inl _=>true
 |.inr z=>decide (z.length<=cw)
theorem y3{W:Vw}{k:Key}(h:keyOk k=true):Rep K W (kV k) (y2 k):=by
 cases k with
 |inl i=>exact .int i
 |inr z=>exact .str z (dE h)
def BS(aM:List (Key×Tr)):Rs (List Tr):=if aM.all (fun p=>keyOk p.1)=true then .ok (aM.map fun p=>y2 p.1)else .bad
def JA(r:Rs Tr):Rs (List Tr):=r.bind fun t=>match t with
 |.bw aM=>BS aM
 |_=>.bad
inductive tJ(X:Cx)(W:bf->Rs (List Tr))(Z:St)(H:Hp)(R:It->Hp->Prop):Prop
 |mk (B:d7) (Y:bf):HB B H->bV X.K B H Z Y->(Fi X H (W Y) fun ts=>∀J H',GY X B H H'->lR X.K B J H' ts->R J H')->tJ X W Z H R
theorem DV{o:Obj}{kvs:List (Key×V)}{aM:List (Key×Tr)}(h:(bz B H).H a=some (.kg o (.dK kvs)))(e:kvs.map (·.1)=aM.map (·.1))(hk:aM.all (fun p=>keyOk p.1)=true):lR K B (Z' a o kvs) H (aM.map fun p=>y2 p.1):=by
 have hl:kvs.length=aM.length:=by have q:=cq List.length e;rw[aK,aK]at q;exact q
 refine⟨fun i B' H' hi s hb=>⟨aZ _ _ (s.h _ _ h),by rw[aK]at hi;rw[hl];exact hi⟩,fun i B' H' x LQ hi s hb ⟨eh,k,v,ek,ex⟩=>?_,fun B' H' s=>⟨aZ _ _ (s.h _ _ h),by rw[aK,hl];exact aQ _⟩⟩;subst eh ex;have e1:(kvs.map (·.1))[i]?=some k:=by rw[bA,ek];rfl
 rw[e,bA]at e1;cases e2:aM[i]? with
 |none=>rw[e2]at e1;cases e1
 |some p=>
  rw[e2]at e1;have e3:p.1=k:=Option.some.inj e1;refine⟨aE.refl _,y2 k,by rw[bA,e2,<-e3];rfl,y3 ?_⟩;rw[<-e3];exact cJ.mp hk p (dm e2)
section
theorem V1{l:Expr}(hl:PE X l (tP X F)):PI X tg l (tJ X fun Y=>JA (F Y)):=by
 intro U s Z H R I ⟨B,Y,hb,r,q⟩;refine dA (hl U s Z H (fun x H1=>∃(a:Addr) (kvs:List (Key×V)) (aM:List (Key×Tr)),x=.ref a/\aE H H1/\Rd (bz B H1).H a (.dK kvs)/\kvs.map (·.1)=aM.map (·.1)/\aM.all (fun p=>keyOk p.1)=true/\∀J H',GY X B H H'->lR X.K B J H' (aM.map fun p=>y2 p.1)->R J H') I ⟨B,Y,hb,r,q.bind.mono fun t qt v H1 s1 r1=>?_⟩) fun v s1 ⟨x,H1,I1,r1,a,kvs,aM,ex,sm,rd,ek,hk,k⟩=>?_
 ·skip
  split at qt
  ·obtain⟨a,kvs,e0,h,e,rr⟩:=r1.mE;obtain⟨z,q1⟩:=gy qt;exact⟨a,kvs,_,e0,s1,h,e,z,q1⟩
  ·exact qt.elim
 ·subst ex;cases r1;have rd1:Rd H1 a (.dK kvs):=rd.same aZ;have hv:B.hd a=false:=by
   cases z:B.hd a with
   |false=>rfl
   |true=>
    have n:(bz B H1).H a=none:=by show(if B.hd a=true then none else H1 a)=none;rw[au z]
    rcases rd with h|⟨o,h⟩<;>(rw[n]at h;cases h)
  obtain⟨hz,hs,vs,rv,o,es,ep,h1,h2,h3,h4⟩:=(show cu X.prog X.w H1 s1.heap a (.dK kvs)from rd1.ok I1.cp);refine wpAny_pyIter_dict (knd:=bC X.prog X.w) hs ⟨o,es,h1,h2,h3,h4⟩ ?_
  have fin:∀{H2:Hp},Inv X U Z H2 s1->H2 a=some (.kg o (.dK kvs))->GY X B H H2->Uy X U Z tg R (.ref s1.heap.objs.size) {s1 with heap:=s1.heap.push {cls:=.type "dict_keyiterator",data:=.fields #[.ref a,.int 0 0,.int vs.length 0,.int ep 0]}}:=fun{H2} I2 e2 tf=>
   ⟨s1.heap.objs.size,[s1.heap.objs.size],_,Z' a o kvs,H2,rfl,I2.kept (t':=s1.toks) fun b o e=>bh _ e,G0 a _ o kvs es ep h3,⟨_,bG _ rfl,rfl,by rw[qT rv];rfl⟩,fun b hb=>by
    have e:b=s1.heap.objs.size:=by simpa using hb
    subst e;exact I2.wj (aQ _) (I2.cp.fresh (aQ _)),k _ H2 tf (DV (by rw[fK hv];exact e2) ek hk)⟩
  rcases rd1 with e1|⟨o',e1⟩
  ·refine fin (I1.frozen e1 h1) a_ (.inr ⟨H1,a,o,kvs,sm,hv,e1,rfl,fun o' u e0=>?_⟩);have q:=I1.base.ki a o' u e0;rw[e1]at q;cases q
  ·have eo:o'=o:=by
    have q:=(show cu X.prog X.w H1 s1.heap a (.kg o' (.dK kvs))from I1.cp a _ e1).1;rw[h1]at q;cases q;rfl
   subst eo;exact fin I1 e1 (.inl sm)
variable {a b:Expr}{es:List Expr}{A:bf->Rs Bool}{scope:Scope}{N':List Str}{ix:List (Option Nat)}{elt c0:Expr}{ifs:List Expr}{T:nD}{W:bf->Rs (List Tr)}
theorem G1{Q:VK}(hT:js T)(q:tP X (fun Y=>uF ix T A F (W Y) Y) Z H Q):TN (tJ X W) ix (OS X.K T) (OR X.K A) (OQ X.K F) Z H (fun v H'=>jX X H' (Q v)):=by
 obtain⟨B,Y,hb,r,q⟩:=q;refine⟨B,Y,hb,r,q.bind.mono fun ts qt J H1 tf gt D hD=>?_⟩;by_cases hz:ts.length<=ee
 ·rw[au hz]at qt;exact vk hT (vj ix Y) (tf.hb hb) gt hz ((tf.GX r).comp ix (jW hD)) hD (Fi.bind qt) fun ys H' k s' rp=>by
   obtain⟨Hu,su,ru,ku⟩:=tf.O5 hb s';exact ku _ (k _ Hu su (ru rp))
 ·rw[ay hz]at qt;exact qt.elim
theorem V2(Lk:fP X N' ix scope)(hi:PI X tg c0 (tJ X W))(kl:MM X scope N' tg elt ifs T A F)(hT:js T)(hc:X.calm=true:=by rfl) (hs:isSet c0=false:=by rfl):
  PE X (.ListComp elt [⟨tg,c0,ifs,0⟩] scope pos) (tP X fun Y=>uF ix T A F (W Y) Y):=
 (Ja Lk hc hi kl.TV (gx hs)).TZ.weak fun Z H Q q=>G1 hT q
theorem RF{G:bf->Rs Out}(hi:PI X tg c0 (tJ X W))(hg:PG X tg (tG X T))(hb:nC X ac (tS X G))(hp:PassesOwn (model X.prog X.w) X.A X.env X.xe:=by exact rS) (hc:X.calm=true:=by rfl)
  (hs:isSet c0=false:=by rfl):PS X (.For tg c0 ac [] pos) (tS X fun Y=>Fc T G (W Y) Y):=
 (IA hp hc hi hg hb (gx hs)).TZ.weak fun D Z H ⟨C,B0,H0,B,Y,si,r,q⟩=>⟨B,Y,si.hb,r,(q.bind.here si).mono fun ts qt J H1 tf gt=>by
  have si0:dv B B H1 B H1:=dv.refl (tf.hb si.hb) .refl;have fin:∀{c:Tr},xS X C B0 H0 c->False:=fun{c} xc=>xc B H si;have qt:=pG.imp (TQ:=fun _=>False) qt fun c xc=>(fin xc).elim;refine⟨fun i m cK H'=>m=ts.length - i/\i<=ts.length/\∃B' g6,dv C B H1 B' H'/\bV X.K B' H' cK g6/\pG (fun _=>False) (yo T G (ts.drop i) g6) (DE X D C B0 H0),⟨_,rfl,dF _,B,Y,dv.refl (tf.hb si.hb) si.sub,tf.GX r,qt⟩,?_⟩
  rintro i m cK H' ⟨rfl,hi,B',g6,MI,r',q'⟩
  by_cases gn:i<ts.length
  ·rw[ra gn]at q';refine .inr ⟨gt.go i B' H' gn MI.jH MI.hb,fun yj H2=>∃B2 iZ,dv C B H1 B2 H2/\bV X.K B2 H2 yj iZ/\pG (fun _=>False) (yo T G (ts.drop (i+1)) iZ) (DE X D C B0 H0),
    fun yj H2 ⟨B2,iZ,x1,x2,x3⟩=>⟨ts.length - (i+1),by omega,rfl,gn,B2,iZ,x1,x2,x3⟩,fun x H2 hx=>?_⟩
   obtain⟨s2,t,et,rt⟩:=gt.Gu i B' H' x H2 gn MI.jH MI.hb hx;have Vy:ts[i]=t:=by rw[bq gn]at et;exact Option.some.inj et
   rw[Vy]at q';have si2:=MI.go s2;have qq:pG (fun _=>False) (T t g6) _:=pG.bind q';refine⟨B',g6,t,si2.hb,r'.same s2,rt,(pG.imp qq fun c z=>z.elim).mono fun qZ q1 OF H3 s3 r3=>?_⟩;have T1:=si2.go s3;refine⟨C,B',H3,B',qZ,dv.refl T1.hb T1.sub,r3,((pG.bind q1).imp fun c z=>z.elim).mono fun o qo=>?_⟩;cases o with
   |nx iZ=>exact fun Rx B4 H4 RG r4=>⟨B4,iZ,T1.trans RG,r4,qo⟩
   |ct iZ=>exact fun Rx B4 H4 RG r4=>⟨B4,iZ,T1.trans RG,r4,qo⟩
   |bk iZ=>
    intro Rx B4 H4 RG r4;obtain⟨Hu,su,ru,rs,ku⟩:=tf.back (T1.trans RG);exact ku _ (qo Rx B4 Hu (si.trans su) (rs r4))
   |ret t=>
    intro v B4 H4 RG r4;obtain⟨Hu,su,ru,rs,ku⟩:=tf.back (T1.trans RG);exact ku _ (qo v B4 Hu (si.trans su) (ru r4))
  ·have e:i=ts.length:=by omega
   subst e;rw[rK]at q';obtain⟨Hu,su,ru,rs,ku⟩:=tf.back MI;exact .inl ⟨gt.stop B' H' MI.jH,ku _ (q' cK B' Hu (si.trans su) (rs r'))⟩⟩
end
theorem qU{α:Type}:∀(l:List α) (i:Nat) (hi:i<l.length),(l[i]::l.eraseIdx i).Perm l
 |x::r,0,_=>List.Perm.refl _
 |x::r,i+1,hi=>by
  have ih:=qU r i (by simpa using hi);have Yy:i<r.length:=by simpa using hi
  show(r[i]::x::r.eraseIdx i).Perm (x::r);exact(List.Perm.swap _ _ _).trans (ih.cons x)
theorem DW{M:Model}{src:Source}{n:Nat}{Q:Nat->Shared->Prop}(hn:n≠0)(h:∀i,i<n->∀d,Q i {s with drawn:=d}):wpAny M A (choose src n) Q E s:=fun Γ p _=>by
 unfold choose;rw[Sem.wp];refine⟨hn,?_⟩;rw[Sem.wp];exact h _ (Nat.mod_lt _ (Nat.pos_of_ne_zero hn)) _
theorem qg{M:Model}{α:Type}:∀(n:Nat) (xs:List α) (s:Shared) (Q:List α->Shared->Prop),xs.length=n->(∀ys d,ys.Perm xs->Q ys {s with drawn:=d})->wpAny M A (drawOrder n xs) Q E s
 |0,xs,s,Q,hl,h=>by
  cases xs with
  |nil=>exact aC (h [] s.drawn (List.Perm.refl _))
  |cons _ _=>cases hl
 |n+1,[],s,Q,hl,h=>by cases hl
 |n+1,x::r,s,Q,hl,h=>by
  unfold drawOrder;refine ak (DW (by simp) fun i hi d=>?_);have hx:(x::r)[i]?=some (x::r)[i]:=bq hi
  rw[hx];dsimp only;refine ak (qg n _ _ _ (by rw[Ba hi];simpa using hl) fun ys d' hp=>?_);refine aC (h _ d' ?_);exact(hp.cons _).trans (qU _ i hi)
abbrev A7(w:World):Bool:=w.params.followText "set-order"
def ent(w:World)(p:Str×Tok):Int×Value:=(hashStr w p.1,.str p.1 p.2)
def km(w:World)(h:Heap)(a:Addr)(ss:List Str):Prop:=
 ∃(o:Obj) (es:Array (Int×Value)) (ep:Nat) (t:SetTable) (l:List (Str×Tok)),h.get? a=some o/\o.ExactSet/\o.data=.set es ep t/\es.toList=l.map (ent w)/\(l.map (·.1)).Perm ss/\ss.Nodup/\es.size<scanBound/\
  t.fits es.size=true/\(A7 w=true\/t.led=true)/\(es.size≠0->t.plain=false)
theorem G3{l:List (Str×Tok)}:ElemsOf (PySem.strKind P w) (l.map (ent w)):=fun e he=>by
 obtain⟨p,_,rfl⟩:=bS.mp he;exact⟨⟨p.1,by simp[PySem.strKind,ent,Value.isStrOf],rfl⟩,rfl⟩
theorem km.typeIs {ss:List Str}(h:km w s.heap a ss):s.TypeIs (.ref a) "set":=by
 obtain⟨o,_,_,_,_,ho,hx,_⟩:=h;exact⟨o,ho,hx.1⟩
theorem yq(t:SetTable)(n:Nat):(t.orStandIn n).led=t.led:=by
 unfold SetTable.orStandIn;split<;>rfl
theorem Nf(t:SetTable)(j:Nat):(t.put j).1.led=t.led:=by
 unfold SetTable.put
 rfl
theorem DX(t:SetTable)(es:Array (Int×Value))(h:Int)(x:Value):(layNew t es h x).2.1.led=t.led:=by
 unfold layNew;split
 ·dsimp only;rw[yq,Nf]
 ·rfl
theorem DY{t t':SetTable}{hs:Array Int}{o:Array Nat}(h:t.relaid hs i=some (t',o)):t'.led=t.led/\t'.plain=t.plain:=by
 unfold SetTable.relaid SetTable.laid at h;simp only[bind,Option.bind]at h;split at h
 ·cases h
 ·cases h;exact⟨rfl,rfl⟩
theorem z6(t:SetTable)(es:Array (Int×Value))(n:Nat):(relayAll t es n).2.1.led=t.led/\(t.plain=false->(relayAll t es n).2.1.plain=false):=by
 unfold relayAll;split
 ·rename_i t' o e;have q:=DY e;dsimp only;split
  ·exact⟨q.1,fun z=>q.2.trans z⟩
  ·exact⟨rfl,fun _=>rfl⟩
 ·exact⟨rfl,fun _=>rfl⟩
theorem y4(x:Str)(p:Str×Tok):(PySem.strKind P w).is x (ent w p).2=decide (x=p.1):=by
 have h:(PySem.strKind P w).is p.1 (ent w p).2=true:=by simp[PySem.strKind,ent,Value.isStrOf]
 exact KeyKind.is_eq_decide h x
theorem w6{h:Heap}{o:Obj}{es:Array (Int×Value)}{t:SetTable}(ho:h.get? a=some o)(hex:o.ExactSet)(hd:o.data=.set es i t){zF:Array (Int×Value)}{t':SetTable}{l':List (Str×Tok)}{A8:List Str}
  (he:zF.toList=l'.map (ent w)) (hp:(l'.map (·.1)).Perm A8) (hn:A8.Nodup) (hb:zF.size<scanBound) (hf:t'.fits zF.size=true) (hl:A7 w=true\/t'.led=true) (ny:zF.size≠0->t'.plain=false):
  (h.update a (Obj.putSet zF t')).get? a=some {o with data:=.set zF (i+1) t'}/\km w (h.update a (Obj.putSet zF t')) a A8:=by
 have hg:(h.update a (Obj.putSet zF t')).get? a=some {o with data:=.set zF (i+1) t'}:=by
  have q:=rA (Obj.putSet zF t') ho (by rw[putSet_of zF t' hd];rfl);rw[putSet_of zF t' hd]at q;exact q
 exact⟨hg,_,zF,i+1,t',l',hg,hex,rfl,he,hp,hn,hb,hf,hl,ny⟩
theorem G4{l:List (Str×Tok)}{u:Tok}{es:List (Int×Value)}(hp:es.Perm (l.map (ent w)++[(hashStr w x,.str x u)])):∃l':List (Str×Tok),es=l'.map (ent w)/\l'.Perm (l++[(x,u)]):=by
 have e:l.map (ent w)++[(hashStr w x,Value.str x u)]=(l++[(x,u)]).map (ent w):=by rw[jq];rfl
 rw[e]at hp;have back:∀(zC:List (Str×Tok)) (es:List (Int×Value)),es.Perm (zC.map (ent w))->∃l':List (Str×Tok),es=l'.map (ent w)/\l'.Perm zC:=by
  intro zC es hp
  let f:Int×Value->Str×Tok:=fun e=>match e.2 with
   |.str y t=>(y,t)
   |_=>(x,u)
  have fe:∀p,f (ent w p)=p:=fun p=>rfl;have h1:∀e∈es,ent w (f e)=e:=fun e he=>by
   obtain⟨p,_,rfl⟩:=bS.mp (hp.mem_iff.mp he);rw[fe]
  refine⟨es.map f,?_,?_⟩
  ·rw[bY]
   conv=>lhs;rw[<-jT es]
   exact fY fun e he=>(h1 e he).symm
  ·have h2:=hp.map f;rw[bY]at h2;have h3:List.map (f∘ent w) zC=zC:=by
    conv=>rhs;rw[<-jT zC]
    exact fY fun p _=>fe p
   rw[h3]at h2;exact h2
 exact back _ _ hp
theorem w8{l:List (Str×Tok)}{es:List (Int×Value)}(hp:es.Perm (l.map (ent w))):∃l':List (Str×Tok),es=l'.map (ent w)/\l'.Perm l:=by
 let f:Int×Value->Str×Tok:=fun e=>match e.2 with
  |.str y t=>(y,t)
  |_=>(Str.empty,0)
 have fe:∀p,f (ent w p)=p:=fun p=>rfl;have h1:∀e∈es,ent w (f e)=e:=fun e he=>by
  obtain⟨p,_,rfl⟩:=bS.mp (hp.mem_iff.mp he);rw[fe]
 refine⟨es.map f,?_,?_⟩
 ·rw[bY]
  conv=>lhs;rw[<-jT es]
  exact fY fun e he=>(h1 e he).symm
 ·have h2:=hp.map f;rw[bY]at h2;have h3:List.map (f∘ent w) l=l:=by
   conv=>rhs;rw[<-jT l]
   exact fY fun p _=>fe p
  rw[h3]at h2;exact h2
theorem BU{g:Bool->Sem Unit}(hg:∀(b:Bool) (cC:Shared) (Q':Unit->Shared->Prop),Q' () cC->wpAny (model P w) A (g b) Q' E cC){o:Obj}{es:Array (Int×Value)}{t:SetTable}
  (ho:s.heap.get? a=some o) (hex:o.ExactSet) (hd:o.data=.set es i t) {u0:Array (Int×Value)} {t2:SetTable} {l1:List (Str×Tok)}
  (he1:u0.toList=l1.map (ent w)) (hp1:(l1.map (·.1)).Perm ps) (hn1:ps.Nodup) (DU:u0.size<scanBound) (hf2:t2.fits u0.size=true) (L4:A7 w=true\/t2.led=true) (V3:t2.plain=false) {BV:Bool} {R:Option Bool->Shared->Prop}
  (h:∀h',Heap.SameBut a s.heap h'->km w h' a ps->R (some true) {s with heap:=h'}):
  wpAny (model P w) A (do
    storeSet a u0 t2
    if(!BV&&t2.tooFull)=true then do
       g (relayAll t2 u0 (SetTable.grown u0.size)).2.2
       storeSet a (relayAll t2 u0 (SetTable.grown u0.size)).1 (relayAll t2 u0 (SetTable.grown u0.size)).2.1
       pure (some true)
     else pure (some true)) R E s:=by
 refine ak (wpAny_storeSet_of ho hd ?_ (wb DU));obtain⟨O6,V4⟩:=w6 (w:=w) ho hex hd he1 hp1 hn1 DU hf2 L4 fun _=>V3;have sb1:=nO s.heap a (Obj.putSet u0 t2);split
 ·have hp:=relayAll_perm t2 u0 (SetTable.grown u0.size);have TX:=relayAll_fits t2 u0 (SetTable.grown u0.size);have Yz:=z6 t2 u0 (SetTable.grown u0.size);generalize relayAll t2 u0 (SetTable.grown u0.size)=Rl at hp TX Yz⊢;obtain⟨es2,t3,aaW⟩:=Rl;dsimp only at hp TX Yz⊢;rw[he1]at hp;obtain⟨l2,e2,p2⟩:=w8 hp;have hsz:es2.size=u0.size:=by
   have q:=hp.length_eq;rw[<-he1,fj,fj]at q;exact q
  have Ng:es2.size<scanBound:=by rw[hsz];exact DU
  refine ak (hg _ _ _ ?_);refine ak (wpAny_storeSet_of O6 rfl ?_ (wb Ng));obtain⟨_,hS2⟩:=w6 (w:=w) (h:=s.heap.update a (Obj.putSet u0 t2)) O6 hex rfl e2 ((p2.map _).trans hp1) hn1 Ng TX (L4.imp id fun z=>Yz.1.trans z) fun _=>Yz.2 V3;exact aC (h _ (sb1.trans (nO _ a _)) hS2)
 ·exact aC (h _ sb1 V4)
def fL(ss:List Str)(x:Str):List Str:=if x∈ss then ss else ss++[x]
theorem aaa{ss:List Str}{u:Tok}{Q:Bool->Shared->Prop}(hS:km w s.heap a ss)(BW:ss.length+1<scanBound)
  (h:∀b h',Heap.SameBut a s.heap h'->km w h' a (fL ss x)->Q b {s with heap:=h'}):wpAny (model P w) A (setAddHashed a (.str x u) (hashStr w x)) Q E s:=by
 obtain⟨o,es,ep,t,l,ho,hex,hd,he,hp,hn,hb,hf,hl,ny⟩:=id hS;have hel:ElemsOf (PySem.strKind P w) es.toList:=by rw[he];exact G3
 have b9:es.size=ss.length:=by
  have q:=cq List.length he;rw[fj,aK]at q;have q2:=hp.length_eq;rw[aK]at q2;omega
 have IE:(PySem.strKind P w).is x (.str x u)=true:=by simp[PySem.strKind,Value.isStrOf]
 unfold setAddHashed setAddHashedIn;refine eD (ak (jM ho hd hf ?_));dsimp only;rw[byScan_of (knd:=PySem.strKind P w) rfl hb hel];simp only[↓reduceIte];unfold setAddByScan;refine ak ?_
 refine ak (eL ?_);refine ak (wpAny_setScan_of (knd:=PySem.strKind P w) IE ho hd hf hel ?_);have G5:x∈ss↔∃e∈es.toList,(PySem.strKind P w).is x e.2=true:=by
  rw[he,<-hp.mem_iff];constructor
  ·intro m;obtain⟨p,O7,rfl⟩:=bS.mp m;exact⟨ent w p,fk O7,by rw[y4];simp⟩
  ·rintro ⟨e,he',hx⟩
   obtain⟨p,O7,rfl⟩:=bS.mp he';rw[y4,gF]at hx;rw[hx];exact fk O7
 cases hr:List.findIdx? (fun e=>(PySem.strKind P w).is x e.2) es.toList with
 |some j=>
  dsimp only;obtain⟨hj,hpj,_⟩:=A9.mp hr;have hx:x∈ss:=G5.mpr ⟨es.toList[j],jO hj,hpj⟩;refine aC (aC ?_);have q:=h false s.heap (Heap.SameBut.refl a s.heap) (by unfold fL;rw[au hx];exact hS);exact q
 |none=>
  dsimp only;have hx:¬x∈ss:=fun m=>by
   obtain⟨e,he',q⟩:=G5.mp m;have z:=List.findIdx?_eq_none_iff.mp hr e he';rw[q]at z;cases z
  have hgw:∀(b:Bool) {cC:Shared} {Q':Unit->Shared->Prop},Q' () cC->wpAny (model P w) A (match b with|true=>rule "set.scan.the-table-gave-way"|false=>pure ()) Q' E cC:=
   fun b cC Q' hq=>by cases b<;>first|exact aC hq|exact eL hq
  have w_:=layNew_perm t es (hashStr w x) (.str x u);have FD:=layNew_fits t es (hashStr w x) (.str x u);have G6:=DX t es (hashStr w x) (.str x u);generalize layNew t es (hashStr w x) (.str x u)=L at w_ FD G6⊢;obtain⟨u0,t1,BV,aa2⟩:=L;dsimp only at w_ FD G6⊢;rw[Array.toList_push,he]at w_;obtain⟨l1,e1,p1⟩:=G4 w_;have hsz:u0.size=es.size+1:=by
   have q:=w_.length_eq;rw[dW,<-he,fj,fj]at q;simpa using q
  have DU:u0.size<scanBound:=by omega
  have Mt:(l1.map (·.1)).Perm (ss++[x]):=by
   have q:=p1.map (·.1);rw[jq]at q;exact q.trans (hp.append_right _)
  have P':(ss++[x]).Nodup:=by
   rw[vV];refine⟨hn,by simp,fun y hy z hz e=>?_⟩;rw[cE]at hz;subst hz e;exact hx hy
  have V5:∀h',Heap.SameBut a s.heap h'->km w h' a (ss++[x])->Q true {s with heap:=h'}:=fun h' sb JB=>h true h' sb (by unfold fL;rw[ay hx];exact JB);refine ak (hgw _ ?_);split
  ·refine ak ?_
   rw[hashByValue_scannable 8 (x:=.str x u) rfl];refine aC ?_
   refine BU ?_ ho hex hd e1 Mt P' DU ?_ ?_ ?_ ?_
   ·intro b cC Q' hq;cases b<;>first|exact aC hq|exact eL hq
   ·exact SetTable.fits_plain_off FD
   ·exact hl.imp id fun z=>G6.trans z
   ·rfl
   ·intro h' sb JB;exact aC (V5 h' sb JB)
  ·rename_i aac;refine ak (aC ?_);simp only[↓reduceIte];refine BU ?_ ho hex hd e1 Mt P' DU FD ?_ ?_ ?_
   ·intro b cC Q' hq;cases b<;>first|exact aC hq|exact eL hq
   ·exact hl.imp id fun z=>G6.trans z
   ·simpa using aac
   ·intro h' sb JB;exact aC (V5 h' sb JB)
theorem dc:Slot "set_iterator" "__next__" "set_iterator.__next__":=.of (owner:="set_iterator") (n:="__next__")
 (by rw[typeLookup_type,vP];kernel_rfl) (by decide+kernel) (by decide+kernel) (by decide+kernel) (by first|exact .inl (by decide+kernel)|exact .inr (by decide+kernel))
 (by rw[isSubtype_type];kernel_rfl)
theorem lV:entryFor table "set_iterator.__next__"=some Builtin.«set_iterator.__next__»:=entryFor_of_tree (by kernel_rfl)
theorem uH:Manifest.owners.lookup (String.ofList ['r', 'o', 't', 'a', 'r', 'e', 't', 'i', '_', 't', 'e', 's'].reverse)=some Manifest.sig_set_iterator:=by kernel_rfl
theorem m9(a:Value):argsOk "set_iterator.__next__" ⟨[a],[]⟩:=by
 unfold argsOk;rw[signature?_of (id:="set_iterator.__next__") (n:=['_', '_', 't', 'x', 'e', 'n', '_', '_']) (o:=['r', 'o', 't', 'a', 'r', 'e', 't', 'i', '_', 't', 'e', 's']) (by kernel_rfl) uH];kernel_rfl
theorem m_:Slot "set_iterator" "__iter__" "set_iterator.__iter__":=.of (owner:="set_iterator") (n:="__iter__")
 (by rw[typeLookup_type,vP];kernel_rfl) (by decide+kernel) (by decide+kernel) (by decide+kernel) (by first|exact .inl (by decide+kernel)|exact .inr (by decide+kernel))
 (by rw[isSubtype_type];kernel_rfl)
theorem u3:entryFor table "set.__iter__"=some Builtin.«frozenset.__iter__»:=entryFor_alias (id':="frozenset.__iter__") (by kernel_rfl) rfl (by decide+kernel) (by kernel_rfl)
def sR(F:Value)(i:Nat)(a:Addr)(n ep:Nat):Obj:={cls:=.type "set_iterator",dict:=none,data:=.fields #[F,rawInt i,.ref a,rawInt n,rawInt ep],slots:=#[]}
section
variable {o:Obj}{es:Array (Int×Value)}{ep:Nat}{t:SetTable}
theorem kS{Q:Array (Int×Value)->Shared->Prop}(ho:s.heap.get? a=some o)(hd:o.data=.set es ep t)(hf:t.fits es.size=true)(h:Q es s):wpAny (model P w) A (setEntries a) Q E s:=by
 unfold setEntries;exact ak (jM ho hd hf (aC h))
theorem xa{α:Type}{R:α->Shared->Prop}(hh:A.handled=none)
  (h:∀h' (x:Addr),Shared.TypeIs {s with heap:=h'} (.ref x) "StopIteration"->(∀b o,s.heap.get? b=some o->h'.get? b=some o)->E (.ref x) {s with heap:=h'}):
  wpAny (model P w) A.in1 (newExc (.type "StopIteration") []) (fun x s'=>wpAny (model P w) A.in1 (raiseNew x:Sem α) R E s') E s:=by
 simp only[newExc,newTuple];refine ak (jL ?_ (by size_fits));refine ak (m:=firstArgMember _ _) (wpAny_of_eq (a:=Value.none) (by first|rfl|(simp only[firstArgMember];rfl)) ?_);refine jL ?_ (by size_fits)
 simp only[raiseNew];refine ak (wpAny_handled ?_)
 first|rw[show A.in1.handled=none from hh]|rw[hh]
 refine ak (aC (wpAny_throw ?_));exact h _ _ ⟨_,bG _ rfl,rfl⟩ fun b o e=>bh _ (bh _ e)
theorem z7{slot:Nat}{r:Option (Value×Nat)}{Q:Option Value->Shared->Prop}(hh:A.handled=none)(hit:s.heap.get? ae=some (sR (rawInt slot) i a es.size ep))(ho:s.heap.get? a=some o)(hd:o.data=.set es ep t)(hf:t.fits es.size=true)
  (hn:∀(B:Around) (E':Value->Shared->Prop) (Q':Option (Value×Nat)->Shared->Prop),Q' r s->wpAny (model P w) B (setNext a slot i ep) Q' E' s)
  (h1:∀x nx,r=some (x,nx)->∀h',h'.get? ae=some (sR (rawInt nx) (i+1) a es.size ep)->Heap.SameBut ae s.heap h'->Q (some x) {s with heap:=h'})
  (h2:r=none->∀h',Heap.ExtBut ae s.heap h'->Q none {s with heap:=h'}):wpAny (model P w) A (pyNext (.ref ae)) Q E s:=by
 have hT:s.TypeIs (.ref ae) "set_iterator":=⟨_,hit,rfl⟩;unfold pyNext;refine ak (rX (pC (name:=Str.ofString "__next__") hT dc (fZ dc hT lV ?_ (m9 _))));unfold Builtin.«set_iterator.__next__»;refine ak (m:=slotArgs "__next__" 0 _) (aC ?_);refine ak (wpAny_fieldsOf hit rfl ?_);dsimp only;refine ak (kS ho hd hf ?_);rw[ay (by simp)];show wpAny _ _ (setNext a (slot:Int).toNat (i:Int).toNat (ep:Int).toNat>>=_) _ _ s;rw[kA,kA,kA];refine ak (hn _ _ _ ?_);cases r with
 |none=>
  dsimp only;refine ak (wpAny_setField hit rfl (by show 2<5;decide) ?_);refine ak (xa hh fun h' x hx hk=>?_);refine ak (n5 (T:="StopIteration") (b:=true) hx isSubtype_stop ?_);exact aC (h2 rfl _ fun b o hb e=>hk b o ((nO s.heap ae _).extBut b o hb e))
 |some p=>
  obtain⟨x,nx⟩:=p;dsimp only;refine ak (iy hit (by show 0<5;decide) fun eE JC oU=>?_);refine ak (iy (s:={s with heap:=eE}) JC (by show 1<5;decide) fun oG V6 ug=>?_);exact aC ⟨_,rfl,aC (h1 x nx rfl oG V6 (oU.trans ug))⟩
end
theorem uh:entryFor table "set_iterator.__iter__"=some Builtin.«dict_keyiterator.__iter__»:=entryFor_alias (id':="dict_keyiterator.__iter__") (by kernel_rfl) rfl (by decide+kernel) (by kernel_rfl)
theorem u4(a:Value):argsOk "set_iterator.__iter__" ⟨[a],[]⟩:=by
 unfold argsOk;rw[signature?_of (id:="set_iterator.__iter__") (n:=['_', '_', 'r', 'e', 't', 'i', '_', '_']) (o:=['r', 'o', 't', 'a', 'r', 'e', 't', 'i', '_', 't', 'e', 's']) (by kernel_rfl) uH];kernel_rfl
theorem FE{α:Type}(next:Nat->Nat):∀(fuel k:Nat) (left:List α) (out:Array α),left.length=fuel->(pickOrder.go next fuel k left out).toList.Perm (out.toList++left)
 |0,k,left,out,h=>by
  rw[List.eq_nil_of_length_eq_zero h];simp[pickOrder.go]
 |fuel+1,k,left,out,h=>by
  have hi:next k % left.length<left.length:=Nat.mod_lt _ (by omega)
  unfold pickOrder.go;rw[bq hi];dsimp only;refine(FE next fuel (k+1) _ _ (by rw[Ba hi];omega)).trans ?_
  rw[Array.toList_push,vU];exact(qU left _ hi).append_left _
theorem G7{α:Type}(next:Nat->Nat)(xs:Array α):(pickOrder next xs).toList.Perm xs.toList:=by
 have h:=FE next xs.size 0 xs.toList #[] (by simp)
 unfold pickOrder;simpa using h
theorem RH:SetTable.below #[] 0=0:=rfl
theorem RI(j:Nat):SetTable.below #[j] 0=0:=by
 unfold SetTable.below;simp[SetTable.below.go]
theorem RJ(j:Nat):SetTable.below #[j] (j+1)=1:=by
 unfold SetTable.below;simp[SetTable.below.go]
section
variable {o:Obj}{es:Array (Int×Value)}{ep:Nat}{t:SetTable}
theorem z8{n e:Nat}(hit:s.heap.get? ae=some (sR aa i a n e))(h:Q (.ref ae) s):wpAny (model P w) A (pyIter (.ref ae)) Q E s:=by
 have hT:s.TypeIs (.ref ae) "set_iterator":=⟨_,hit,rfl⟩;refine wpAny_pyIter_slot hT m_ (fZ m_ hT uh ?_ (u4 _));show wpAny _ _ (ret (.ref ae)) _ _ s;exact aC ⟨_,rfl,"set_iterator",_,hT,dc.lookup,h⟩
theorem JD{tp:Addr}{m:Nat}{ot:Obj}{pl:Array Value}{Q:Option Value->Shared->Prop}(hh:A.handled=none)(hit:s.heap.get? ae=some (sR (.ref tp) i a es.size ep))(ho:s.heap.get? a=some o)(hd:o.data=.set es ep t)(hf:t.fits es.size=true)
  (htp:s.heap.get? tp=some ot) (YA:ot.data=.seq pl m)
  (h1:∀(p:Nat) (e:Int×Value),pl[i]?=some (rawInt p)->es[p]?=some e->∀h',h'.get? ae=some (sR (.ref tp) (i+1) a es.size ep)->Heap.SameBut ae s.heap h'->Q (some e.2) {s with heap:=h'})
  (h2:pl[i]?=none->∀h',Heap.ExtBut ae s.heap h'->Q none {s with heap:=h'})
  (ny:∀v,pl[i]?=some v->∃(p:Nat) (e:Int×Value),v=rawInt p/\es[p]?=some e):wpAny (model P w) A (pyNext (.ref ae)) Q E s:=by
 have hT:s.TypeIs (.ref ae) "set_iterator":=⟨_,hit,rfl⟩;unfold pyNext;refine ak (rX (pC (name:=Str.ofString "__next__") hT dc (fZ dc hT lV ?_ (m9 _))));unfold Builtin.«set_iterator.__next__»;refine ak (m:=slotArgs "__next__" 0 _) (aC ?_);refine ak (wpAny_fieldsOf hit rfl ?_);dsimp only;refine ak (kS ho hd hf ?_);rw[ay (by simp)];show wpAny _ _ (seqItems? (.ref tp)>>=_) _ _ s;refine ak (f_ htp YA ?_);dsimp only;rw[kA];cases hv:pl[i]? with
 |none=>
  dsimp only;refine ak (iy hit (by show 0<5;decide) fun eE JC oU=>?_);refine ak (iy (s:={s with heap:=eE}) JC (by show 2<5;decide) fun oG V6 ug=>?_);refine ak (xa hh fun h' x hx hk=>?_);refine ak (n5 (T:="StopIteration") (b:=true) hx isSubtype_stop ?_);exact aC (h2 hv _ fun b o hb e=>hk b o (ug.extBut b o hb (oU.extBut b o hb e)))
 |some v=>
  obtain⟨p,e,rfl,he⟩:=ny v hv;show wpAny _ _ (setNextDrawn a (p:Int).toNat (ep:Int).toNat>>=_) _ _ s;rw[kA,kA];refine ak ?_
  unfold setNextDrawn;refine ak (jM ho hd hf ?_);dsimp only;rw[ay (by simp),he];dsimp only;refine aC ?_
  refine ak (iy hit (by show 1<5;decide) fun eE JC oU=>?_);exact aC ⟨_,rfl,aC (h1 p e hv he eE JC oU)⟩
theorem pK{Q:Bool->Shared->Prop}(h:Q (A7 w) s):wpAny (model P w) A setsByText Q E s:=by
 unfold setsByText;exact ak (wpAny_askSetting (aC h))
theorem y6{slot:Nat}{Q:Option (Value×Nat)->Shared->Prop}(hb:A7 w=true)(ho:s.heap.get? a=some o)(hd:o.data=.set es ep t)(hf:t.fits es.size=true)
  (h:Q (((pickOrder (w.params.setOrder a ep) es)[i]?).map fun e=>(e.2,slot)) s):wpAny (model P w) A (setNext a slot i ep) Q E s:=by
 unfold setNext;refine ak (jM ho hd hf ?_);dsimp only;refine ak (pK ?_);rw[hb,au rfl];simp only[rG,cA,bJ];refine ak ?_
 unfold setWalk;refine ak (jM ho hd hf ?_);dsimp only;refine ak (pK ?_);rw[hb,au rfl];refine ak (wpAny_askSetting ?_);exact aC (aC h)
theorem BX{slot:Nat}{Q:Option (Value×Nat)->Shared->Prop}(hb:A7 w=false)(hl:t.led=true)(hz:es.size<=1)(ho:s.heap.get? a=some o)(hd:o.data=.set es ep t)(hf:t.fits es.size=true)
  (h:Q (match es[SetTable.below t.place slot]?,t.place[SetTable.below t.place slot]? with
   |some (_,x),some j=>some (x,j+1)
   |_,_=>none) s):wpAny (model P w) A (setNext a slot i ep) Q E s:=by
 unfold setNext;refine ak (jM ho hd hf ?_);dsimp only;refine ak (pK ?_);rw[hb];simp only[cA,bJ];refine lF (fun DM=>absurd (show(!t.plain&&decide (es.size>1))=true from DM) ?_) (fun _=>?_)
 ·rw[eC (p:=es.size>1) (by omega),wa];exact eR
 ·refine ak (m:=(if(!t.led&&!es.isEmpty)=true then unsupported "set:maker-not-led"else pure ())) ?_
  rw[hl,ay (by simp)];exact aC (aC h)
end
theorem one_place{xs:Array Nat}(h:xs.size=1):∃j,xs=#[j]:=by
 obtain⟨l⟩:=xs
 match l,h with
 |[j],_=>exact⟨j,rfl⟩
def DZ(p:Str×Tok):Value:=.str p.1 p.2
def strAt(l:List (Str×Tok))(i:Nat)(v:Value):Prop:=(l[i]?).map DZ=some v
section
variable {o:Obj}{es:Array (Int×Value)}{ep:Nat}{t:SetTable}
theorem vn{l:List (Str×Tok)}(he:es.toList=l.map (ent w))(p:Nat):es[p]?=(l[p]?).map (ent w):=by
 rw[<-mw,he,bA]
theorem G8(hb:A7 w=true)(hd:o.data=.set es ep t)(hf:t.fits es.size=true){l:List (Str×Tok)}(he:(pickOrder (w.params.setOrder a ep) es).toList=l.map (ent w))(hl:l.length=es.size)(gq:ae≠a)(A':Around)(hh:A'.handled=none):
  Walks P w A' ae [ae,a] [ae] l.length (strAt l) (fun i h=>h.get? ae=some (sR (rawInt 0) i a es.size ep)/\h.get? a=some o) where
 sub:=fun b hb=>by simp at hb;simp[hb]
 frame:=fun i h h' st k=>⟨k ae (by simp) _ st.1,k a (by simp) _ st.2⟩
 item:=fun i s Q E hi st hQ=>by
  have e1:(pickOrder (w.params.setOrder a ep) es)[i]?=(l[i]?).map (ent w):=by rw[<-mw,he,bA]
  rw[bq hi]at e1;refine z7 (slot:=0) (r:=some ((ent w l[i]).2,0)) hh st.1 st.2 hd hf (fun B E' Q' q=>y6 hb st.2 hd hf (by rw[e1];exact q)) (fun x nx e h' g sb=>?_) fun e=>nomatch e;cases e;exact hQ _ h' s.toks (by unfold strAt;rw[bq hi];rfl) ⟨g,(sb.2 a (Ne.symm gq)).trans st.2⟩ fun b o hb e=>sb.extBut b o (fun z=>hb (by simp[z])) e
 done:=fun s Q E st hQ=>by
  have e1:(pickOrder (w.params.setOrder a ep) es)[l.length]?=none:=by
   rw[<-mw,he,bA,iu.mpr (aQ _)];rfl
  refine z7 (slot:=0) (r:=none) hh st.1 st.2 hd hf (fun B E' Q' q=>y6 hb st.2 hd hf (by rw[e1];exact q)) (fun x nx e=>nomatch e) fun _ h' eb=>?_
  exact hQ h' s.toks fun b o hb e=>eb b o (fun z=>hb (by simp[z])) e
 self:=fun i s Q E st hQ=>z8 st.1 hQ
theorem JE(hb:A7 w=false)(hl:t.led=true)(hz:es.size<=1)(hd:o.data=.set es ep t)(hf:t.fits es.size=true){l:List (Str×Tok)}(he:es.toList=l.map (ent w))(gq:ae≠a)(A':Around)(hh:A'.handled=none):
  Walks P w A' ae [ae,a] [ae] l.length (strAt l) (fun i h=>h.get? ae=some (sR (rawInt (if i=0 then(0:Nat)else t.place.getD 0 0+1:Nat)) i a es.size ep)/\h.get? a=some o) where
 sub:=fun b hb=>by simp at hb;simp[hb]
 frame:=fun i h h' st k=>⟨k ae (by simp) _ st.1,k a (by simp) _ st.2⟩
 item:=fun i s Q E hi st hQ=>by
  have b9:l.length=es.size:=by have q:=cq List.length he;rw[fj,aK]at q;exact q.symm
  have hi0:i=0:=by omega
  subst hi0;have RK:t.place.size=es.size:=by
   simp only[SetTable.fits,bp,dZ]at hf;exact hf.1
  obtain⟨j,hj⟩:∃j,t.place=#[j]:=by
   exact one_place (by omega)
  have e0:es[0]?=some (ent w l[0]):=by rw[vn he,bq hi];rfl
  refine z7 (slot:=0) (r:=some ((ent w l[0]).2,j+1)) hh st.1 st.2 hd hf (fun B E' Q' q=>BX hb hl hz st.2 hd hf (by rw[hj,RI,e0];exact q)) (fun x nx e h' g sb=>?_) fun e=>nomatch e;cases e;refine hQ _ h' s.toks (by unfold strAt;rw[bq hi];rfl) ⟨?_,(sb.2 a (Ne.symm gq)).trans st.2⟩ fun b o hb e=>sb.extBut b o (fun z=>hb (by simp[z])) e;rw[hj];exact g
 done:=fun s Q E st hQ=>by
  have b9:l.length=es.size:=by have q:=cq List.length he;rw[fj,aK]at q;exact q.symm
  have RK:t.place.size=es.size:=by
   simp only[SetTable.fits,bp,dZ]at hf;exact hf.1
  have fin:∀slot:Nat,s.heap.get? ae=some (sR (rawInt slot) l.length a es.size ep)->es[SetTable.below t.place slot]?=none->wpAny (model P w) A' (pyNext (.ref ae)) Q E s:=fun slot hit e1=>by
   refine z7 (slot:=slot) (r:=none) hh hit st.2 hd hf (fun B E' Q' q=>BX hb hl hz st.2 hd hf (by rw[e1];exact q)) (fun x nx e=>nomatch e) fun _ h' eb=>?_
   exact hQ h' s.toks fun b o hb e=>eb b o (fun z=>hb (by simp[z])) e
  by_cases h0:l.length=0
  ·have hp0:t.place=#[]:=Array.eq_empty_of_size_eq_zero (by omega);refine fin 0 ?_ ?_
   ·have q:=st.1;rw[au h0]at q;exact q
   ·rw[hp0,RH,vn he,iu.mpr (by omega)];rfl
  ·obtain⟨j,hj⟩:∃j,t.place=#[j]:=by
    exact one_place (by omega)
   refine fin (j+1) ?_ ?_
   ·have q:=st.1;rw[ay h0,hj]at q;exact q
   ·rw[hj,RJ,vn he,iu.mpr (by omega)];rfl
 self:=fun i s Q E st hQ=>z8 st.1 hQ
theorem D0{tp:Addr}{ot:Obj}{ps:List Nat}{m:Nat}(hd:o.data=.set es ep t)(hf:t.fits es.size=true)(YA:ot.data=.seq (ps.map fun i=>rawInt (i:Nat)).toArray m){l l':List (Str×Tok)}(he:es.toList=l.map (ent w))(hl':∀i:Nat,l'[i]?=(ps[i]?).bind fun p=>l[p]?)(RK:∀p∈ps,p<l.length)
  (b9:l'.length=ps.length) (gq:ae≠a) (hnt:ae≠tp) (A':Around) (hh:A'.handled=none):
  Walks P w A' ae [ae,a,tp] [ae] l'.length (strAt l') (fun i h=>h.get? ae=some (sR (.ref tp) i a es.size ep)/\h.get? a=some o/\h.get? tp=some ot) where
 sub:=fun b hb=>by simp at hb;simp[hb]
 frame:=fun i h h' st k=>⟨k ae (by simp) _ st.1,k a (by simp) _ st.2.1,k tp (by simp) _ st.2.2⟩
 item:=fun i s Q E hi st hQ=>by
  have hip:i<ps.length:=by omega
  have ny:(ps.map fun i=>rawInt (i:Nat)).toArray[i]?=some (rawInt (ps[i]:Nat)):=by simp[hip]
  have hp:ps[i]<l.length:=RK _ (jO hip);have e1:es[ps[i]]?=some (ent w l[ps[i]]):=by rw[vn he,bq hp];rfl
  have e2:l'[i]?=some l[ps[i]]:=by rw[hl',bq hip];exact bq hp
  refine JD hh st.1 st.2.1 hd hf st.2.2 YA (fun p e h1 h2 h' g sb=>?_) (fun z=>by rw[ny]at z;cases z) (fun v hv=>?_)
  ·rw[ny]at h1;have hpp:((ps[i]:Nat):Int)=(p:Int):=by
    have q:=Option.some.inj h1;injection q
   have aad:ps[i]=p:=by omega
   subst aad;rw[e1]at h2;cases h2;exact hQ _ h' s.toks (by unfold strAt;rw[e2];rfl) ⟨g,(sb.2 a (Ne.symm gq)).trans st.2.1,(sb.2 tp (Ne.symm hnt)).trans st.2.2⟩ fun b o hb e=>sb.extBut b o (fun z=>hb (by simp[z])) e
  ·rw[ny]at hv;cases hv;exact⟨_,_,rfl,e1⟩
 done:=fun s Q E st hQ=>by
  have ny:(ps.map fun i=>rawInt (i:Nat)).toArray[l'.length]?=none:=by simp[b9]
  refine JD hh st.1 st.2.1 hd hf st.2.2 YA (fun p e h1=>by rw[ny]at h1;cases h1) (fun _ h' eb=>?_) (fun v hv=>by rw[ny]at hv;cases hv);exact hQ h' s.toks fun b o hb e=>eb b o (fun z=>hb (by simp[z])) e
 self:=fun i s Q E st hQ=>z8 st.1 hQ
theorem G9{ss:List Str}(hS:km w s.heap a ss)
  (hQ:∀(h':Heap) (d:Drawn) (ae:Addr) (fp:List Addr) (St:Nat->Heap->Prop) (l:List (Str×Tok)),(l.map (·.1)).Perm ss->(∀b o,s.heap.get? b=some o->h'.get? b=some o)->s.heap.objs.size<=ae->(∀b∈fp,b=a\/s.heap.objs.size<=b)->
   (∀A':Around,A'.handled=none->Walks P w A' ae fp [ae] l.length (strAt l) St)->St 0 h'->Q (.ref ae) {s with heap:=h',drawn:=d}):wpAny (model P w) A (pyIter (.ref a)) Q E s:=by
 obtain⟨o,es,ep,t,l,ho,hex,hd,he,hp,hn,hb,hf,hl,ny⟩:=id hS;have gn:a<s.heap.objs.size:=aO ho;have b9:l.length=es.size:=by have q:=cq List.length he;rw[fj,aK]at q;exact q.symm
 refine wpAny_pyIter_slot hS.typeIs PySem.F.slot_set_iter (fZ PySem.F.slot_set_iter hS.typeIs u3 ?_ (PySem.F.args_set_iter_1 _));unfold Builtin.«frozenset.__iter__»;refine ak (m:=Builtin.Frozenset.slot0 "__iter__" _) (aC ?_);refine ak ?_
 unfold Builtin.Frozenset.sizeOf;refine ak (kS ho hd hf (aC ?_));refine ak ?_
 unfold setDrawn;refine ak (jM ho hd hf ?_);dsimp only;refine ak (pK (aC ?_));refine lF (fun hdr=>?_) (fun hdr=>?_)
 ·
  refine ak (qg _ _ _ _ (rH ..) fun ps d RK=>?_);have hz:((ps.map fun(i:Nat)=>rawInt i)).length<=sizeLine:=by
   rw[aK,RK.length_eq,rH];exact wb hb
  refine ak (wpAny_newTuple (hsz:=hz) ?_);have O6:(s.heap.push {cls:=.type "tuple",data:=.seq (ps.map fun(i:Nat)=>rawInt i).toArray}).get? a=some o:=bh _ ho;have QM:(s.heap.push {cls:=.type "tuple",data:=.seq (ps.map fun(i:Nat)=>rawInt i).toArray}).objs.size=s.heap.objs.size+1:=iK ..;refine ak (wpAny_setEpoch_of O6 hd hf ?_);refine ak (jL ?_);refine aC ⟨_,rfl,"set_iterator",_,⟨_,bG _ rfl,rfl⟩,dc.lookup,?_⟩;have V7:∀p∈ps,p<l.length:=fun p hm=>by
   have q:=rP.mp (RK.mem_iff.mp hm);omega
  have w_:(ps.map fun p=>l.getD p (Str.empty,0)).Perm l:=by
   have q:=RK.map fun p=>l.getD p (Str.empty,0);have e:(List.range es.size).map (fun p=>l.getD p (Str.empty,0))=l:=by
    rw[<-b9];refine List.ext_getElem (by simp) fun i h1 h2=>?_
    simp[h2]
   rw[e]at q;exact q
  refine hQ _ d _ [_,a,s.heap.objs.size] _ (ps.map fun p=>l.getD p (Str.empty,0)) ((w_.map _).trans hp) (fun b o e=>bh _ (bh _ e)) (by rw[QM];exact oj _) (fun b hm=>?_)
   (fun A' hA=>D0 (ot:={cls:=.type "tuple",data:=.seq (ps.map fun(i:Nat)=>rawInt i).toArray}) (ps:=ps) hd hf rfl he (fun i=>?_) V7 (aK ..) ?_ ?_ A' hA)
   ⟨bG _ rfl,bh _ O6,bh _ (bG _ rfl)⟩
  ·simp only[aV,cc,cf]at hm;rcases hm with rfl|rfl|rfl
   ·right;rw[QM];exact oj _
   ·left;rfl
   ·right;exact aQ _
  ·rw[bA];cases e:ps[i]? with
   |none=>rfl
   |some p=>
    have ny:=V7 p (dm e);show some (l.getD p (Str.empty,0))=l[p]?
    rw[dD,bq ny];rfl
  ·rw[QM];exact cU (kz gn)
  ·rw[QM];exact lC _
 ·refine ak (aC ?_);refine ak (wpAny_setEpoch_of ho hd hf ?_);refine ak (jL ?_);refine aC ⟨_,rfl,"set_iterator",_,⟨_,bG _ rfl,rfl⟩,dc.lookup,?_⟩;have yr:∀b∈[s.heap.objs.size,a],b=a\/s.heap.objs.size<=b:=fun b hm=>by
   simp only[aV,cc,cf]at hm;rcases hm with rfl|rfl
   ·exact .inr (aQ _)
   ·exact .inl rfl
  have gq:s.heap.objs.size≠a:=cU gn;cases YB:A7 w with
  |true=>
   have hpp:=G7 (w.params.setOrder a ep) es;rw[he]at hpp;obtain⟨l2,e2,p2⟩:=w8 hpp;exact hQ _ s.drawn _ [_,a] _ l2 ((p2.map _).trans hp) (fun b o e=>bh _ e) (aQ _) yr (fun A' hA=>G8 YB hd hf e2 (p2.length_eq.trans b9) gq A' hA) ⟨bG _ rfl,bh _ ho⟩
  |false=>
   have YC:es.size<=1:=by
    by_cases hz:es.size<=1
    ·exact hz
    ·exfalso;refine hdr ?_
     show(!A7 w&&(!t.plain&&decide (es.size>1)))=true;rw[YB,ny (by omega),iz (by omega)]
     rfl
   have G6:t.led=true:=hl.resolve_left (by rw[YB];exact eR);exact hQ _ s.drawn _ [_,a] _ l hp (fun b o e=>bh _ e) (aQ _) yr (fun A' hA=>JE YB G6 YC hd hf he gq A' hA) ⟨bG _ rfl,bh _ ho⟩
end
def dG(ss xs:List Str):List Str:=xs.foldl fL ss
theorem xf(ss:List Str)(x:Str):(fL ss x).length<=ss.length+1:=by
 unfold fL;split
 ·omega
 ·simp
section
variable {prog:Program}{R:Result->Shared->Prop}{I:Addr}{fp:List Addr}{n:Nat}{P:Nat->Value->Prop}{St:Nat->Heap->Prop}
theorem km.keep {h h':Heap}{ss:List Str}(x:km w h a ss)(k:∀o,h.get? a=some o->h'.get? a=some o):km w h' a ss:=by
 obtain⟨o,es,ep,t,l,ho,r⟩:=x;exact⟨o,es,ep,t,l,k o ho,r⟩
theorem JF(W:Walks prog w A.in1 I fp [I] n P St)(YD:ae∉fp)(val:Nat->Str)(Nh:∀i v,P i v->∃t,v=Value.str (val i) t)(hb:n+1<scanBound):
  ∀(k i:Nat) (s:Shared) (ss:List Str),n - i=k->i<=n->St i s.heap->km w s.heap ae ss->ss.length<=i->
   (∀h' tk,(∀b o,b≠ae->b≠I->s.heap.get? b=some o->h'.get? b=some o)->km w h' ae (dG ss ((List.range' i k).map val))->R (.ok (.ret .none)) {s with heap:=h',toks:=tk})->
   codeAny (model prog w) A (.builtin "set.update.loop" ⟨[.ref ae,.ref I],[]⟩) R s:=by
 have hIf:I∈fp:=W.sub I (by simp);have LU:ae≠I:=fun e=>YD (e▸hIf);intro k
 induction k with
 |zero=>
  intro i s ss hk hi bQ hS _ hR;have kl:i=n:=by omega
  subst kl;refine eV F.entry_set_update_loop ?_
  rw[fV vY _];show wpAny _ A.in1 (pyNext (.ref I)>>=_) _ _ s;refine ak (W.done s _ _ bQ fun h' tk kk=>?_);show wpAny _ A.in1 (ret Value.none) _ _ _;exact aC (hR h' tk (fun b o _ h2 e=>kk b o (by simpa using h2) e) (hS.keep fun o e=>kk ae o (by simpa using LU) e))
 |succ k ih=>
  intro i s ss hk hi bQ hS hl hR;have gn:i<n:=by omega
  refine eV F.entry_set_update_loop ?_
  rw[fV vY _];show wpAny _ A.in1 (pyNext (.ref I)>>=_) _ _ s;refine ak (W.item i s _ _ gn bQ fun v h1 tk1 hP JG kk=>?_);obtain⟨u,rfl⟩:=Nh i v hP;have V4:km w h1 ae ss:=hS.keep fun o e=>kk ae o (by simpa using LU) e;show wpAny _ A.in1 (holding [Value.str (val i) u] (setAdd ae (.str (val i) u))>>=_) _ _ _;refine ak (eD ?_);unfold setAdd;refine eD ?_
  refine ak ((PySem.strKind prog w).pyHash (k:=val i) (by simp[PySem.strKind,Value.isStrOf]) ?_);refine aaa (s:={s with heap:=h1,toks:=tk1+1}) V4 (by omega) fun b h2 sb hS2=>?_
  have hk2:∀b o,b≠ae->h1.get? b=some o->h2.get? b=some o:=fun b o hb e=>(sb.2 b hb).trans e;refine aC ⟨f' vY _,ih (i+1) _ (fL ss (val i)) (by omega) gn (W.frame _ _ _ JG fun b hb o e=>hk2 b o (fun z=>YD (z▸hb)) e) hS2 (by have:=xf ss (val i);omega) fun h' tk kk' JB=>?_⟩;exact hR h' tk (fun b o DU Ng e=>kk' b o DU Ng (hk2 b o DU (kk b o (by simpa using Ng) e))) JB
end
section
section
variable {prog:Program}
theorem _root_.PySem.JH (a:Value){Q₁:Value->Shared->Prop}
  (h:Q₁ (.ref s.heap.objs.size) {s with heap:=s.heap.push {cls:=.type "set",dict:=none,data:=.set #[] 0 (.fresh 0 0 (!L2.A7 w))}}):
  codeAny (model prog w) A (.call (.builtin "set.__new__") ⟨[.type "set",a],[]⟩) (wants Q₁ E) s:=by
 refine codeAny_of_tree ?_
 show wpAny _ A.in1 (do checkBuiltinCall "set.__new__" ⟨[.type "set",a],[]⟩;again (.builtin "set.__new__" ⟨[.type "set",a],[]⟩)) _ _ s;refine ak (wpAny_of_eq (F.newCall_set_1 a) (aC ⟨f' F.plain_set_new _,eV F.entry_set_new ?_⟩));rw[fV F.plain_set_new _];unfold Builtin.«set.__new__» Builtin.Frozenset.newClass;have PB:=sub_set_self;obtain⟨hp,g,d,tk,os⟩:=s;dsimp only
 wp_walk
 refine wpAny_askSetting (aC ?_);dsimp only;simp only[newObj];refine ak (wpAny_alloc (aC ?_));exact aC h
set_option maxHeartbeats 3200000 in
theorem _root_.PySem.JI {l:Addr}{a8:Array Value}{val:Nat->Str}(hh:A.handled=none)(hl:s.heap.IsList l a8)(hv:∀(i:Nat) (v:Value),a8[i]?=some v->∃t,v=.str (val i) t)(hb:a8.size+1<scanBound)
  (h:∀(h':Heap) (tk:Nat),L2.km w h' s.heap.objs.size (L2.dG [] ((List.range' 0 a8.size).map val))->(∀b o,b<s.heap.objs.size->s.heap.get? b=some o->h'.get? b=some o)->Q (.ref s.heap.objs.size) {s with heap:=h',toks:=tk}):
  wpAny (model prog w) A (call (.type "set") [.ref l]) Q E s:=by
 obtain⟨c,tl,aa3⟩:=iM.mro;have aaX:=iM.made;have PB:=iM.sub;refine oo (codeAny_of_tree ?_);show wpAny _ _ (callAny (.type "set") _) _ _ _;refine aC ⟨Code.quiet_builtin _ (by decide+kernel),eV F.entry_type_call ?_⟩;rw[Around.under_plain (weight_type_call_type "set" [.ref l] []) rfl];have h1:=iM.notType;have h2:=iM.canCreate;have hct:=F.typeCall_set_1 (.ref l)
 repeat(any_goals (first|assumption|wp_step))
 refine gH (JH (.ref l) (E:=E) (Q₁:=fun obj cC=>obj=.ref s.heap.objs.size/\cC={s with heap:=s.heap.push {cls:=.type "set",dict:=none,data:=.set #[] 0 (.fresh 0 0 (!L2.A7 w))}}) ⟨rfl,rfl⟩) fun r cC hr=>?_
 cases r with
 |error e=>exact hr
 |ok fl=>
  cases fl with
  |ret obj=>
   obtain⟨rfl,rfl⟩:=hr;generalize Ni:({cls:=.type "set",dict:=none,data:=.set #[] 0 (.fresh 0 0 (!L2.A7 w))}:Obj)=ob;have hS:(s.heap.push ob).get? s.heap.objs.size=some ob:=bG _ (by rw[<-Ni];rfl);have hT:Shared.TypeIs {s with heap:=s.heap.push ob} (.ref s.heap.objs.size) "set":=⟨_,hS,by rw[<-Ni]⟩;have hli:=iM.init.lookup;have hbi:=iM.init.bind (.ref s.heap.objs.size)
   repeat(any_goals (first|assumption|wp_step))
   refine gH (vW (R:=wants (fun r se=>r=.none/\∃h' tk,se={s with heap:=h',toks:=tk}/\L2.km w h' s.heap.objs.size (L2.dG [] ((List.range' 0 a8.size).map val))/\
     (∀b o,b<s.heap.objs.size->s.heap.get? b=some o->h'.get? b=some o)) E) iM.init.plain F.entry_set_init (check_set_init_1 hT ?_)) fun aae se JJ=>?_
   ·obtain⟨ol,O8,E5,nl,T2⟩:=hl;obtain⟨aa4,V8,aaY,RL⟩:=ol;simp only at E5 T2;subst E5;subst T2;have aaf:(s.heap.push ob).get? l=some {cls:=.type "list",dict:=V8,data:=.seq a8 nl,slots:=RL}:=bh _ O8;have aa5:=F.sub_list_set;have aa6:=F.sub_list_frozenset;have gq:(Value.type "list"==Value.type "dict")=false:=by decide
    have HY:(s.heap.push ob).IsList l a8:=⟨_,aaf,rfl,nl,rfl⟩;subst Ni;unfold Builtin.«set.__init__» noKeywords Builtin.Frozenset.updateFrom;generalize hPI:pyIter=PI
    wp_walk
    subst hPI;refine lE HY ?_
    refine ak (wpAny_runValue ?_);have hlS:l<s.heap.objs.size:=aO O8;have hh3:A.in1.in1.in1.handled=none:=by simp[hh]
    generalize hsz:(s.heap.push {cls:=.type "set",dict:=none,data:=.set #[] 0 (.fresh 0 0 (!L2.A7 w))}).objs.size=I at*;have RM:I=s.heap.objs.size+1:=by rw[<-hsz,iK]
    have aag:l≠I:=by rw[RM];exact bu (kz hlS)
    have YD:s.heap.objs.size∉[I,l]:=by
     simp only[aV,cc,cf,not_or];exact⟨by rw[RM];exact bu (nR _),cU hlS⟩
    refine L2.JF (Walks.list hh3 I l aag a8) YD val hv hb (a8.size - 0) 0 _ [] (by omega) (dF _) ⟨⟨_,by rw[<-hsz];exact bG _ rfl,rfl,rfl⟩,HY.push _⟩ ?hS0 (dF _) ?hR
    case hS0=>
     refine⟨_,#[],0,.fresh 0 0 (!L2.A7 w),[],bh _ hS,⟨rfl,rfl,rfl⟩,rfl,rfl,List.Perm.refl _,List.nodup_nil,by show 0<scanBound;decide,rfl,?_,fun z=>absurd rfl z⟩;show L2.A7 w=true\/(!L2.A7 w)=true;cases L2.A7 w<;>simp
    case hR=>
     intro h' tk hk JB;show wpAny _ _ _ _ _ _;refine aC ?_
     show wpAny _ _ (ret Value.none) _ _ _;refine aC ⟨rfl,h',tk,rfl,JB,fun b o hb e=>?_⟩;exact hk b o (bu hb) (by rw[RM];exact bu (kz hb)) (bh _ (bh _ e))
   ·cases aae with
    |error e=>exact JJ
    |ok V9=>
     cases V9 with
     |ret r=>
      obtain⟨rfl,h',tk,rfl,JB,Nj⟩:=JJ
      repeat(any_goals (first|assumption|wp_step))
      exact h _ _ JB Nj
     |_=>exact JJ.elim
  |_=>exact hr.elim
end
end
open PySem.Calls
section
variable {prog:Program}{ss:List Str}
theorem JK{Q:Bool->Shared->Prop}(hT:s.TypeIs (.ref a) "set")(h:Q false s):wpAny (model prog w) A (Builtin.List.listLengthHint (.ref a)) Q E s:=by
 unfold Builtin.List.listLengthHint;refine ak (wpAny_specialOf hT PySem.F.slot_set_len.lookup ?_);generalize bz:("set.__len__":String)=id0
 wp_delta
 rw[show splitId id0=some ("set","__len__")from by subst bz;decide+kernel];subst bz;refine ak (n5 (T:="set") (b:=true) hT (by rw[isSubtype_type];kernel_rfl) ?_);refine lF (fun DM=>absurd DM (by decide)) (fun _=>?_);refine lF (fun _=>?_) (fun DM=>absurd (by decide+kernel) DM);exact ak (rY hT (aC h))
theorem BY{R:Result->Shared->Prop}(hh:A.handled=none)(hS:km w s.heap a ss)(L:Addr)(hLa:L≠a)(res:Value)(hL:s.heap.get? L=some {cls:=.type "list",data:=.seq #[] 0})
  (hR:∀h' tk d ju c' l,(l.map (·.1)).Perm ss->(∀b o,b≠L->s.heap.get? b=some o->h'.get? b=some o)->h'.get? L=some {cls:=.type "list",dict:=none,data:=.seq ju c',slots:=#[]}->ItemsOf (strAt l) ju l.length->
   R (.ok (.ret res)) {s with heap:=h',toks:=tk,drawn:=d}) (hn:ss.length<=sizeLine):
  wpAny (model prog w) A.in1 (Builtin.List.listExtendWith (.ref L) (.ref a) res) (fun fin s'=>match fin with|.done f=>R (.ok f) s'|.again c'=>c'.quiet=true/\codeAny (model prog w) A c' R s') (fun e s'=>R (.error e) s') s:=by
 have V_:L<s.heap.objs.size:=aO hL;unfold Builtin.List.listExtendWith;refine ak (rY (T:="set") hS.typeIs ?_);have h1:Builtin.List.listSameRef (.ref L) (.ref a)=false:=by simp[Builtin.List.listSameRef,hLa]
 have h2:(Value.type "set"==Value.type "list")=false:=by decide
 have h3:(Value.type "set"==Value.type "tuple")=false:=by decide
 simp only[h1,h2,h3,rR,cA,bJ];refine ak (G9 hS fun eE d I fp St l hp hk hI yr W st=>?_);have b9:l.length=ss.length:=by have q:=hp.length_eq;rw[aK]at q;exact q
 have V4:Shared.TypeIs {s with heap:=eE,drawn:=d} (.ref a) "set":=by
  obtain⟨o,ho,hc⟩:=hS.typeIs;exact⟨o,hk _ _ ho,hc⟩
 have hLf:L∉fp:=fun m=>by
  rcases yr L m with e|e
  ·exact hLa e
  ·exact absurd (cy V_ e) (dH _)
 have hLI:L≠I:=bu (cy V_ hI);have Ug:=hk _ _ hL;have key:∀(h:Heap) (c₁ tk:Nat),St 0 h->(∀b o,b≠L->s.heap.get? b=some o->h.get? b=some o)->h.get? L=some {cls:=.type "list",data:=.seq #[] c₁}->
   codeAny (model prog w) A (.builtin "list.extend.loop" ⟨[.ref L,.ref I,res],[]⟩) R {s with heap:=h,toks:=tk,drawn:=d}:=by
  intro h c₁ tk bQ hkk V';refine codeAny_extend_loopS (W A.in1 hh).toS (by omega) L hLf res l.length 0 _ #[] c₁ rfl (dF _) bQ V' (ItemsOf.nil _) fun s' ju c' hm BZ qV=>?_
  rw[Moved.eq_with hm];refine hR s'.heap s'.toks d ju c' l hp (fun b o hb e=>hm.heap b o (fun G5=>?_) (hkk b o hb e)) BZ qV;rcases aV.mp G5 with e'|G5
  ·exact hb e'
  ·exact absurd (cy (aO e) hI) (by rw[cE.mp G5];exact dH _)
 refine ak (eD (JK V4 ?_));refine lF (fun _=>?_) (fun _=>aC ⟨f' PySem.F.plain_extend_loop _,key _ 0 _ st (fun b o _ e=>hk b o e) Ug⟩);refine ak (eL ?_);refine ak ?_
 show wpAny _ _ (updateSeq L (·.push .none)>>=fun _=>updateSeq L (·.pop)) _ _ _;refine ak (n8 Ug rfl ?_);have O9:=rA (Obj.mapSeq (·.push Value.none)) Ug rfl;refine n8 (hz:=by seq_fits) O9 rfl ?_
 have Wa:=rA (Obj.mapSeq (·.pop)) O9 rfl;refine aC ⟨f' PySem.F.plain_extend_loop _,key _ _ _ ?_ (fun b o hb e=>?_) Wa⟩
 ·refine(W A.in1 hh).frame 0 _ _ st fun b hb o e=>?_
  have hbL:b≠L:=fun z=>hLf (z▸hb);exact(mv _ _ (Ne.symm hbL)).trans ((mv _ _ (Ne.symm hbL)).trans e)
 ·exact(mv _ _ (Ne.symm hb)).trans ((mv _ _ (Ne.symm hb)).trans (hk b o e))
theorem z9{R:List Value->Shared->Prop}(hh:A.handled=none)(hS:km w s.heap a ss)(hn:ss.length<=sizeLine)
  (h:∀(h':Heap) (tk:Nat) (d:Drawn) (l:List (Str×Tok)),(l.map (·.1)).Perm ss->(∀b o,s.heap.get? b=some o->h'.get? b=some o)->s.heap.objs.size<=h'.objs.size->R (l.map DZ) {s with heap:=h',toks:=tk,drawn:=d}):wpAny (model prog w) A (collect (.ref a)) R E s:=by
 have gn:a<s.heap.objs.size:=by obtain⟨o,ho,_⟩:=hS.typeIs;exact aO ho
 have a8:∀(l:List (Str×Tok)) (acc:Array Value),ItemsOf (strAt l) acc l.length->acc.toList=l.map DZ:=fun l acc hi=>by
  refine nP fun i=>?_
  rw[bA,mw];cases e:acc[i]? with
  |none=>
   have h1:acc.size<=i:=Array.getElem?_eq_none_iff.mp e;rw[hi.1]at h1;rw[iu.mpr h1];rfl
  |some v=>exact(hi.2 i v e).symm
 unfold collect;refine ak (wpAny_runValue (eV entry_proto_collect' ?_));rw[fV A_ _];show wpAny _ A.in1 (newList []>>=fun l=>again (.builtin "list.__iadd__" ⟨[l,.ref a],[]⟩)) _ _ s;refine ak (jL ?_);refine aC ⟨f' ri _,eV entry_list_iadd' ?_⟩;rw[fV ri _];have hL:(s.heap.push {cls:=.type "list",data:=.seq ([]:List Value).toArray}).get? s.heap.objs.size=some {cls:=.type "list",data:=.seq #[]}:=bG _ rfl;show wpAny _ A.in1 (Builtin.List.listExtendWith (.ref s.heap.objs.size) (.ref a) (.ref s.heap.objs.size)) _ _ _;have key:=BY (prog:=prog) (A:=A) (s:={s with heap:=s.heap.push {cls:=.type "list",data:=.seq ([]:List Value).toArray}}) (ss:=ss)
  (R:=fun(q:Result) (s':Shared)=>∃(h':Heap) (tk:Nat) (d:Drawn) (ju:Array Value) (c':Nat) (l:List (Str×Tok)),q=.ok (.ret (.ref s.heap.objs.size))/\s'={s with heap:=h',toks:=tk,drawn:=d}/\
   (l.map (·.1)).Perm ss/\(∀b o,s.heap.get? b=some o->h'.get? b=some o)/\h'.get? s.heap.objs.size=some {cls:=.type "list",dict:=none,data:=.seq ju c',slots:=#[]}/\ItemsOf (strAt l) ju l.length)
  hh (hS.keep fun o e=>bh _ e) s.heap.objs.size (cU gn) (.ref s.heap.objs.size) hL
  (fun h' tk d ju c' l hp hk BZ qV=>⟨h',tk,d,ju,c',l,rfl,rfl,hp,fun b o e=>hk b o (bu (aO e)) (bh _ e),BZ,qV⟩) hn
 refine dq key (fun fin s' x=>?_) fun e s' x=>?_
 ·cases fin with
  |done f=>
   obtain⟨h',tk,d,ju,c',l,e,rfl,hp,hk,BZ,qV⟩:=x;cases e;show wpAny _ A (load s.heap.objs.size>>=_) _ _ _;refine ak (om BZ ?_);refine aC ?_
   rw[a8 l ju qV];exact h h' tk d l hp hk (cT (aO BZ))
  |again c₁=>
   refine⟨x.1,gH x.2 fun q se y=>?_⟩;obtain⟨h',tk,d,ju,c',l,rfl,rfl,hp,hk,BZ,qV⟩:=y;show wpAny _ A (load s.heap.objs.size>>=_) _ _ _;refine ak (om BZ ?_);refine aC ?_
   rw[a8 l ju qV];exact h h' tk d l hp hk (cT (aO BZ))
 ·obtain⟨_,_,_,_,_,_,e',_⟩:=x;cases e'
theorem xg:∀l:List (Str×Tok),StrsAre (l.map DZ) (l.map (·.1))
 |[]=>.nil
 |p::r=>.cons p.1 p.2 (xg r)
theorem B5(hh:A.handled=none)(hS:km w s.heap a ss)(D3:ss.length<64)
  (h:∀h' tk d D out n A8,(∀b o,s.heap.get? b=some o->h'.get? b=some o)->s.heap.objs.size<=D->h'.get? D=some {cls:=.type "list",data:=.seq out n}->StrsAre out.toList A8->A8.Perm ss->sortedS A8=true->
   Q (.ref D) {s with heap:=h',toks:=tk,drawn:=d}):wpAny (model prog w) A (call (.builtin "sorted") [.ref a]) Q E s:=by
 have hz:ss.length<=sizeLine:=by rw[c_];omega
 refine call_function_entry kind_sorted plain_sorted entry_sorted (args_sorted1 _) ?_
 unfold Builtin.«sorted»;refine ak (m:=checkCount "sorted" 1 1 _) (aC ?_);refine ak (z9 (A:=A.in1) hh hS hz fun eE tk d l hp hk hle=>?_);have b9:l.length=ss.length:=by have q:=hp.length_eq;rw[aK]at q;exact q
 refine ak (oh ?_ (by show(l.map DZ).length<=_;rw[aK];omega));have RN:=xg l;have EL:(eE.push (seqObj "list" (l.map DZ).toArray 0)).get? eE.objs.size=some (seqObj "list" (l.map DZ).toArray 0):=bG _ rfl;refine ak (eD (fZ slot_list_sort ⟨_,EL,rfl⟩ entry_list_sort
  (list_sort_treeK strKind_oneLt EL RN.keysOf (fun aah aai c8 e=>keyKind_strs (by rw[<-e];exact RN)) (by rw[aK];omega) fun wk a1 a2=>⟨_,rfl,?_⟩) (args_list_sort _)))
 refine aC ⟨_,rfl,?_⟩;obtain⟨A8,q1,q2,q3⟩:=sorted_out_str RN a1 a2;obtain⟨e,he⟩:=sortedHeap_at (out:=(arrOf wk).map (·.2)) EL;refine h _ tk d eE.objs.size ((arrOf wk).map (·.2)) e A8 (fun b o q=>?_) hle he q1 (q2.trans hp) q3;have hb:=hk b o q;have gn:=aO hb;rw[sortedHeap_old (bu gn) (by rw[iK];exact kz gn)];exact bh _ hb
end
def B6(a b:Str):Bool:=!decide (b.cps.toList<a.cps.toList)
theorem vo{b:Str}:B6 x b=true↔x.cps.toList<=b.cps.toList:=by
 unfold B6;rw[nQ,vJ];exact Iff.rfl
theorem y8{b c:Str}(h1:B6 x b=true)(h2:B6 b c=true):B6 x c=true:=by
 rw[vo]at*;exact List.le_trans h1 h2
theorem G_(a b:Str):(B6 a b||B6 b a)=true:=by
 rw[Bool.or_eq_true,vo,vo];exact List.le_total _ _
theorem JL{b:Str}(h1:B6 x b=true)(h2:B6 b x=true):x=b:=by
 rw[vo]at*;exact ext_toList (List.le_antisymm h1 h2)
def cx(ss:List Str):List Str:=ss.mergeSort B6
theorem dB(ss:List Str):(cx ss).Perm ss:=List.mergeSort_perm ss _
theorem qW(ss:List Str):(cx ss).Pairwise (fun a b=>B6 a b=true):=List.pairwise_mergeSort (le:=B6) (fun a b c h1 h2=>y8 h1 h2) G_ ss
theorem uI:∀(p:Str) (l:List Str),risingS p l=true->(p::l).Pairwise (fun a b=>B6 a b=true)
 |p,[],_=>List.pairwise_singleton _ _
 |p,x::r,h=>by
  have h':(!ltCps x.cps.toList p.cps.toList&&risingS x r)=true:=h;rw[bp,ltCps_eq]at h';have ih:=uI x r h'.2;have hp:B6 p x=true:=h'.1;refine List.pairwise_cons.mpr ⟨fun y hy=>?_,ih⟩;rcases aV.mp hy with rfl|hy
  ·exact hp
  ·exact y8 hp (List.rel_of_pairwise_cons ih hy)
theorem B7:∀l:List Str,sortedS l=true->l.Pairwise (fun a b=>B6 a b=true)
 |[],_=>List.Pairwise.nil
 |x::r,h=>uI x r h
theorem uJ{b:List Str}(hp:ps.Perm b)(ha:ps.Pairwise (fun ps b=>B6 ps b=true))(hb:b.Pairwise (fun ps b=>B6 ps b=true)):ps=b:=
 hp.eq_of_pairwise (fun x y _ _ h1 h2=>JL h1 h2) ha hb
theorem sS{ss:List Str}(hp:ps.Perm ss)(hs:sortedS ps=true):ps=cx ss:=uJ (hp.trans (dB ss).symm) (B7 _ hs) (qW ss)
theorem B8{b:List Str}(h:ps.Perm b):cx ps=cx b:=uJ ((dB ps).trans (h.trans (dB b).symm)) (qW ps) (qW b)
def Ha(w:World)(a:Addr)(ss:List Str):HO:=.ext fun h=>km w h a ss
theorem pL:∀{vs:List Value} {ss:List Str},StrsAre vs ss->Vals (ss.map V.str) vs
 |_,_,.nil=>.nil
 |_,_,.cons y t r=>.cons ⟨t,rfl⟩ (pL r)
theorem ui:∀{ss:List Str} {vs:List Value},Vals (ss.map V.str) vs->StrsAre vs ss
 |[],_,.nil=>.nil
 |y::r,_,.cons r1 r2=>by
  obtain⟨t,rfl⟩:=(show∃t,_=Value.str y t from r1);exact .cons y t (ui r2)
theorem Hb(ts:List Str):(List.range' 0 ts.length).map (fun i=>ts.getD i Str.empty)=ts:=by
 refine List.ext_getElem (by simp) fun i h1 h2=>?_
 simp[h2]
theorem Inv.Nk (I:Inv X U Z H s)(d:Drawn):Inv X U Z H {s with drawn:=d}:=
 I.step (h':=s.heap) (H':=H) (g':=s.gens) (t':=s.toks) (d':=d) (ch:=[]) (fun _ z=>nomatch z) (fun b o _ _ _ e _=>e) (fun b o _ _ _ e _=>⟨o.slots,e⟩) (fun b o _ _ n=>n) (fun b o _ e=>⟨o,e⟩) (fun _ _ e=>e) (fun _ _ _ e=>e)
   (fun b ps e=>⟨#[],by rw[e];simp⟩) (fun m hm=>hm) I.cp I.bare
theorem Hc(hc:X.calm=true):fG X (.type "set") (fun xs H Q=>∃(p:Addr) (ts:List Str),xs=[.ref p]/\kB X.K H p (ts.map V.str)/\ts.length+1<scanBound/\∀a,H a=none->Q (.ref a) (upd H a (Ha X.w a (dG [] ts)))):=by
 intro U s Z H xs us Q I r h;obtain⟨p,ts,rfl,hl,hb,q⟩:=h;obtain⟨u,rfl,ru⟩:=vals1 r;cases(show u=Value.ref p from ru);obtain⟨bE,rv,pl,hz⟩:=I.list hl;have b9:bE.length=ts.length:=by have e:=rv.length;rw[aK]at e;exact e.symm
 refine JI (val:=fun i=>ts.getD i Str.empty) (I.ok.hd hc) pl.isList (fun i v hv=>?_) (by rw[cn,b9];exact hb) fun h' tk hS hk=>?_
 ·have IF:bE[i]?=some v:=by simpa using hv
  have hi:i<ts.length:=by rw[<-b9];exact(fi.mp IF).1
  obtain⟨u,hu,ru⟩:=rv.get (i:=i) (x:=V.str ts[i]) (by rw[bA,bq hi];rfl);rw[IF]at hu;cases hu;obtain⟨t,rfl⟩:=(show∃t,v=Value.str ts[i] t from ru);exact⟨t,by rw[dD,bq hi];rfl⟩
 ·have e0:bE.toArray.size=ts.length:=by rw[cn];exact b9
  rw[e0,Hb]at hS;have hf:H s.heap.objs.size=none:=I.fresh;refine⟨.ref s.heap.objs.size,_,I.laid (o:=Ha X.w s.heap.objs.size (dG [] ts)) (fun b o e=>hk b o (aO e) e) (aQ _) ⟨hS,?_,fun h1 h2 x k=>km.keep x k⟩,rfl,q _ hf⟩;obtain⟨o,_,_,_,_,ho,_⟩:=hS;exact⟨o,ho⟩
theorem xh(hc:X.calm=true):fG X (.builtin "sorted") (fun xs H Q=>∃(a:Addr) (ss:List Str),xs=[.ref a]/\H a=some (Ha X.w a ss)/\ss.length<64/\∀D,H D=none->Q (.ref D) (upd H D (.lst ((cx ss).map V.str)))):=by
 intro U s Z H xs us Q I r h;obtain⟨a,ss,rfl,ha,D3,q⟩:=h;obtain⟨u,rfl,ru⟩:=vals1 r;cases(show u=Value.ref a from ru);obtain⟨hS,_,_⟩:=(show cu X.prog X.w H s.heap a (.ext fun h=>km X.w h a ss)from I.cp a _ ha);refine B5 (I.ok.hd hc) hS D3 fun h' tk d D out n A8 hk hD hg bQ hp hs=>?_
 have e:=sS hp hs;subst e;have hf:H D=none:=I.cp.fresh hD;have hz:((cx ss).map V.str).length<=sizeLine:=by
  rw[aK,(dB ss).length_eq,c_];omega
 have I1:Inv X U Z (upd H D (.lst ((cx ss).map V.str))) {s with heap:=h',toks:=tk}:=I.laid (o:=.lst ((cx ss).map V.str)) hk hD ⟨hz,out.toList,n,pL bQ,by rw[rq];exact hg⟩;exact⟨.ref D,_,I1.Nk d,rfl,q _ hf⟩
theorem z_:fG X (.builtin "sorted") (fun xs H Q=>∃(a:Addr) (ss:List Str),xs=[.ref a]/\kB X.K H a (ss.map V.str)/\ss.length<64/\∀D,H D=none->Q (.ref D) (upd H D (.lst ((cx ss).map V.str)))):=by
 intro U s Z H xs us Q I r h;obtain⟨a,ss,rfl,ha,D3,q⟩:=h;obtain⟨u,rfl,ru⟩:=vals1 r;cases(show u=Value.ref a from ru);obtain⟨bE,rv,pl,_⟩:=I.list ha;have bQ:=ui rv;have b9:bE.length=ss.length:=by have e:=rv.length;rw[aK]at e;exact e.symm
 refine sorted_strs pl.isList bQ (by omega) fun out A8 h1 h2 h3=>?_
 have e:=sS h2 h3;subst e;obtain⟨n,hg⟩:=sortedAll_at s.heap bE out;have hD:s.heap.objs.size<=s.heap.objs.size+1:=oj _;have hf:H (s.heap.objs.size+1)=none:=I.cp.fresh hD;have hz:((cx ss).map V.str).length<=sizeLine:=by
  rw[aK,(dB ss).length_eq,c_];omega
 exact⟨.ref (s.heap.objs.size+1),_,I.laid (t':=s.toks) (o:=.lst ((cx ss).map V.str)) (fun b o e=>sortedAll_old e) hD ⟨hz,out.toList,n,pL h1,by rw[rq];exact hg⟩,rfl,q _ hf⟩
theorem xi{t:Addr}{a8:Array Value}{x:Value}(hit:s.heap.IsTupleIter ae t i)(ht:s.heap.IsTuple t a8)(hx:a8[i]?=some x)
  (hQ:∀h',h'.IsTupleIter ae t (i+1)->Heap.SameBut ae s.heap h'->Q x {s with heap:=h'}):wpAny (model P w) A (Builtin.SmallTypes.nextOf (.ref ae)) Q E s:=by
 have key:wpAny (model P w) A (pyNext (.ref ae)) (fun r s'=>∃v,r=some v/\Q v s') (fun _ _=>False) s:=wpAny_pyNext_tuple_item hit ht hx fun h' a b=>⟨x,rfl,hQ h' a b⟩;obtain⟨o,ho,hc,hd⟩:=id hit;obtain⟨ol,O8,_,nl,T2⟩:=ht;unfold Builtin.SmallTypes.nextOf;refine ak (pC (name:=Str.ofString "__next__") hit.typeIs rf (fZ rf hit.typeIs F.entry_tuple_iterator_next ?_ (F.args_tuple_iterator_next_1 _)));show wpAny _ _ (field (.ref ae) 0>>=_) _ _ s;refine ak (fo ho hd (x:=.ref t) rfl ?_);show wpAny _ _ (if(Value.ref t==Value.none)=true then _ else _) _ _ s;rw[ay (show¬((Value.ref t==Value.none)=true)from eR)];show wpAny _ _ (field (.ref ae) 1>>=_) _ _ s;refine ak (fo ho hd (x:=.int i 0) rfl ?_);show wpAny _ _ (seqItems? (.ref t)>>=_) _ _ s;refine ak (f_ O8 T2 ?_);simp only[kA,hx];refine ak (wpAny_setField ho hd (by simp) (aC ⟨x,rfl,aC (hQ _ ?_ (nO ..))⟩));exact⟨_,rA _ ho (Obj.isFreed_of_fields (Obj.data_mapFields hd _)),(Obj.cls_mapFields ..).trans hc,by rw[Obj.data_mapFields hd];simp[rawInt]⟩
theorem Hd{t:Addr}{a8:Array Value}(hh:A.handled=none)(hit:s.heap.IsTupleIter a t i)(ht:s.heap.IsTuple t a8)(hx:a8[i]?=none)
  (hE:∀h' (e:Addr),Heap.ExtBut a s.heap h'->Shared.TypeIs {s with heap:=h'} (.ref e) "StopIteration"->E (.ref e) {s with heap:=h'}):wpAny (model P w) A (Builtin.SmallTypes.nextOf (.ref a)) Q E s:=by
 obtain⟨o,ho,hc,hd⟩:=id hit;obtain⟨ol,O8,_,nl,T2⟩:=ht;unfold Builtin.SmallTypes.nextOf;refine ak (pC (name:=Str.ofString "__next__") hit.typeIs rf (fZ rf hit.typeIs F.entry_tuple_iterator_next ?_ (F.args_tuple_iterator_next_1 _)));show wpAny _ _ (field (.ref a) 0>>=_) _ _ s;refine ak (fo ho hd (x:=.ref t) rfl ?_);show wpAny _ _ (if(Value.ref t==Value.none)=true then _ else _) _ _ s;rw[ay (show¬((Value.ref t==Value.none)=true)from eR)];show wpAny _ _ (field (.ref a) 1>>=_) _ _ s;refine ak (fo ho hd (x:=.int i 0) rfl ?_);show wpAny _ _ (seqItems? (.ref t)>>=_) _ _ s;refine ak (f_ O8 T2 ?_);simp only[kA,hx];refine ak (eL (ak (wpAny_setField ho hd (by simp) ?_)));show wpAny _ _ (newExc (.type "StopIteration") []>>=_) _ _ _;refine ak (xa hh fun h' x YE hk=>?_);exact hE h' x (fun b o hb e=>hk b o ((nO ..).extBut b o hb e)) YE
structure ZA(z TI TO i1 i2:Addr):Prop where
 TIz:TI≠z
 TOz:TO≠z
 i1z:i1≠z
 i2z:i2≠z
 TITO:TI≠TO
 TIi1:TI≠i1
 TIi2:TI≠i2
 TOi1:TO≠i1
 TOi2:TO≠i2
 i12:i1≠i2
theorem He{TO i1 i2 l1 l2:Addr}{k2:Nat}{xs ys:Array Value}{x y b:Value}{Q:Option Value->Shared->Prop}(D:ZA a ae TO i1 i2)(hz:IsZip s.heap a ae TO .none)(D4:IsPair s.heap ae (.ref i1) (.ref i2))(Hf:IsPair s.heap TO aa b)
  (h1:s.heap.IsTupleIter i1 l1 i) (h2:s.heap.IsTupleIter i2 l2 k2) (HY:s.heap.IsTuple l1 xs) (L4:s.heap.IsTuple l2 ys) (d1:l1≠a/\l1≠TO/\l1≠i1/\l1≠i2) (d2:l2≠a/\l2≠TO/\l2≠i1/\l2≠i2) (hx:xs[i]?=some x) (hy:ys[k2]?=some y)
  (hQ:∀h',IsZip h' a ae TO (rawInt s.heap.objs.size)->IsPair h' TO x y->h'.IsTupleIter i1 l1 (i+1)->h'.IsTupleIter i2 l2 (k2+1)->IsPair h' s.heap.objs.size x y->
   (∀c o,c≠a->c≠TO->c≠i1->c≠i2->s.heap.get? c=some o->h'.get? c=some o)->Q (some (.ref s.heap.objs.size)) {s with heap:=h'}):wpAny (model P w) A (pyNext (.ref a)) Q E s:=by
 have hT:s.TypeIs (.ref a) "zip":=⟨_,hz,rfl⟩;unfold pyNext;refine ak (rX (pC (name:=Str.ofString "__next__") hT rV (fZ rV hT F.entry_zip_next ?_ (F.args_zip_next_1 _))));show wpAny _ _ (field (.ref a) 2>>=_) _ _ _;refine ak (fo hz rfl (x:=.bool false) rfl ?_);show wpAny _ _ (field (.ref a) 3>>=_) _ _ _;refine ak (fo hz rfl (x:=.ref ae) rfl (ak (f_ D4 rfl ?_)));show wpAny _ _ (Builtin.SmallTypes.ownedTupleIsFree (.ref a)>>=_) _ _ _;refine ak ?_
 unfold Builtin.SmallTypes.ownedTupleIsFree;refine ak (fo hz rfl (x:=.none) rfl (aC ?_));simp only[bT];refine ak (eL (ak (fo hz rfl (x:=.ref TO) rfl ?_)));refine ak (iy hz (by simp) fun eE xj oU=>?_);replace xj:IsZip eE a ae TO .ellipsis:=xj;refine ak ?_
 simp only[List.zipIdx_cons,List.zipIdx_nil,nX,wc];refine ak (ak (wpAny_onRaise ?_));show wpAny _ _ (Builtin.SmallTypes.nextOf (.ref i1)>>=_) _ _ _;refine ak (xi (s:={s with heap:=eE}) (h1.extBut oU.extBut D.i1z) (HY.extBut oU.extBut d1.1) hx fun oG Wb ug=>aC ?_);have JM:IsPair oG TO aa b:=ug.extBut _ _ D.TOi1 (oU.extBut _ _ D.TOz Hf);refine ak (f_ JM rfl (ak (wpAny_updateSeq_pair JM fun yn D5 Aa=>?_)));replace D5:IsPair yn TO x b:=D5;refine ak (lH (aC (ak (ak (wpAny_onRaise ?_)))));show wpAny _ _ (Builtin.SmallTypes.nextOf (.ref i2)>>=_) _ _ _;refine ak (xi (s:={s with heap:=yn}) (((h2.extBut oU.extBut D.i2z).extBut ug.extBut D.i12.symm).extBut Aa.extBut D.TOi2.symm) (((L4.extBut oU.extBut d2.1).extBut ug.extBut d2.2.2.1).extBut Aa.extBut d2.2.1) hy fun QH Wc JN=>aC ?_);have JO:IsPair QH TO x b:=JN.extBut _ _ D.TOi2 D5;refine ak (f_ JO rfl (ak (wpAny_updateSeq_pair JO fun p7 Ac JP=>?_)));replace Ac:IsPair p7 TO x y:=Ac;refine ak (lH (aC (aC ?_)));refine ak (f_ Ac rfl (ak (wpAny_newTuple ?_)));have hsz:p7.objs.size=s.heap.objs.size:=by rw[JP.1,JN.1,Aa.1,ug.1,oU.1]
 have O_:IsZip p7 a ae TO .ellipsis:=JP.extBut _ _ D.TOz.symm (JN.extBut _ _ D.i2z.symm (Aa.extBut _ _ D.TOz.symm (ug.extBut _ _ D.i1z.symm xj)));have Wd:∀c o,c≠a->c≠TO->c≠i1->c≠i2->s.heap.get? c=some o->p7.get? c=some o:=fun c o c1 c2 c3 c4 e=>JP.extBut _ _ c2 (JN.extBut _ _ c4 (Aa.extBut _ _ c2 (ug.extBut _ _ c3 (oU.extBut _ _ c1 e))));have We:p7.IsTupleIter i1 l1 (i+1):=((Wb.extBut Aa.extBut D.TOi1.symm).extBut JN.extBut D.i12).extBut JP.extBut D.TOi1.symm;have Wf:p7.IsTupleIter i2 l2 (k2+1):=Wc.extBut JP.extBut D.TOi2.symm;have Wg:a<p7.objs.size:=aO O_;show wpAny _ _ (Builtin.SmallTypes.ownedTupleHandOut (.ref a) (.ref p7.objs.size)>>=_) _ _ _;refine ak ?_
 unfold Builtin.SmallTypes.ownedTupleHandOut;have Wh:IsZip (p7.push {cls:=.type "tuple",data:=.seq #[x,y]}) a ae TO .ellipsis:=bh _ O_;refine ak (iy Wh (by simp) fun aaj JR Wi=>?_);replace JR:IsZip aaj a ae TO (rawInt p7.objs.size):=JR;refine iy JR (by simp) fun Nl FF Wj=>?_
 replace FF:IsZip Nl a ae TO (rawInt p7.objs.size):=FF;have up:∀c o,c≠a->p7.get? c=some o->Nl.get? c=some o:=fun c o c1 e=>Wj.extBut _ _ c1 (Wi.extBut _ _ c1 (bh _ e));have Pa:IsPair Nl p7.objs.size x y:=Wj.extBut _ _ (cU Wg) (Wi.extBut _ _ (cU Wg) (bG _ rfl));rw[hsz]at FF Pa;refine aC ⟨_,rfl,aC ?_⟩;show Q (some (.ref p7.objs.size)) _;rw[hsz];exact hQ Nl FF (up _ _ D.TOz Ac) (We.at fun o e=>up _ o D.i1z e) (Wf.at fun o e=>up _ o D.i2z e) Pa fun c o c1 c2 c3 c4 e=>up c o c1 (Wd c o c1 c2 c3 c4 e)
theorem JS{z i1 i2 l1:Addr}{xs:Array Value}{b:Value}{Q:Option Value->Shared->Prop}(hh:A.handled=none)(D:ZA z a ae i1 i2)(hz:IsZip s.heap z a ae .none)(D4:IsPair s.heap a (.ref i1) (.ref i2))(Hf:IsPair s.heap ae aa b)
  (h1:s.heap.IsTupleIter i1 l1 i) (HY:s.heap.IsTuple l1 xs) (d1:l1≠z) (hx:xs[i]?=none)
  (hQ:∀h',(∀c o,c≠z->c≠i1->s.heap.get? c=some o->h'.get? c=some o)->Q none {s with heap:=h'}):wpAny (model P w) A (pyNext (.ref z)) Q E s:=by
 have hT:s.TypeIs (.ref z) "zip":=⟨_,hz,rfl⟩;unfold pyNext;refine ak (rX (pC (name:=Str.ofString "__next__") hT rV (fZ rV hT F.entry_zip_next ?_ (F.args_zip_next_1 _))));show wpAny _ _ (field (.ref z) 2>>=_) _ _ _;refine ak (fo hz rfl (x:=.bool false) rfl ?_);show wpAny _ _ (field (.ref z) 3>>=_) _ _ _;refine ak (fo hz rfl (x:=.ref a) rfl (ak (f_ D4 rfl ?_)));show wpAny _ _ (Builtin.SmallTypes.ownedTupleIsFree (.ref z)>>=_) _ _ _;refine ak ?_
 unfold Builtin.SmallTypes.ownedTupleIsFree;refine ak (fo hz rfl (x:=.none) rfl (aC ?_));simp only[bT];refine ak (eL (ak (fo hz rfl (x:=.ref ae) rfl ?_)));refine ak (iy hz (by simp) fun eE xj oU=>?_);replace xj:IsZip eE z a ae .ellipsis:=xj;refine ak ?_
 simp only[List.zipIdx_cons,List.zipIdx_nil,nX,wc];refine ak (ak (wpAny_onRaise ?_));show wpAny _ _ (Builtin.SmallTypes.nextOf (.ref i1)>>=_) _ _ _;refine ak (Hd (s:={s with heap:=eE}) hh (h1.extBut oU.extBut D.i1z) (HY.extBut oU.extBut d1) hx fun oG e ug he=>?_);have Pb:IsZip oG z a ae .ellipsis:=ug _ _ D.i1z.symm xj;obtain⟨oe,hoe,hce⟩:=he;have hez:e≠z:=fun q=>by
  have Wk:oG.get? e=some oe:=hoe;rw[q,Pb]at Wk;cases Wk;simp at hce
 refine iy (s:={s with heap:=oG}) Pb (by simp) fun yn _ Aa=>?_
 refine ak (n5 (s:={s with heap:=yn}) (T:="StopIteration") (b:=true) ⟨oe,Aa.extBut _ _ hez hoe,hce⟩ isSubtype_stop ?_);exact aC (hQ yn fun c o c1 c2 q=>Aa.extBut _ _ c1 (ug _ _ c2 (oU.extBut _ _ c1 q)))
section
variable {h':Heap}
theorem g9.apart {b:Addr}{xs:List V}(I:Inv X U Z H s)(h:g9 X.K H a xs)(f:kj X U H b):a≠b:=by
 rcases h with(h|⟨o,h⟩)|⟨o,bE,n,hk,_⟩
 ·exact bj h f.1
 ·exact bj h f.1
 ·intro e;subst e;have hb:=I.ok.mod.Oz a o hk;rcases f.2.2.2.1 with q|q
  ·exact I.ok.zE a o hb q
  ·exact absurd (cy (aO (I.ok.bs a o hb).1) q) (dH _)
theorem Inv.Hg {ch:List Addr}{T:Addr}{o:HO}{t':Nat}(I:Inv X U Z H s)(yB:∀b∈ch,kj X U H b)(k:∀b o,b∉ch->s.heap.get? b=some o->h'.get? b=some o)(hT:s.heap.objs.size<=T)
  (new:cu X.prog X.w (upd H T o) h' T o):Inv X U Z (upd H T o) {s with heap:=h',toks:=t'}:=by
 have LR:H T=none:=I.cp.fresh hT;have Ik:∀b u,H b=some u->b∉ch:=fun b u e m=>by rw[(yB b m).1]at e;cases e
 refine I.step (g':=s.gens) (d':=s.drawn) (ch:=ch) (fun b hb=>?_) (fun b o _ _ hc e _=>k b o hc e) (fun b o _ _ hc e _=>⟨o.slots,k b o hc e⟩) (fun b o _ e n=>?_) (fun b o hc e=>⟨o,k b o hc e⟩) (fun b xs e=>?_) (fun b o u e=>?_) (fun b ps e=>⟨#[],?_⟩) (fun m hm=>?_) (fun b u e=>?_) I.bare
 ·obtain⟨_,x1,_,x3,x4,x5⟩:=yB b hb;exact⟨x3,x1,x4,x5⟩
 ·rw[aF (bu (cy (aO e) hT))];exact n
 ·rw[aF (bj e LR)];exact e
 ·rw[aF (bj e LR)];exact e
 ·rw[aF (bj e LR),e];simp
 ·exact hm.at' fun o e=>k _ o (fun z=>(yB _ z).2.1 rfl) e
 ·by_cases hb:b=T
  ·subst hb;rw[a_]at e;cases e;exact new
  ·rw[aF hb]at e;refine(I.cp b u e).oq (fun c v hc q=>k c v ?_ q) (fun c q=>by rw[aF (bj q LR)];exact q) fun c xs q=>by rw[aF (bj q LR)];exact q
   rcases hc with rfl|hc
   ·exact Ik c u e
   ·exact Ik c _ hc
theorem Inv.pM {ch:List Addr}{t':Nat}(I:Inv X U Z H s)(yB:∀b∈ch,kj X U H b)(k:∀b o,b∉ch->s.heap.get? b=some o->h'.get? b=some o):Inv X U Z H {s with heap:=h',toks:=t'}:=by
 have Ik:∀b u,H b=some u->b∉ch:=fun b u e m=>by rw[(yB b m).1]at e;cases e
 refine I.step (g':=s.gens) (d':=s.drawn) (ch:=ch) (fun b hb=>?_) (fun b o _ _ hc e _=>k b o hc e) (fun b o _ _ hc e _=>⟨o.slots,k b o hc e⟩) (fun b o _ e n=>n) (fun b o hc e=>⟨o,k b o hc e⟩) (fun b xs e=>e) (fun b o u e=>e) (fun b ps e=>⟨#[],by rw[e];simp⟩) (fun m hm=>?_) (fun b u e=>?_) I.bare
 ·obtain⟨_,x1,_,x3,x4,x5⟩:=yB b hb;exact⟨x3,x1,x4,x5⟩
 ·exact hm.at' fun o e=>k _ o (fun z=>(yB _ z).2.1 rfl) e
 ·refine(I.cp b u e).oq (fun c v hc q=>k c v ?_ q) (fun c q=>q) fun c xs q=>q;rcases hc with rfl|hc
  ·exact Ik c u e
  ·exact Ik c _ hc
end
def Itz(K:Frag)(a b:Addr):It:=
 ⟨fun i H=>∃xs ys x y,g9 K H a xs/\g9 K H b ys/\xs[i]?=some x/\ys[i]?=some y,
  fun i H v H'=>∃T x y,v=.ref T/\H T=none/\H'=upd H T (.tup [x,y])/\(∀xs,g9 K H a xs->xs[i]?=some x)/\(∀ys,g9 K H b ys->ys[i]?=some y),
  fun i H=>∃xs,g9 K H a xs/\xs.length<=i⟩
theorem JT{x1:Nat}{z TO i1 i2 b:Addr}(D:ZA z ae TO i1 i2):
  Turn P w K (.Tuple af x1 pos) (Itz K a b) [z,ae,TO,i1,i2] z (fun i h=>IsZip h z ae TO .none/\IsPair h ae (.ref i1) (.ref i2)/\(∃p q,IsPair h TO p q)/\h.IsTupleIter i1 a i/\h.IsTupleIter i2 b i) where
 mem:=by simp
 obj:=fun i h st c hc=>by
  obtain⟨hz,D4,⟨p,q,Hf⟩,⟨o1,e1,c1,d1⟩,⟨o2,e2,c2,d2⟩⟩:=st;simp only[aV,cc,cf]at hc;rcases hc with rfl|rfl|rfl|rfl|rfl
  ·exact⟨_,hz,fun v e=>by cases(show Data.fields _=Data.cell v from e)⟩
  ·exact⟨_,D4,fun v e=>by cases(show Data.seq _ _=Data.cell v from e)⟩
  ·exact⟨_,Hf,fun v e=>by cases(show Data.seq _ _=Data.cell v from e)⟩
  ·exact⟨o1,e1,fun v e=>by rw[d1]at e;cases e⟩
  ·exact⟨o2,e2,fun v e=>by rw[d2]at e;cases e⟩
 keep:=fun i h h' st k=>by
  obtain⟨hz,D4,⟨p,q,Hf⟩,h1,h2⟩:=st;exact⟨k z (by simp) _ hz,k ae (by simp) _ D4,⟨p,q,k TO (by simp) _ Hf⟩,h1.at fun o e=>k i1 (by simp) o e,h2.at fun o e=>k i2 (by simp) o e⟩
 item:=by
  intro X hP hw hK hc i U s Z H E I hf st hg;subst hP hw hK;obtain⟨xs,ys,x,y,Pc,hq2,hx,hy⟩:=hg;obtain⟨hz,D4,⟨p,q,Hf⟩,h1,h2⟩:=st;obtain⟨JU,YF,p1,_⟩:=I.tuple Pc;obtain⟨wx,LV,p2,_⟩:=I.tuple hq2;obtain⟨u1,hu1,ru1⟩:=YF.get hx;obtain⟨u2,hu2,Wl⟩:=LV.get hy;have YG:∀c∈[z,ae,TO,i1,i2],a≠c:=fun c m=>Pc.apart I (hf c m);have YH:∀c∈[z,ae,TO,i1,i2],b≠c:=fun c m=>hq2.apart I (hf c m);refine He D hz D4 Hf h1 h2 (show s.heap.IsTuple a JU.toArray from p1) (show s.heap.IsTuple b wx.toArray from p2) ⟨YG _ (by simp),YG _ (by simp),YG _ (by simp),YG _ (by simp)⟩ ⟨YH _ (by simp),YH _ (by simp),YH _ (by simp),YH _ (by simp)⟩
   (x:=u1) (y:=u2) (by simpa using hu1) (by simpa using hu2) fun eE g1 g2 g3 g4 g5 kk=>?_
  refine⟨_,rfl,wpAny_letOwnedTupleGo_zip g1 fun oG k1 sb=>?_⟩;have lt:∀{c:Addr} {o:Obj},s.heap.get? c=some o->s.heap.objs.size≠c:=fun e=>cU (aO e);have hTz:s.heap.objs.size≠z:=lt hz;have up:∀c o,c∉[z,TO,i1,i2]->s.heap.get? c=some o->oG.get? c=some o:=fun c o m e=>by
   simp only[aV,cc,cf,not_or]at m;exact sb.extBut _ _ m.1 (kk c o m.1 m.2.1 m.2.2.1 m.2.2.2 e)
  have Mt:IsPair oG s.heap.objs.size u1 u2:=sb.extBut _ _ hTz g5;refine⟨.ref s.heap.objs.size,_,I.Hg (t':=s.toks) (ch:=[z,TO,i1,i2]) (T:=s.heap.objs.size) (o:=.tup [x,y]) (fun c m=>hf c ?_) up (aQ _) ⟨by show 2<=sizeLine;decide,[u1,u2],.cons ru1 (.cons Wl .nil),⟨_,Mt,rfl,_,rfl⟩⟩,rfl,
   ⟨s.heap.objs.size,x,y,rfl,I.fresh,rfl,fun xs' h=>by rw[I.pF h Pc];exact hx,fun ys' h=>by rw[I.pF h hq2];exact hy⟩,
   ⟨k1,sb.extBut _ _ D.TIz (kk _ _ D.TIz D.TITO D.TIi1 D.TIi2 D4),⟨u1,u2,sb.extBut _ _ D.TOz g2⟩,g3.extBut sb.extBut D.i1z,g4.extBut sb.extBut D.i2z⟩,fun c m=>?_⟩
  ·simp only[aV,cc,cf]at m⊢;rcases m with h|h|h|h<;>simp[h]
  ·rw[aF ?_]
   ·exact(hf c m).1
   ·simp only[aV,cc,cf]at m;obtain⟨o1,e1,_⟩:=h1;obtain⟨o2,e2,_⟩:=h2;rcases m with rfl|rfl|rfl|rfl|rfl
    ·exact(lt hz).symm
    ·exact(lt D4).symm
    ·exact(lt Hf).symm
    ·exact(lt e1).symm
    ·exact(lt e2).symm
 done:=by
  intro X hP hw hK hc i U s Z H E I hf st hg;subst hP hw hK;obtain⟨xs,Pc,hx⟩:=hg;obtain⟨hz,D4,⟨p,q,Hf⟩,h1,h2⟩:=st;obtain⟨JU,YF,p1,_⟩:=I.tuple Pc;have hl:=YF.length;refine JS (I.ok.hd hc) D hz D4 Hf h1 (show s.heap.IsTuple a JU.toArray from p1) (Pc.apart I (hf z (by simp))) (by simp;omega) fun h' kk=>⟨rfl,?_⟩;refine I.pM (t':=s.toks) (ch:=[z,i1]) (fun c m=>hf c ?_) fun c o m e=>?_
  ·simp only[aV,cc,cf]at m⊢;rcases m with h|h<;>simp[h]
  ·simp only[aV,cc,cf,not_or]at m;exact kk c o m.1 m.2 e
 self:=fun _ _ _ _ _ st h=>wpAny_pyIter_zip st.1 h
theorem RO(n:Nat):ZA (n+4) (n+2) (n+3) n (n+1):=⟨bu (by omega),bu (by omega),bu (by omega),bu (by omega),bu (by omega),cU (by omega),cU (by omega),cU (by omega),cU (by omega),bu (by omega)⟩
def aak(K:Frag)(ta:TA):TI:=fun Z H R=>ta Z H fun vs H1=>∃a b xs ys,vs=[.ref a,.ref b]/\g9 K H1 a xs/\g9 K H1 b ys/\R (Itz K a b) H1
theorem Hh:bootBuiltins "zip"=some (.type "zip"):=by decide+kernel
theorem RP{b:Expr}{ta:TA}(hg:Gl X "zip")(hm:X.mg "zip"=none)(ha:PA X [o,b] ta)(hs:starEach [o,b] X.env=[(false,eval o X.env),(false,eval b X.env)]:=by rfl) (UI:starEach [b] X.env=[(false,eval b X.env)]:=by rfl):
  PI X (.Tuple af i b8) (.Call (.Name "zip" p) [o,b] [] pos) (aak X.K ta):=by
 intro U s Z H R I h;refine Call_ (t5 I hg hm Hh (vE (dA (ha pos U s Z H _ I h) fun us s1 ⟨vs,H1,I1,r1,q1⟩=>?_) (by rw[hs,UI]) (by rw[UI];rfl)));obtain⟨c,d,xs,ys,e,hc,hd,q⟩:=q1;subst e;obtain⟨u,v,rfl,ru,rv⟩:=vals2 r1;cases(show u=Value.ref c from ru);cases(show v=Value.ref d from rv);obtain⟨JU,YF,p1,_⟩:=I1.tuple hc;obtain⟨wx,LV,p2,_⟩:=I1.tuple hd;refine Gj (show s1.heap.IsTuple c JU.toArray from p1) (show s1.heap.IsTuple d wx.toArray from p2) fun h' hz D4 Hf g1 g2 kk=>?_
 have I2:Inv X U Z H1 {s1 with heap:=h'}:=I1.kept (t':=s1.toks) kk;refine wpAny_pyIter_zip hz ⟨s1.heap.objs.size+4,[s1.heap.objs.size+4,s1.heap.objs.size+2,s1.heap.objs.size+3,s1.heap.objs.size,s1.heap.objs.size+1],_,_,H1,rfl,I2,JT (RO _),⟨hz,D4,⟨_,_,Hf⟩,g1,g2⟩,fun b m=>?_,q⟩;have hb:s1.heap.objs.size<=b:=by
  simp only[aV,cc,cf]at m;rcases m with rfl|rfl|rfl|rfl|rfl
  ·exact lD _ 4
  ·exact lD _ 2
  ·exact lD _ 3
  ·exact aQ _
  ·exact lD _ 1
 exact I1.wj hb (I1.cp.fresh hb)
def Pd(us ws:List Tr):List Tr:=List.zipWith (fun a b=>.tup [a,b]) us ws
section
variable {a b:Expr}{x1:Nat}
theorem Hi{b:Addr}{vs ws:List V}{us:List Tr}(h:g9 K (bz B H) ae vs)(r:bc K (bz B H) vs ts)(h2:g9 K (bz B H) b ws)(r2:bc K (bz B H) ws us)(hl:ts.length<=us.length):lR K B (Itz K ae b) H (Pd ts us) where
 go:=fun i B' H' hi s hb=>by
  have Yy:i<ts.length:=by unfold Pd at hi;rw[List.length_zipWith]at hi;omega
  have hv:i<vs.length:=by rw[r.length];exact Yy
  have hw:i<ws.length:=by rw[r2.length];omega
  exact⟨vs,ws,vs[i],ws[i],aE.tup aZ (s.h.tup h),aE.tup aZ (s.h.tup h2),by simp[hv],by simp[hw]⟩
 Gu:=fun i B' H' x LQ hi s hb ⟨T,y,z,e1,e2,e3,q,q2⟩=>by
  subst e1 e3;obtain⟨t,et,rt⟩:=r.wH (q vs (aE.tup aZ (s.h.tup h)));obtain⟨u,eu,ru⟩:=r2.wH (q2 ws (aE.tup aZ (s.h.tup h2)));refine⟨aE.upd e2,.tup [t,u],by unfold Pd;rw[List.getElem?_zipWith,et,eu],.tup (.of (hb.new e2)) (.cons ((rt.same s).same (aX (aE.upd e2))) (.cons ((ru.same s).same (aX (aE.upd e2))) .nil))⟩
 stop:=fun B' H' s=>⟨vs,aE.tup aZ (s.h.tup h),by unfold Pd;rw[List.length_zipWith,r.length];omega⟩
def zpW(l:Rs (List Tr)):Rs (List Tr):=l.bind fun ts=>match ts with
 |[.tup us,.tup ws]=>if us.length<=ws.length then .ok (Pd us ws)else .bad
 |_=>.bad
theorem Wm(hm:X.mg "zip"=none)(ha:PA X [a,b] (BA X L))(hg:Gl X "zip":=by rfl) (hs:aP [a,b]=true:=by rfl):PI X (.Tuple af x1 b8) (.Call (.Name "zip" p) [a,b] [] pos) (tI X fun Y=>zpW (L Y)):=
 (RP hg hm ha (by rw[aY _ _ (aG hs).1,aY _ _ (aG (aG hs).2).1];rfl) (by rw[aY _ _ (aG (aG hs).2).1];rfl)).weak fun Z H R ⟨B,Y,hb,r,q⟩=>⟨B,Y,hb,r,q.bind.mono fun ts qt vs H1 s1 r1=>by
  split at qt
  ·obtain⟨x,y,e,h1,h2⟩:=yO r1;obtain⟨_,_,rfl,h,rr⟩:=h1.dr;obtain⟨_,_,rfl,h',BL⟩:=h2.dr;split at qt
   ·rename_i hl;exact⟨_,_,_,_,e,aE.tup aZ h,aE.tup aZ h',qt _ H1 s1 (Hi h rr h' BL hl)⟩
   ·exact qt.elim
  ·exact qt.elim⟩
def Nm:Tr->Rs Tr
 |.str z=>.ok (.str z)
 |.int i=>if i.natAbs.log2<1920/\(Str.ofString (toString i)).length<=cw then .ok (.str (Str.ofString (toString i)))else .bad
 |_=>.bad
theorem RQ(h:PE X e (tP X F)):PE X (.FormattedValue e (-1) none pos) (tP X fun Y=>(F Y).bind Nm):=by
 intro U s Z H Q I ⟨B,Y,hb,r,q⟩;refine FormattedValue_plain (dA (h U s Z H (fun x H1=>∃t,Rep X.K (bz B H1) x t/\aE H H1/\Fi X H (Nm t) fun t=>∀e H',aE H H'->Rep X.K (bz B H') e t->Q e H') I ⟨B,Y,hb,r,q.bind.mono fun t qt e H1 s1 r1=>⟨t,r1,s1,qt⟩⟩) fun u s1 ⟨x,H1,I1,rx,t,rt,sm,k⟩=>?_);cases rt with
 |str z hz=>
  obtain⟨tk,rfl⟩:=(show∃t,u=Value.str z t from rx);exact formatField_str (fun t' u5=>⟨.str z,H1,I1.tok _,⟨_,rfl⟩,k _ H1 sm (.str z hz)⟩) (bP hz kD)
 |int i=>
  obtain⟨tk,rfl⟩:=(show∃t,u=Value.int i t from rx);obtain⟨⟨k1,k2⟩,k⟩:=gy k;exact formatField_int_small k1 ⟨.str _,H1,(I1.tok _).tok _,⟨_,rfl⟩,k _ H1 sm (.str _ k2)⟩
 |_=>exact fe k
def PJ(X:Cx)(af:List Expr)(J:bf->Str->Rs Tr):Prop:=∀(U:List (Addr×Obj)) (s:Shared) (Z:St) (H:Hp) (acc:Str) (Q:VK),Inv X U Z H s->tP X (fun Y=>J Y acc) Z H Q->wpAny (model X.prog X.w) X.A (joinParts acc (evalEach af X.env)) (EP X U Z Q) X.xe s
def B9(acc:Str):Rs Tr:=if acc.length<=cw then .ok (.str acc)else .bad
theorem Wn:PJ X [] fun _ acc=>B9 acc:=by
 intro U s Z H acc Q I ⟨B,Y,hb,r,q⟩;obtain⟨h1,k⟩:=gy q;exact joinParts_nil ⟨.str acc,H,I.tok _,⟨_,rfl⟩,k _ H (aE.refl H) (.str acc h1)⟩ (bP h1 kD)
def nc(r:Rs Tr)(J:Str->Rs Tr)(acc:Str):Rs Tr:=r.bind fun t=>match t with
 |.str y=>if(acc++y).length<=cw then J (acc++y)else .bad
 |_=>.bad
theorem RR{J:bf->Str->Rs Tr}(h:PE X e (tP X F))(hr:PJ X af J):PJ X (e::af) fun Y acc=>nc (F Y) (J Y) acc:=by
 intro U s Z H acc Q I ⟨B,Y,hb,r,q⟩;refine joinParts_cons (dA (h U s Z H (fun x H1=>∃y,x=.str y/\(acc++y).length<=cw/\aE H H1/\Fi X H (J Y (acc++y)) fun t=>∀v H',aE H H'->Rep X.K (bz B H') v t->Q v H') I ⟨B,Y,hb,r,q.bind.mono fun t qt v H1 s1 r1=>?_⟩) fun u s1 ⟨x,H1,I1,rx,y,ex,hl,sm,k⟩=>?_)
 ·cases r1 with
  |str y hy=>
   by_cases hl:(acc++y).length<=cw
   ·exact⟨y,rfl,hl,s1,by have k:Fi X H (if(acc++y).length<=cw then J Y (acc++y)else .bad) _:=qt;rw[au hl]at k;exact k⟩
   ·have k:Fi X H (if(acc++y).length<=cw then J Y (acc++y)else .bad) _:=qt;rw[ay hl]at k;exact fe k
  |_=>exact fe qt
 ·subst ex;obtain⟨tk,rfl⟩:=(show∃t,u=Value.str y t from rx);exact⟨bP hl kD,hr U s1 Z H1 _ Q I1 ⟨B,Y,hb.same sm,r.same sm,(k.same sm).mono fun t qt v H2 s2 r2=>qt v H2 (sm.trans s2) r2⟩⟩
theorem Nn{J:bf->Str->Rs Tr}(h:PJ X (e::o::af) J):PE X (.JoinedStr (e::o::af) pos) (tP X fun Y=>J Y Str.empty):=fun U s Z H Q I q=>JoinedStr_many (h U s Z H Str.empty Q I q)
def xk:List Tr->Rs (List String)
 |[]=>.ok []
 |.ty n::ts=>(xk ts).bind fun ns=>.ok (n::ns)
 |_::_=>.bad
theorem FG:∀{ts:List Tr} {ns:List String},xk ts=.ok ns->ts=ns.map Tr.ty
 |[],ns,h=>by cases h;rfl
 |t::ts,ns,h=>by
  cases t with
  |ty n=>
   cases e:xk ts with
   |ok ms=>
    rw[xk,e]at h;cases h;rw[FG e];rfl
   |_=>rw[xk,e]at h;cases h
  |_=>cases h
theorem B_:∀{ts:List Tr} {c:Tr},xk ts≠ .exc c
 |[],c,h=>by cases h
 |t::ts,c,h=>by
  cases t with
  |ty n=>
   cases e:xk ts with
   |ok ms=>rw[xk,e]at h;cases h
   |exc c'=>exact B_ e
   |bad=>rw[xk,e]at h;cases h
  |_=>cases h
theorem Ca{H:Vw}:∀{ns:List String} {vs:List V},bc K H vs (ns.map Tr.ty)->vs=ns.map V.ty
 |[],_,r=>by cases r;rfl
 |n::ns,_,r=>by
  cases r with
  |cons h r=>cases h;rw[Ca r];rfl
theorem FH(K:Frag)(a:String)(ha:a∈["NoneType","bool","int","str","tuple","list","dict"]):∀(cs:List String),(∀c∈cs,c∈kinds)->PySem.W.kitAny K (.type a) (cs.map Value.type)=some (cs.any fun c=>a==c||(a=="bool"&&c=="int"))
 |[],_=>rfl
 |c::cs,h=>by
  have ih:=FH K a ha cs fun d m=>h d (bF _ m);have k1:=Fq K a ha c (h c (bM ..));rw[ba,PySem.W.kitAny,k1,ih,iA];cases(a==c||(a=="bool"&&c=="int"))<;>rfl
def Pe:List Tr->Rs Tr
 |[t,.tup cs]=>(xk cs).bind fun ns=>if yg t=true/\ns.all (fun c=>kinds.contains c)=true then .ok (.bl (ns.any (Yv t)))else .bad
 |_=>.bad
theorem Wo{W:Vw}{H:Hp}{x:V}{t:Tr}(r:Rep K W x t)(f:yg t=true):wW t∈["NoneType","bool","int","str","tuple","list","dict"]/\OL x=true/\sj K H x (.type (wW t)):=by
 cases r with
 |bO=>exact⟨.head _,rfl,.bO⟩
 |bl b=>exact⟨.tail _ (.head _),rfl,.bl b⟩
 |int i=>exact⟨.tail _ (.tail _ (.head _)),rfl,.int i⟩
 |str z _=>exact⟨.tail _ (.tail _ (.tail _ (.head _))),rfl,.str z⟩
 |_=>cases f
theorem RS:kE X (.builtin "isinstance") Pe:=by
 intro U s Z H xs us Q I rv ⟨B,ts,hb,r,q⟩;unfold Pe at q;split at q
 ·rename_i t cs;obtain⟨x1,x2,rfl,h1,h2⟩:=yO r;obtain⟨a,vs,rfl,h,rr⟩:=h2.dr;cases e:xk cs with
  |exc c=>exact(B_ e).elim
  |bad=>rw[e]at q;exact fe q
  |ok ns=>
   rw[e]at q;have f:=gy q;have ec:=FG e;subst ec;have ev:=Ca rr;subst ev;have mem:∀c∈ns,c∈kinds:=fun c m=>by
    have:=cJ.mp f.1.2 c m;simpa using this
   obtain⟨ha,fx,tx⟩:=Wo (H:=H) h1 f.1.1;refine GJ U s Z H _ us Q I rv ⟨_,_,ns,.type (wW t),_,rfl,fx,h.up,tx,FH X.K _ ha ns mem,?_⟩;have e2:(ns.any fun c=>wW t==c||(wW t=="bool"&&c=="int"))=ns.any (Yv t):=rfl;rw[e2];exact f.2 _ H (aE.refl H) (.bl _)
 ·exact fe q
end
theorem xl:∀{xs:List V} {bE:List Value},xs.length=bE.length->(∀(i:Nat) (x:V) (u:Value),xs[i]?=some x->bE[i]?=some u->RelV x u)->Vals xs bE
 |[],[],_,_=>.nil
 |[],_::_,h,_=>by cases h
 |_::_,[],h,_=>by cases h
 |x::xs,u::us,h,k=>.cons (k 0 x u rfl rfl) (xl (by simpa using h) fun i y w e1 e2=>k (i+1) y w (by simpa using e1) (by simpa using e2))
theorem uj{k:Key}{v:Value}(h:lK k v=true):RelV (kV k) v:=by
 rcases cW h with⟨j,t,e1,e2⟩|⟨y,t,e1,e2⟩
 ·rw[e1,e2];exact⟨t,rfl⟩
 ·rw[e1,e2];exact⟨t,rfl⟩
theorem Hj{kvs:List (Key×V)}{vs:List (Key×Value)}(rv:KV kvs vs){acc:Array Value}(hi:ItemsOf (fun i v=>∃k x,vs[i]?=some (k,x)/\lK k v=true) acc vs.length):Vals (kvs.map fun p=>kV p.1) acc.toList:=by
 refine xl (by have e:=hi.1;rw[aK,qT rv,<-e,fj]) fun i x u e1 e2=>?_
 rw[mw]at e2;obtain⟨k,y,e3,e4⟩:=hi.2 i u e2;rw[bA]at e1;cases e5:kvs[i]? with
 |none=>rw[e5]at e1;cases e1
 |some p=>
  rw[e5]at e1;cases e1;obtain⟨z,e6⟩:=z5 rv (k:=p.1) (v:=p.2) e5;rw[e6]at e3;cases e3;exact uj e4
section
variable {prog:Program}{vs:List (Key×Value)}{ep:Nat}
theorem Ad{R:List Value->Shared->Prop}(hh:A.handled=none)(hd:(a==sysModules)=false)(hm:s.heap.DictAt (bC prog w) a vs ep)(hn:vs.length<=sizeLine)
  (h:∀(h':Heap) (tk:Nat) (acc:Array Value),ItemsOf (fun i v=>∃k x,vs[i]?=some (k,x)/\lK k v=true) acc vs.length->(∀b o,s.heap.get? b=some o->h'.get? b=some o)->s.heap.objs.size<=h'.objs.size->R acc.toList {s with heap:=h',toks:=tk}):wpAny (model prog w) A (collect (.ref a)) R E s:=by
 have gn:a<s.heap.objs.size:=hm.lt_size;unfold collect;refine ak (wpAny_runValue (eV entry_proto_collect' ?_));rw[fV A_ _];show wpAny _ A.in1 (newList []>>=fun l=>again (.builtin "list.__iadd__" ⟨[l,.ref a],[]⟩)) _ _ s;refine ak (jL ?_);refine aC ⟨f' ri _,eV entry_list_iadd' ?_⟩;rw[fV ri _];have hL:(s.heap.push {cls:=.type "list",data:=.seq ([]:List Value).toArray}).get? s.heap.objs.size=some {cls:=.type "list",data:=.seq #[]}:=bG _ rfl;show wpAny _ A.in1 (Builtin.List.listExtendWith (.ref s.heap.objs.size) (.ref a) (.ref s.heap.objs.size)) _ _ _;have key:=PySem.W.kdl_extend (prog:=prog) (A:=A) (s:={s with heap:=s.heap.push {cls:=.type "list",data:=.seq ([]:List Value).toArray}})
  (R:=fun(q:Result) (s':Shared)=>∃(h':Heap) (tk:Nat) (ju:Array Value) (c':Nat),q=.ok (.ret (.ref s.heap.objs.size))/\s'={s with heap:=h',toks:=tk}/\
   (∀b o,s.heap.get? b=some o->h'.get? b=some o)/\h'.get? s.heap.objs.size=some {cls:=.type "list",dict:=none,data:=.seq ju c',slots:=#[]}/\ItemsOf (fun i v=>∃k x,vs[i]?=some (k,x)/\lK k v=true) ju vs.length)
  (PySem.W.kdl_dict (knd:=bC prog w) (kvs:=vs) (ep:=ep) hd) hh (hm.push _) s.heap.objs.size (cU gn) (cU gn) (.ref s.heap.objs.size) 0 hL
  (fun h' tk ju c' hk BZ qV=>⟨h',tk,ju,c',rfl,rfl,fun b o e=>hk b o (bu (aO e)) (bh _ e),BZ,qV⟩) hn
 refine dq key (fun fin s' x=>?_) fun e s' x=>?_
 ·cases fin with
  |done f=>
   obtain⟨h',tk,ju,c',e,rfl,hk,BZ,qV⟩:=x;cases e;show wpAny _ A (load s.heap.objs.size>>=_) _ _ _;refine ak (om BZ ?_);exact aC (h h' tk ju qV hk (cT (aO BZ)))
  |again c₁=>
   refine⟨x.1,gH x.2 fun q se y=>?_⟩;obtain⟨h',tk,ju,c',rfl,rfl,hk,BZ,qV⟩:=y;show wpAny _ A (load s.heap.objs.size>>=_) _ _ _;refine ak (om BZ ?_);exact aC (h h' tk ju qV hk (cT (aO BZ)))
 ·obtain⟨_,_,_,_,e',_⟩:=x;cases e'
theorem Cb{ss:List Str}(hh:A.handled=none)(hd:(a==sysModules)=false)(hm:s.heap.DictAt (bC prog w) a vs ep)(hv:vs.map (·.1)=ss.map Sum.inr)(D3:ss.length<64)
  (h:∀h' tk D out n A8,(∀b o,s.heap.get? b=some o->h'.get? b=some o)->s.heap.objs.size<=D->h'.get? D=some {cls:=.type "list",data:=.seq out n}->StrsAre out.toList A8->A8.Perm ss->sortedS A8=true->
   Q (.ref D) {s with heap:=h',toks:=tk}):wpAny (model prog w) A (call (.builtin "sorted") [.ref a]) Q E s:=by
 have hl:vs.length=ss.length:=by have q:=cq List.length hv;rw[aK,aK]at q;exact q
 have hz:vs.length<=sizeLine:=by rw[c_];omega
 refine call_function_entry kind_sorted plain_sorted entry_sorted (args_sorted1 _) ?_
 unfold Builtin.«sorted»;refine ak (m:=checkCount "sorted" 1 1 _) (aC ?_);refine ak (Ad (A:=A.in1) hh hd hm hz fun eE tk acc hi hk hle=>?_);have RN:StrsAre acc.toList ss:=by
  refine ui (xl (by have e:=hi.1;rw[aK,<-hl,<-e,fj]) fun i x u e1 e2=>?_);rw[mw]at e2;obtain⟨k,y,e3,e4⟩:=hi.2 i u e2;have e5:(vs.map (·.1))[i]?=some k:=by rw[bA,e3];rfl
  rw[hv,bA]at e5;rw[bA]at e1;cases e6:ss[i]? with
  |none=>rw[e6]at e1;cases e1
  |some z=>rw[e6]at e1 e5;cases e1;cases e5;exact uj e4
 have b9:acc.toList.length=ss.length:=by rw[fj,hi.1,hl]
 refine ak (oh ?_ (by rw[b9,c_];omega));have EL:(eE.push (seqObj "list" acc.toList.toArray 0)).get? eE.objs.size=some (seqObj "list" acc.toList.toArray 0):=bG _ rfl;refine ak (eD (fZ slot_list_sort ⟨_,EL,rfl⟩ entry_list_sort
  (list_sort_treeK strKind_oneLt EL RN.keysOf (fun aah aai c8 e=>keyKind_strs (by rw[<-e];exact RN)) (by rw[b9];omega) fun wk a1 a2=>⟨_,rfl,?_⟩) (args_list_sort _)))
 refine aC ⟨_,rfl,?_⟩;obtain⟨A8,q1,q2,q3⟩:=sorted_out_str RN a1 a2;obtain⟨e,he⟩:=sortedHeap_at (out:=(arrOf wk).map (·.2)) EL;refine h _ tk eE.objs.size ((arrOf wk).map (·.2)) e A8 (fun b o q=>?_) hle he q1 q2 q3;have hb:=hk b o q;have gn:=aO hb;rw[sortedHeap_old (bu gn) (by rw[iK];exact kz gn)];exact bh _ hb
end
section
theorem D6(hc:X.calm=true):fG X (.type "list") (fun xs H Q=>∃(a:Addr) (kvs:List (Key×V)),xs=[.ref a]/\Rd H a (.dK kvs)/\∀D,H D=none->Q (.ref D) (upd H D (.lst (kvs.map fun p=>kV p.1)))):=by
 intro U s Z H xs us Q I r h;obtain⟨a,kvs,rfl,ha,q⟩:=h;obtain⟨u,rfl,ru⟩:=vals1 r;cases(show u=Value.ref a from ru);obtain⟨hz,hs,vs,rv,hm⟩:=(show cu X.prog X.w H s.heap a (.dK kvs)from ha.ok I.cp);obtain⟨ep,hm⟩:=hm.dictAt;have hl:=qT rv;refine PySem.W.kdl_call (PySem.W.kdl_dict (knd:=bC X.prog X.w) (kvs:=vs) (ep:=ep) hs) (I.ok.hd hc) hm (by rw[<-hl];exact hz) fun h' tk ju c' hk hD qV=>?_
 have hf:H s.heap.objs.size=none:=I.fresh;exact⟨.ref s.heap.objs.size,_,I.laid (t':=tk) (o:=.lst (kvs.map fun p=>kV p.1)) hk (aQ _) ⟨by rw[aK];exact hz,ju.toList,c',Hj rv qV,by rw[rq];exact hD⟩,rfl,q _ hf⟩
theorem Ae(hc:X.calm=true):fG X (.builtin "sorted") (fun xs H Q=>∃(a:Addr) (kvs:List (Key×V)) (ss:List Str),xs=[.ref a]/\Rd H a (.dK kvs)/\kvs.map (·.1)=ss.map Sum.inr/\ss.length<64/\∀D,H D=none->Q (.ref D) (upd H D (.lst ((cx ss).map V.str)))):=by
 intro U s Z H xs us Q I r h;obtain⟨a,kvs,ss,rfl,ha,hk,D3,q⟩:=h;obtain⟨u,rfl,ru⟩:=vals1 r;cases(show u=Value.ref a from ru);obtain⟨hz,hs,vs,rv,hm⟩:=(show cu X.prog X.w H s.heap a (.dK kvs)from ha.ok I.cp);obtain⟨ep,hm⟩:=hm.dictAt;have hv:vs.map (·.1)=ss.map Sum.inr:=by
  rw[<-hk];refine nP fun i=>?_
  rw[bA,bA];cases e:kvs[i]? with
  |none=>
   have h1:vs[i]?=none:=iu.mpr (by rw[<-qT rv];exact iu.mp e)
   rw[h1];rfl
  |some p=>
   obtain⟨z,e6⟩:=z5 rv (k:=p.1) (v:=p.2) e;rw[e6];rfl
 refine Cb (I.ok.hd hc) hs hm hv D3 fun h' tk D out n A8 hk hD hg bQ hp hs=>?_
 have e:=sS hp hs;subst e;have hf:H D=none:=I.cp.fresh hD;have hz:((cx ss).map V.str).length<=sizeLine:=by
  rw[aK,(dB ss).length_eq,c_];omega
 exact⟨.ref D,_,I.laid (t':=tk) (o:=.lst ((cx ss).map V.str)) hk hD ⟨hz,out.toList,n,pL bQ,by rw[rq];exact hg⟩,rfl,q _ hf⟩
def ng:List Tr->Option (List Str)
 |[]=>some []
 |.str z::ts=>(ng ts).map fun r=>z::r
 |_=>none
theorem uk{W:Vw}:∀{vs:List V} {ts:List Tr} {ss:List Str},bc K W vs ts->ng ts=some ss->vs=ss.map V.str/\∀z∈ss,z.length<=cw
 |[],[],ss,_,e=>by cases e;exact⟨rfl,fun z h=>by cases h⟩
 |[],_::_,_,h,_=>by cases h
 |v::vs,ts,ss,h,e=>by
  cases h with
  |cons h r=>
   cases h with
   |str z hz=>
    rename_i ts;have e':(ng ts).map (fun r=>z::r)=some ss:=e;cases q:ng ts with
    |none=>rw[q]at e';cases e'
    |some rs=>
     rw[q]at e';cases e';obtain⟨h1,h2⟩:=uk r q;exact⟨by rw[h1];rfl,fun y hy=>by
      rcases aV.mp hy with rfl|hy
      ·exact hz
      ·exact h2 y hy⟩
   |_=>cases e
def uK:List (Key×Tr)->Option (List Str)
 |[]=>some []
 |(.inr z,_)::ts=>if z.length<=cw then(uK ts).map fun r=>z::r else none
 |_=>none
theorem Cc:∀{aM:List (Key×Tr)} {ss:List Str},uK aM=some ss->aM.map (·.1)=ss.map Sum.inr/\∀z∈ss,z.length<=cw
 |[],ss,e=>by cases e;exact⟨rfl,fun z h=>by cases h⟩
 |(.inl _,_)::_,_,e=>by cases e
 |(.inr z,t)::ts,ss,e=>by
  have e':(if z.length<=cw then(uK ts).map fun r=>z::r else none)=some ss:=e;by_cases hz:z.length<=cw
  ·rw[au hz]at e';cases q:uK ts with
   |none=>rw[q]at e';cases e'
   |some rs=>
    rw[q]at e';cases e';obtain⟨h1,h2⟩:=Cc q;exact⟨by rw[ba,ba,h1],fun y hy=>by
     rcases aV.mp hy with rfl|hy
     ·exact hz
     ·exact h2 y hy⟩
  ·rw[ay hz]at e';cases e'
def y9(o:Option (List Str)):Rs Tr:=match o with
 |some ss=>if ss.length<64 then .ok (.lst ((cx ss).map .str))else .bad
 |none=>.bad
def mK:List Tr->Rs Tr
 |[.lst ts]=>y9 (ng ts)
 |[.bw aM]=>y9 (uK aM)
 |_=>.bad
theorem xm{W:Vw}(h:∀z∈ps,z.length<=cw):bc K W ((cx ps).map V.str) ((cx ps).map Tr.str):=yN fun z hz=>h z ((dB ps).mem_iff.mp hz)
theorem y_{o:Option (List Str)}{k:Tr->Prop}(q:Fi X H (y9 o) k):∃ss,o=some ss/\ss.length<64/\k (.lst ((cx ss).map .str)):=by
 unfold y9 at q;split at q
 ·have f:=gy q;exact⟨_,rfl,f.1,f.2⟩
 ·exact q.elim
theorem iQ(hc:X.calm=true):kE X (.builtin "sorted") mK:=by
 intro U s Z H xs us Q I rv ⟨B,ts,hb,r,q⟩;unfold mK at q;split at q
 ·obtain⟨x,rfl,r0⟩:=fb r;obtain⟨a,vs,rfl,h,rr⟩:=r0.lst_inv;obtain⟨ss,e1,D3,k⟩:=y_ q;obtain⟨rfl,hs⟩:=uk rr e1;exact z_ U s Z H _ us Q I rv ⟨_,ss,rfl,.of (dt h),D3,fun p hp=>k _ _ (aE.upd hp) (.zU hb hp (xm hs))⟩
 ·obtain⟨x,rfl,r0⟩:=fb r;obtain⟨a,kvs,rfl,h,ek,rr⟩:=r0.mE;obtain⟨ss,e1,D3,k⟩:=y_ q;obtain⟨e2,hs⟩:=Cc e1;exact Ae hc U s Z H _ us Q I rv ⟨_,_,ss,rfl,h.same aZ,ek.trans e2,D3,fun p hp=>k _ _ (aE.upd hp) (.zU hb hp (xm hs))⟩
 ·exact q.elim
def D7:List Tr->Rs Tr
 |[.bw aM]=>(BS aM).bind fun ts=>.ok (.lst ts)
 |_=>.bad
theorem Cd{W:Vw}:∀{kvs:List (Key×V)} {aM:List (Key×Tr)},kvs.map (·.1)=aM.map (·.1)->aM.all (fun p=>keyOk p.1)=true->bc K W (kvs.map fun p=>kV p.1) (aM.map fun p=>y2 p.1)
 |[],[],_,_=>.nil
 |[],_::_,e,_=>by cases e
 |_::_,[],e,_=>by cases e
 |(k1,v)::kvs,(k2,t)::aM,e,h=>by
  rw[ba,ba]at e;injection e with e1 e2
  have MW:k1=k2:=e1;subst MW;rw[gG,bp]at h;exact .cons (y3 h.1) (Cd e2 h.2)
theorem Np(hc:X.calm=true):kE X (.type "list") D7:=by
 intro U s Z H xs us Q I rv ⟨B,ts,hb,r,q⟩;unfold D7 at q;split at q
 ·obtain⟨x,rfl,r0⟩:=fb r;obtain⟨a,kvs,rfl,h,ek,rr⟩:=r0.mE;have f:=gy (Fi.bind q);exact D6 hc U s Z H _ us Q I rv ⟨_,_,rfl,h.same aZ,fun p hp=>f.2 _ _ (aE.upd hp) (.zU hb hp (Cd ek f.1))⟩
 ·exact q.elim
def oV:Tr->Rs Tr
 |.lst ts=>match ng ts with
  |some ss=>if ss.length<64 then .ok (.lst ((cx (dG [] ss)).map .str))else .bad
  |none=>.bad
 |_=>.bad
variable {l:Expr}{p1 p2 Wq Wr:Pos}
end
def u6(ts:List Tr)(x:Tr):Rs Tr:=if qQ x=true/\ts.all yg=true then(match ts.findIdx? (fun y=>eqT y x)with|some j=>.ok (.int j)|none=>.bad)else .bad
def Nq(ts:List Tr)(x:Tr):Rs Tr:=if qQ x=true/\ts.all yg=true then .ok (.int (ts.countP fun y=>eqT y x:Nat))else .bad
theorem FI{W:Vw}{x:Tr}:∀{vs:List V} {ts:List Tr} {us:List Value},bc K W vs ts->ts.all yg=true->Vals vs us->us.map (eU x)=ts.map fun y=>eqT y x
 |[],_,_,r,_,rv=>by cases r;cases rv;rfl
 |_::_,_,_,r,f,rv=>by
  cases r with
  |cons h r=>
   cases rv with
   |cons h1 rv=>
    rw[gG,bp]at f;rw[ba,ba,DO h f.1 h1,FI r f.2 rv]
theorem FJ{us:List Value}{x:Tr}{j:Nat}(e:us.map (eU x)=ts.map fun y=>eqT y x)(h:ts.findIdx? (fun y=>eqT y x)=some j):∃hj:j<us.length,eU x us[j]=true/\∀m (hm:m<us.length),m<j->eU x us[m]=false:=by
 obtain⟨hj,h1,h2⟩:=A9.mp h;have hl:us.length=ts.length:=by have q:=cq List.length e;rw[aK,aK]at q;exact q
 have at_:∀(i:Nat) (h1:i<us.length) (h2:i<ts.length),eU x us[i]=eqT ts[i] x:=fun i h1 h2=>by
  have q:=cq (fun l:List Bool=>l[i]?) e;simp only[bA,bq h1,bq h2]at q;exact Option.some.inj q
 refine⟨by rw[hl];exact hj,by rw[at_ j _ hj];exact h1,fun m hm Ws=>?_⟩;rw[at_ m hm (by rw[<-hl];exact hm)];have q:=h2 m Ws;cases z:eqT ts[m] x with
 |false=>rfl
 |true=>exact absurd z q
theorem Ce{x:Tr}{k:Tr->Prop}(q:Fi X H (u6 ts x) k):qQ x=true/\ts.all yg=true/\∃j:Nat,ts.findIdx? (fun y=>eqT y x)=some j/\k (.int j):=by
 unfold u6 at q;by_cases z:qQ x=true/\ts.all yg=true
 ·rw[au z]at q;cases e:ts.findIdx? (fun y=>eqT y x)with
  |none=>rw[e]at q;exact fe q
  |some j=>rw[e]at q;exact⟨z.1,z.2,j,rfl,q⟩
 ·rw[ay z]at q;exact fe q
theorem JV{x:Tr}{k:Tr->Prop}(q:Fi X H (Nq ts x) k):qQ x=true/\ts.all yg=true/\k (.int (ts.countP fun y=>eqT y x:Nat)):=by
 unfold Nq at q;by_cases z:qQ x=true/\ts.all yg=true
 ·rw[au z]at q;exact⟨z.1,z.2,q⟩
 ·rw[ay z]at q;exact fe q
theorem count_at{us:List Value}{x:Tr}(e:us.map (eU x)=ts.map fun y=>eqT y x):us.countP (eU x)=ts.countP fun y=>eqT y x:=by
 have a:us.countP (eU x)=(us.map (eU x)).countP id:=by rw[List.countP_map];rfl
 have b:(ts.countP fun y=>eqT y x)=(ts.map fun y=>eqT y x).countP id:=by rw[List.countP_map];rfl
 rw[a,b,e]
section
theorem RT{W:Vw}{vs:List V}{v:V}{tx:Tr}{qa:Addr->Option Nat}{Q:VK}(hu:X.A.units+1<cLine)(I:Inv X U Z H s)(h:g9 X.K H a vs)(r:bc X.K (⟨H,qa⟩:Vw) vs ts)(rx:Rep X.K (⟨H,qa⟩:Vw) v tx)(ru:RelV v aa){k:Tr->Prop}(q:Fi X H (u6 ts tx) k)(hk:∀j:Nat,k (.int j)->Q (.int j) H):
  wpAny (model X.prog X.w) X.A (call (.builtin "tuple.index") [.ref a,aa]) (EP X U Z Q) X.xe s:=by
 obtain⟨p1,p2,j,e,q⟩:=Ce q;obtain⟨bE,rv,pl,hz⟩:=I.tuple h
 ·obtain⟨hj,h1,h2⟩:=FJ (FI r p2 rv) e;obtain⟨⟨cls,dd,data,sl⟩,ho,hc,n,hd⟩:=(show s.heap.IsTuple a bE.toArray from pl);simp only at hc hd;subst hc hd;refine jU vH ⟨_,ho,rfl⟩ PySem.F.entry_tuple_index (PySem.F.args_tuple_index_2 _ _) (SeqAt.yh a bE.toArray n dd sl aa (eU tx) j (by simpa using hj) (by simpa using h1) fun m hm Ws=>by simpa using h2 m (by simpa using hm) Ws) ⟨ho,fun y hy=>oN I (A:=X.A.in1) hu rx p1 ru r p2 rv y (by simpa using hy),?_⟩;exact⟨.int j,H,I.tok _,⟨_,rfl⟩,hk j q⟩
theorem RU{vs:List V}{v:V}{tx:Tr}{qa:Addr->Option Nat}{Q:VK}(hu:X.A.units+1<cLine)(I:Inv X U Z H s)(h:kB X.K H a vs)(r:bc X.K (⟨H,qa⟩:Vw) vs ts)(rx:Rep X.K (⟨H,qa⟩:Vw) v tx)(ru:RelV v aa){k:Tr->Prop}(q:Fi X H (u6 ts tx) k)(hk:∀j:Nat,k (.int j)->Q (.int j) H):
  wpAny (model X.prog X.w) X.A (call (.builtin "list.index") [.ref a,aa]) (EP X U Z Q) X.xe s:=by
 obtain⟨p1,p2,j,e,q⟩:=Ce q;obtain⟨bE,rv,pl,hz⟩:=I.list h
 ·obtain⟨hj,h1,h2⟩:=FJ (FI r p2 rv) e;have hs:(j:Int)<2 ^63 - 1:=by
   have:=rv.length;rw[c_]at hz;omega
  obtain⟨⟨cls,dd,data,sl⟩,n,ho,hc,Wt,hd⟩:=id pl;simp only at hc hd Wt;have Wu:=hd;subst hc;subst Wu;refine jU PySem.F.slot_list_index ⟨_,ho,rfl⟩ PySem.F.entry_list_index (PySem.F.args_list_index_2 _ _) (SeqAt.list_indexAt a bE.toArray n dd sl aa (eU tx) j (by simpa using hj) hs (by simpa using h1) fun m hm Ws=>by simpa using h2 m (by simpa using hm) Ws) ⟨ho,fun y hy=>oN I (A:=X.A.in1) hu rx p1 ru r p2 rv y (by simpa using hy),?_⟩;exact⟨.int j,H,I.tok _,⟨_,rfl⟩,hk j q⟩
theorem RV{vs:List V}{v:V}{tx:Tr}{qa:Addr->Option Nat}{Q:VK}(hu:X.A.units+1<cLine)(I:Inv X U Z H s)(h:kB X.K H a vs)(r:bc X.K (⟨H,qa⟩:Vw) vs ts)(rx:Rep X.K (⟨H,qa⟩:Vw) v tx)(ru:RelV v aa){k:Tr->Prop}(q:Fi X H (Nq ts tx) k)(hk:∀j:Nat,k (.int j)->Q (.int j) H):
  wpAny (model X.prog X.w) X.A (call (.builtin "list.count") [.ref a,aa]) (EP X U Z Q) X.xe s:=by
 obtain⟨p1,p2,q⟩:=JV q;obtain⟨bE,rv,pl,hz⟩:=I.list h;rw[<-count_at (FI r p2 rv)]at q;obtain⟨⟨cls,dd,data,sl⟩,n,ho,hc,Wt,hd⟩:=id pl;simp only at hc hd Wt;have Wu:=hd;subst hc;subst Wu;refine jU PySem.F.slot_list_count ⟨_,ho,rfl⟩ PySem.F.entry_list_count (PySem.F.args_list_count_2 _ _) (SeqAt.list_countAt a bE.toArray n dd sl aa (eU tx)) ⟨ho,fun y hy=>oN I (A:=X.A.in1) hu rx p1 ru r p2 rv y (by simpa using hy),?_⟩;exact⟨.int (bE.countP (eU tx):Nat),H,I.tok _,⟨_,rfl⟩,hk _ q⟩
variable {es:List Expr}{aa7 cN:Pos}
def lmR(h:List Tr->Tr->Rs Tr)(r:Rs Tr)(a:Rs Tr):Rs Tr:=r.bind fun t=>match t with
 |.lst ts=>a.bind fun x=>h ts x
 |_=>.bad
inductive Wv(X:Cx)(h:List Tr->Tr->Rs Tr)(x:V)(xs:List V)(H:Hp)(Q:VK):Prop
 |mk (B:d7) (ts:List Tr) (y:V) (ty:Tr):HB B H->Rep X.K (bz B H) x (.lst ts)->xs=[y]->Rep X.K (bz B H) y ty->(Fi X H (h ts ty) fun t=>∀v H',aE H H'->Rep X.K (bz B H') v t->Q v H')->Wv X h x xs H Q
theorem RW(hu:X.A.units+1<cLine):Qh X "list.index" (Wv X u6):=by
 intro U s Z H x xs v us Q I rx rv ⟨B,ts,y,ty,hb,r,e,ry,q⟩;subst e;obtain⟨u,rfl,ru⟩:=vals1 rv;cases r with
 |lst h rr=>
  cases rx;exact RU (qa:=B.ix) hu I (.of (dt h)) (rr.same eI) (ry.same eI) ru q fun j z=>z _ H (aE.refl H) (.int _)
theorem RX(hu:X.A.units+1<cLine):Qh X "list.count" (Wv X Nq):=by
 intro U s Z H x xs v us Q I rx rv ⟨B,ts,y,ty,hb,r,e,ry,q⟩;subst e;obtain⟨u,rfl,ru⟩:=vals1 rv;cases r with
 |lst h rr=>
  cases rx;exact RV (qa:=B.ix) hu I (.of (dt h)) (rr.same eI) (ry.same eI) ru q fun j z=>z _ H (aE.refl H) (.int _)
theorem aal{name:Str}{id:String}{h:List Tr->Tr->Rs Tr}(slot:Slot "list" name id)(Mq:typeOf (.builtin id)=pure (.type "method_descriptor"))(hm:Qh X id (Wv X h))(ho:PE X o (tP X F))(he:PE X e (tP X G))(pa:PlainAttrs "list":=by exact rh)
  (oB:isCall o=false:=by rfl) (bQ:aP [e]=true:=by rfl) (e_:(b8.endLine==cN.line)=true:=by rfl):
  PE X (.Call (.Attribute o name b8) [e] [] cN) (tP X fun Y=>lmR h (F Y) (G Y)):=
 (EW pa slot Mq hm ho (zS he E9 (aG bQ).1) (fu oB) (by rw[iN bQ];rfl) e_ (aY _ _ (aG bQ).1) (cg (aG bQ).2)).weak fun Z H Q ⟨B,Y,hb,r,q⟩=>⟨B,Y,hb,r,q.bind.mono fun t qt v H1 s1 r1=>by
  split at qt
  ·rename_i ts;obtain⟨a,vs,rfl,hl,rr⟩:=r1.lst_inv;refine⟨.inl ⟨rfl,vs,.of (dt hl)⟩,B,Y,hb.same s1,r.same s1,?_⟩;have q2:=(Fi.bind qt).same s1;refine Fi.mono (r:=wO (G Y) (.ok [])) (k:=fun zs=>∃x,zs=[x]/\Fi X H (h ts x) fun t=>∀v H',aE H H'->Rep X.K (bz B H') v t->Q v H') ?_ fun zs ⟨x,ez,qx⟩ ws H2 s2 r2=>?_
   ·cases eg:G Y with
    |ok x=>rw[eg]at q2;exact⟨x,rfl,q2⟩
    |_=>rw[eg]at q2;exact q2
   ·subst ez;obtain⟨y,rfl,ry⟩:=fb r2;exact⟨B,ts,_,x,hb.same (s1.trans s2),.lst ((aX s2).h _ _ hl) (rr.same (aX s2)),rfl,ry,(qx.same (s1.trans s2)).mono fun t k v H3 s3 r3=>k v H3 ((s1.trans s2).trans s3) r3⟩
  ·exact qt.elim⟩
end
structure JW(K:Frag)(mg:Str->Option Value)(x:Str)(ts:List Tr):Prop where
 g:U' K mg x (.tup ts)
 nd:∃a o,mg x=some (.ref a)/\K.lookup a=some o/\o.cls=.type "tuple"/\o.dict=none
section
variable {es:List Expr}{cN:Pos}
inductive rTI(X:Cx)(x:V)(xs:List V)(H:Hp)(Q:VK):Prop
 |mk (B:d7) (ts:List Tr) (y:V) (ty:Tr):HB B H->Rep X.K (bz B H) x (.tup ts)->xs=[y]->Rep X.K (bz B H) y ty->(Fi X H (u6 ts ty) fun t=>∀v H',aE H H'->Rep X.K (bz B H') v t->Q v H')->rTI X x xs H Q
theorem JX(hu:X.A.units+1<cLine):Qh X "tuple.index" (rTI X):=by
 intro U s Z H x xs v us Q I rx rv ⟨B,ts,y,ty,hb,r,e,ry,q⟩;subst e;obtain⟨u,rfl,ru⟩:=vals1 rv;cases r with
 |tup h rr=>
  cases rx;exact RT (W:=bz B H) (qa:=B.ix) hu I (aE.tup aZ h) (rr.same eI) (ry.same eI) ru q fun j z=>z _ H (aE.refl H) (.int _)
theorem Ww{B:d7}{Y:bf}{H1:Hp}{k:Tr->Prop}(s1:aE H H1)(q:Fi X H (G Y) k):Fi X H1 (wO (G Y) (.ok [])) fun zs=>∃x,zs=[x]/\k x:=by
 have q2:=Fi.same q s1;cases eg:G Y with
 |ok x=>rw[eg]at q2;exact⟨x,rfl,q2⟩
 |_=>rw[eg]at q2;exact q2
theorem Wx(hu:X.A.units+1<cLine)(g:JW X.K X.mg x ts)(he:PE X e (tP X G))(hg:Gl X x:=by rfl) (hd:Db x:=by decide) (bQ:aP [e]=true:=by rfl) (e_:(b8.endLine==cN.line)=true:=by rfl):
  PE X (.Call (.Attribute (.Name x p) "index" b8) [e] [] cN) (tP X fun Y=>(G Y).bind (u6 ts)):=by
 obtain⟨⟨v,u,hm,r,q0⟩,a,ob,hm2,hk,hc,hn⟩:=g;rw[hm]at hm2;cases hm2;obtain⟨a',_,rfl,_⟩:=(q0 ⟨fun _=>none,fun _=>none⟩).dr;cases r;refine(EW PySem.F.plainAttrs_tuple vH PySem.F.type_tuple_index (JX hu) (zH (v:=.ref a) hg hm rfl hd) (zS he E9 (aG bQ).1) (fu rfl) (by rw[iN bQ];rfl) e_ (aY _ _ (aG bQ).1) (cg (aG bQ).2)).weak fun Z H Q ⟨B,Y,hb,r,q⟩=>?_
 refine⟨.inr (.inl ⟨rfl,ob,hk,hc,hn⟩),B,Y,hb,r,(Ww (B:=B) (aE.refl H) (Fi.bind q)).mono fun zs ⟨x,ez,qx⟩ ws H2 s2 r2=>?_⟩;subst ez;obtain⟨y,rfl,ry⟩:=fb r2;exact⟨B,ts,_,x,hb.same s2,q0 _,rfl,ry,(Fi.same qx s2).mono fun t k v H3 s3 r3=>k v H3 (s2.trans s3) r3⟩
theorem Wy{x1}(hu:X.A.units+1<cLine)(ht:PA X es (BA X L))(he:PE X e (tP X G))(bQ:aP [e]=true:=by rfl) (e_:(b8.endLine==cN.line)=true:=by rfl):
  PE X (.Call (.Attribute (.Tuple es x1 pos) "index" b8) [e] [] cN) (tP X fun Y=>(L Y).bind fun ts=>if ts.length<=ee then(G Y).bind (u6 ts)else .bad):=by
 intro U s Z H Q I ⟨B,Y,hb,r,q⟩;refine wpAny_Call_method_late (fu rfl) (by rw[iN bQ];rfl) e_ rfl (wpAny_Tuple_spliced (dA (ht pos U s Z H _ I ⟨B,Y,hb,r,q.bind.mono fun ts qt vs H1 s1 r1=>(⟨ts,qt,s1,r1⟩:∃ts,Fi X H (if ts.length<=ee then(G Y).bind (u6 ts)else .bad) _/\aE H H1/\bc X.K (bz B H1) vs ts)⟩) fun us s1 ⟨xs,H1,I1,rv,ts,qt,sm,r1⟩=>?_));by_cases hz:ts.length<=ee
 ·rw[au hz]at qt;have YC:us.length<=sizeLine:=by rw[<-rv.length,r1.length,<-i8];exact hz
  refine⟨YC,?_⟩;have hf:H1 s1.heap.objs.size=none:=I1.cp.fresh (aQ _);have ho:=bG s1.heap (o:={cls:=.type "tuple",data:=.seq us.toArray}) rfl;have I2:Inv X U Z (upd H1 s1.heap.objs.size (.tup xs)) {s1 with heap:=s1.heap.push {cls:=.type "tuple",data:=.seq us.toArray}}:=I1.laid (t':=s1.toks) (fun b u e=>bh _ e) (aQ _) ⟨by rw[rv.length];exact YC,us,rv,⟨_,ho,rfl,_,rfl⟩⟩;have s2:aE H (upd H1 s1.heap.objs.size (.tup xs)):=sm.trans (aE.upd hf);have rt:Rep X.K (bz B (upd H1 s1.heap.objs.size (.tup xs))) (.ref s1.heap.objs.size) (.tup ts):=.tup (.inl (.inl ((hb.same sm).new hf))) (r1.same (aX (aE.upd hf)));refine⟨"tuple","tuple.index",PySem.F.plainAttrs_tuple,vH,PySem.F.type_tuple_index,⟨_,ho,rfl⟩,fun a ea=>by cases ea;exact⟨_,ho,rfl⟩,?_⟩;have hA:=(zS he E9 (aG bQ).1) cN U _ Z _ (fun vs H3=>rTI X (.ref s1.heap.objs.size) vs H3 Q) I2 ⟨B,Y,hb.same s2,r.same s2,(Ww (B:=B) s2 (Fi.bind qt)).mono fun zs ⟨x,ez,qx⟩ ws H3 s3 r3=>by
   subst ez;obtain⟨y,rfl,ry⟩:=fb r3;exact⟨B,ts,_,x,hb.same (s2.trans s3),rt.same (aX s3),rfl,ry,(Fi.same qx (s2.trans s3)).mono fun t k v H4 s4 r4=>k v H4 ((s2.trans s3).trans s4) r4⟩⟩
  rw[aY _ _ (aG bQ).1]at hA⊢;refine mr (by show(false||(backTo cN (starEach [] X.env)).any (·.1))=false;rw[cg (es:=[]) rfl];rfl) (my ?_);exact dA hA fun us s4 ⟨vs,H4,I4,r4,q4⟩=>JX hu U s4 Z H4 (.ref s1.heap.objs.size) vs _ us Q I4 rfl r4 q4
 ·rw[ay hz]at qt;exact fe qt
def Wz:List Tr->Rs Tr
 |[.int i]=>.ok (.int i)
 |[.bl b]=>.ok (.int (if b then 1 else 0))
 |_=>.bad
theorem WA:kE X (.type "int") Wz:=by
 intro U s Z H xs us Q I rv ⟨B,ts,hb,r,q⟩;unfold Wz at q;split at q
 ·obtain⟨x,e,r⟩:=fb r;exact yE U s Z H _ us Q I rv (.inl ⟨_,by rw[e,r.int_inv],q _ H (aE.refl H) (.int _)⟩)
 ·obtain⟨x,e,r⟩:=fb r;exact yE U s Z H _ us Q I rv (.inr ⟨_,by rw[e,r.wM],q _ H (aE.refl H) (.int _)⟩)
 ·exact q.elim
variable {c m:Str}{st:Stmt}{f:Addr}{fd:FuncData}{k:Nat}
end
structure MethAt(K:Frag)(c m:Str)(st:Stmt)(ps:List Str)(f:Addr)(fd:FuncData):Prop where
 fn:∃qual,yf K m qual st f fd
 bd:Binds K fd ps []
 mt:Meth K (clsAt K c) m f
 cl:Dt K (clsAt K c)
def Dh(fs:List (Str×Tr))(m:Str):Bool:=(fs.lookup m).isNone
theorem mL{W:Vw}(f:Str):∀{gw:List (Str×V)} {fs:List (Str×Tr)},gw.map (·.1)=fs.map (·.1)->bc K W (gw.map (·.2)) (fs.map (·.2))->(fs.lookup f=none/\gw.lookup f=none)\/∃t v,fs.lookup f=some t/\gw.lookup f=some v/\Rep K W v t
 |[],[],_,_=>.inl ⟨rfl,rfl⟩
 |[],_::_,e,_=>by cases e
 |_::_,[],e,_=>by cases e
 |(k1,v1)::gw,(k2,t2)::fs,e,r=>by
  rw[ba,ba]at e;injection e with e1 e2
  have MW:k1=k2:=e1;subst MW;cases r with
  |cons hh r=>
   by_cases z:f=k1
   ·subst z;exact .inr ⟨t2,v1,by rw[bX,bB],by rw[bX,bB],hh⟩
   ·rw[bX,jo z,bX,jo z];exact mL f e2 r
section
variable {cN:Pos}{c m:Str}{st:Stmt}{fd:FuncData}{k:Nat}
def uL(c m:Str)(h:List Tr->Rs Tr)(r:Rs Tr)(l:Rs (List Tr)):Rs Tr:=r.bind fun t=>match t with
 |.ob x fs=>if x=c/\Dh fs m=true then l.bind fun ts=>h (.ob x fs::ts)else .bad
 |_=>.bad
theorem Af{W:Vw}{gw:List (Str×V)}(e:gw.map (·.1)=aM.map (·.1))(r:bc K W (gw.map (·.2)) (aM.map (·.2)))(hm:Dh aM m=true):gw.lookup m=none:=by
 rcases mL m e r with⟨_,z⟩|⟨t,v,z,_⟩
 ·exact z
 ·unfold Dh at hm;rw[z]at hm;cases hm
theorem RY(D:MethAt X.K c m st ps ae fd)(G:dw X.prog X.w X.K X.mg X.base lq k ae fd ps (spT X.K h))(hr:cz k X.A)(ho:PE X o (tP X F))(ha:PA X (e::af) (BA X L)){pl:Sem Bool}(bQ:aP (e::af)=true:=by rfl)
  (ht:eval (.Call (.Attribute o m b8) (e::af) [] pos) X.env=r6 pos b8 o m (e::af) X.env pl:=by rfl):PE X (.Call (.Attribute o m b8) (e::af) [] pos) (tP X fun Y=>uL c m h (F Y) (L Y)):=
 (EU (pl:=pl) ho D.cl D.mt G hr D.bd .nil I0 ha (bQ:=aY _ _ (aG bQ).1) (ny:=cg (aG bQ).2) ht).weak fun Z H Q ⟨B,Y,hb,r,q⟩=>⟨B,Y,hb,r,q.bind.mono fun t qt v H1 s1 rv=>by
  split at qt
  ·rename_i x fs;obtain⟨a,dx,gw,rfl,hh,ek,rr⟩:=rv.zR;split at qt
   ·rename_i z;obtain⟨rfl,hm⟩:=z;refine⟨a,dx,gw,rfl,dt hh,Af ek rr hm,B,Y,hb.same s1,r.same s1,(Fi.same (Fi.bind qt) s1).mono fun ts qs vs H2 s2 r2=>?_⟩;cases e:h (.ob x fs::ts)with
    |ok t=>
     rw[e]at qs;exact⟨B,.ob x fs::ts,hb.same (s1.trans s2),by
      show bc X.K (bz B H2) (V.ref a::(vs++[])) (.ob x fs::ts);rw[jm];exact .cons ((Rep.ob hh ek rr).same (aX s2)) r2,t,e,fun v H3 s3 r3=>qs v H3 ((s1.trans s2).trans s3) r3⟩
    |exc c=>rw[e]at qs;exact(qs _ (aE.refl _)).elim
    |bad=>rw[e]at qs;exact fe qs
   ·exact qt.elim
  ·exact qt.elim⟩
theorem Nr(D:MethAt X.K c m st ps ae fd)(G:dw X.prog X.w X.K X.mg X.base lq k ae fd ps (spT X.K h))(hr:cz k X.A)(ho:PE X o (tP X F)){pl:Sem Bool}
  (ht:eval (.Call (.Attribute o m b8) [] [] pos) X.env=r6 pos b8 o m [] X.env pl:=by rfl):PE X (.Call (.Attribute o m b8) [] [] pos) (tP X fun Y=>uL c m h (F Y) (.ok [])):=
 (Bm (pl:=pl) ho D.cl D.mt G hr D.bd .nil I0 ht).weak fun Z H Q ⟨B,Y,hb,r,q⟩=>⟨B,Y,hb,r,q.bind.mono fun t qt v H1 s1 rv=>by
  split at qt
  ·rename_i x fs;obtain⟨a,dx,gw,rfl,hh,ek,rr⟩:=rv.zR;split at qt
   ·rename_i z;have q1:Fi X H (h [.ob x fs]) _:=qt;obtain⟨rfl,hm⟩:=z;refine⟨a,dx,gw,rfl,dt hh,Af ek rr hm,?_⟩;cases e:h [.ob x fs]with
    |ok t=>
     rw[e]at q1;exact⟨B,[.ob x fs],hb.same s1,.cons (.ob hh ek rr) .nil,t,e,fun v H3 s3 r3=>q1 v H3 (s1.trans s3) r3⟩
    |exc c=>rw[e]at q1;exact(q1 _ (aE.refl _)).elim
    |bad=>rw[e]at q1;exact fe q1
   ·exact qt.elim
  ·exact qt.elim⟩
end
def xcZ(K:Frag)(B:d7)(H:Hp)(E:XK):Tr->Ab->Prop:=fun c A=>∀B' H',Grows B H B' H'->HA K B' A H'->E (VN K c) none H'
inductive uM(K:Frag)(f:List Tr->Ab->Rz Tr)(vs:List V)(H:Hp)(Q:VK)(E:XK):Prop
 |mk (B:d7) (A:Ab) (ts:List Tr):HA K B A H->bc K (bz B H) vs ts->(gD (xcZ K B H E) (f ts A) fun t A'=>∀v B' H',Grows B H B' H'->HA K B' A' H'->Rep K (bz B' H') v t->Q v H')->uM K f vs H Q E
theorem dw.toZ {base:Heap}{k:Nat}{f:Addr}{fd:FuncData}(F:dw P w K mg base lq k f fd ps (spT K h)):dw P w K mg base (ud P w) k f fd ps (uM K fun ts A=>fQ (h ts) A):=by
 have key:∀{vs:List V} {H:Hp} {Q:VK} {E:XK},uM K (fun ts A=>fQ (h ts) A) vs H Q E->∀E',spT K h vs H Q E':=fun{vs H Q E} ⟨B,A,ts,ha,r,q⟩ E'=>by
  have q:gD (xcZ K B H E) (fQ (h ts) A) _:=q;cases e:h ts with
  |ok t=>rw[e]at q;exact⟨B,ts,ha.hb,r,t,e,fun v H' s rv=>q v B H' (.of s) (ha.same s) rv⟩
  |_=>rw[e]at q;exact fe q
 refine⟨fun vs H Q E q=>F.len vs H Q E (key q E),fun A outer s H args us vs Q E hr e0 hb hv q=>?_⟩;refine gH (F.run A outer s H args us vs Q E hr e0 hb hv (key q E)) fun r s' z=>?_
 cases r with
 |error e=>exact fe z
 |ok fl=>
  cases fl with
  |_=>exact z
def cj(r:Rz Out):Rz Tr:=r.bind fun o A=>match o with
 |.nx _=>.ok .bO A
 |.ret t=>.ok t A
 |_=>.bad
theorem yf.okS {base:Heap}{qual:Str}{st:Stmt}{f:Addr}{fd:FuncData}{N:List Str}{k:Nat}{h:List Tr->Ab->Rz Tr}(Fn:yf K x qual st f fd)(S:gc N ps (aW st))(len:∀ts A,h ts A≠ .bad->ts.length=ps.length)
  (jV:∀(eY:Value) (A:Around) (outer:List Env) (s:Shared) (H:Hp) (E:XK),cz k (A.deeper (envOfC qual (aW st) s.heap.objs.size f eY))->
   ∃G,nC (nz (ud P w) P w K mg base N qual (aW st) f eY A outer s H E) (eW st) (tZ (nz (ud P w) P w K mg base N qual (aW st) f eY A outer s H E) G)/\∀ts A,h ts A≠ .bad->h ts A=cj (G (startT N.length ts) A)):dw P w K mg base (ud P w) (k+1) f fd ps (uM K h):=by
 obtain⟨oc,od,kV,doc,pm,an,eY,ct,IL,rfl,lk,Dk⟩:=Fn.ex;have nb:∀{B:d7} {A:Ab} {H:Hp} {E:XK} {ts:List Tr} {k:Tr->Ab->Prop},gD (xcZ K B H E) (h ts A) k->h ts A≠ .bad:=fun{B A H E ts k} q z=>by rw[z]at q;exact q
 refine OJ lk Dk S (fun vs H Q E ⟨B,A,ts,ha,r,q⟩=>by rw[r.length];exact len ts A (nb q)) fun A outer s H vs Q E hr ⟨B,A1,ts,ha,r,q⟩=>?_
 obtain⟨G,hG,hE⟩:=jV eY A outer s H E hr;refine⟨_,hG,B,H,B,A1,startT N.length ts,ha.hb,.refl,ha,bV.start r,w4,?_⟩;rw[hE ts A1 (nb q)]at q;refine(gD.bind q).imp (fun c A2 z B' H' g kO e s x=>Jt x (z B' H' g kO))|>.mono fun o A2 z=>?_
 cases o with
 |nx Y=>exact fun cK B' H' g kO r' n'=>z .bO B' H' g kO .bO
 |ret t=>exact fun v B' H' g kO r'=>z v B' H' g kO r'
 |_=>exact fe z
def eX(n m:Nat)(G:bf->Ab->Rz Out)(ts:List Tr)(A:Ab):Rz Tr:=if ts.length=n then cj (G (startT m ts) A)else .bad
theorem Cf{n:Nat}{G:bf->Ab->Rz Out}{A:Ab}(h:eX n i G ts A≠ .bad):ts.length=n:=by
 unfold eX at h;by_cases z:ts.length=n
 ·exact z
 ·rw[ay z]at h;exact absurd rfl h
theorem Nt{m:Nat}{G:bf->Ab->Rz Out}{A:Ab}(h:eX i m G ts A≠ .bad):eX i m G ts A=cj (G (startT m ts) A):=by
 unfold eX;rw[au (Cf h)]
section
variable {h:List Tr->Ab->Rz Tr}{st:Stmt}{fd:FuncData}{k:Nat}
theorem D8{B1:d7}{H1:Hp}{A1:Ab}{vs:List V}{Q:VK}(hb:HB B H)(g:Grows B H B1 H1)(ha:HA X.K B1 A1 H1)(r:bc X.K (bz B1 H1) vs ts)(q:gD (XE X B H) (h ts A1) fun t A'=>∀v B' H',Grows B H B' H'->HA X.K B' A' H'->Rep X.K (bz B' H') v t->Q v H'):uM X.K h vs H1 Q (EX X):=
 ⟨B1,A1,ts,ha,r,(q.imp fun c A' z=>z.grow hb g).mono fun t A' z v B' H' g' kO rv=>z v B' H' (g.trans hb g') kO rv⟩
theorem WB(D:yL X.K X.mg x st ps ae fd)(G:dw X.prog X.w X.K X.mg X.base (ud X.prog X.w) k ae fd ps (uM X.K h))(hr:cz k X.A)(ha:PA X (e::af) (LS X ag))(hx:X.ex=[]:=by rfl) (hg:Gl X x:=by rfl) (eM:Db x:=by decide) (bQ:aP (e::af)=true:=by rfl):
  PE X (.Call (.Name x p) (e::af) [] pos) (tE X fun Y A=>(ag Y A).bind h):=
 (ET (p:=p) (pos:=pos) G hr hg D.mg D.fn.kp D.bd .nil (lU hx) ha (eM:=eM) (he:=aY _ _ (aG bQ).1) (ny:=cg (aG bQ).2)).weak fun Z H Q ⟨B,A,Y,ha,r,n,q⟩=>⟨B,A,Y,ha,r,n,q.bind.mono fun ts A1 qt vs B1 H1 g1 mj r1=>by
  show uM X.K h (vs++[]) H1 Q (EX X);rw[jm];exact D8 ha.hb g1 mj r1 qt⟩
variable {c m:Str}
def qi(c m:Str)(h:List Tr->Ab->Rz Tr)(r:Rz Tr)(l:Ab->Rz (List Tr)):Rz Tr:=r.bind fun t A=>match t with
 |.at i=>match A[i]? with
  |some (.ins x fs)=>if x=c/\Dh fs m=true then(l A).bind fun ts A=>h (.at i::ts) A else .bad
  |_=>.bad
 |_=>.bad
theorem FK{A:Ab}(ha:HA K B A H)(p8:B.ix a=some i)(e:A[i]?=some (.ins x aM))(hm:Dh aM m=true):∃dx gw,H a=some (.ins (clsAt K x) dx gw)/\gw.lookup m=none:=by
 obtain⟨_,dx,gw,h1,_,_,h4,h5⟩:=ha.get p8 e;refine⟨dx,gw,h1,?_⟩;rcases mL m h4 h5 with⟨_,z⟩|⟨t,v,z,_⟩
 ·exact z
 ·unfold Dh at hm;rw[z]at hm;cases hm
theorem RZ(D:MethAt X.K c m st ps ae fd)(G:dw X.prog X.w X.K X.mg X.base (ud X.prog X.w) k ae fd ps (uM X.K h))(hr:cz k X.A)(ho:PE X o (tE X ah))(ha:PA X (e::af) (LS X ag)){pl:Sem Bool}(hx:X.ex=[]:=by rfl) (bQ:aP (e::af)=true:=by rfl)
  (ht:eval (.Call (.Attribute o m b8) (e::af) [] pos) X.env=r6 pos b8 o m (e::af) X.env pl:=by rfl):PE X (.Call (.Attribute o m b8) (e::af) [] pos) (tE X fun Y A=>qi c m h (ah Y A) (ag Y)):=
 (EU (pl:=pl) ho D.cl D.mt G hr D.bd .nil (lU hx) ha (bQ:=aY _ _ (aG bQ).1) (ny:=cg (aG bQ).2) ht).weak fun Z H Q ⟨B,A,Y,ha,r,n,q⟩=>⟨B,A,Y,ha,r,n,q.bind.mono fun t A1 qt v B1 H1 g1 mj rv=>by
  split at qt
  ·obtain⟨a,rfl,p8⟩:=rv.mF;split at qt
   ·rename_i eo;obtain⟨⟨rfl,hm⟩,q2⟩:=gz qt;obtain⟨dx,gw,k1,k2⟩:=FK mj p8 eo hm;refine⟨a,dx,gw,rfl,k1,k2,B1,A1,Y,mj,r.grow n g1,n,((gD.bind q2).imp fun c A' z=>z.grow ha.hb g1).mono fun ts A2 qs vs B2 H2 g2 oS rs=>?_⟩;show uM X.K h (.ref a::(vs++[])) H2 Q (EX X);rw[jm];exact D8 ha.hb (g1.trans ha.hb g2) oS (.cons (.at (g2.jH.x _ _ p8)) rs) qs
   ·exact qt.elim
  ·exact qt.elim⟩
theorem Nu(D:MethAt X.K c m st ps ae fd)(G:dw X.prog X.w X.K X.mg X.base (ud X.prog X.w) k ae fd ps (uM X.K h))(hr:cz k X.A)(ho:PE X o (tE X ah)){pl:Sem Bool}(hx:X.ex=[]:=by rfl)
  (ht:eval (.Call (.Attribute o m b8) [] [] pos) X.env=r6 pos b8 o m [] X.env pl:=by rfl):PE X (.Call (.Attribute o m b8) [] [] pos) (tE X fun Y A=>qi c m h (ah Y A) fun A=>.ok [] A):=
 (Bm (pl:=pl) ho D.cl D.mt G hr D.bd .nil (lU hx) ht).weak fun Z H Q ⟨B,A,Y,ha,r,n,q⟩=>⟨B,A,Y,ha,r,n,q.bind.mono fun t A1 qt v B1 H1 g1 mj rv=>by
  split at qt
  ·obtain⟨a,rfl,p8⟩:=rv.mF;split at qt
   ·rename_i eo;obtain⟨⟨rfl,hm⟩,q2⟩:=gz qt;obtain⟨dx,gw,k1,k2⟩:=FK mj p8 eo hm;refine⟨a,dx,gw,rfl,k1,k2,?_⟩;show uM X.K h [.ref a] H1 Q (EX X);exact D8 ha.hb g1 mj (.cons (.at p8) .nil) q2
   ·exact qt.elim
  ·exact qt.elim⟩
end
abbrev bmV:List Value:=[.type "ValueError",.type "Exception",.type "BaseException",.type "object"]
structure qj(K:Frag)(mg:Str->Option Value)(x:Str):Prop where
 mg:mg x=some (.ref (clsAt K x))
 ex:PySem.W.excIn K (clsAt K x) bmV "ValueError.__new__"=true
theorem Nv{h:Heap}{bmB:List Value}{newId:String}(X:K.In h)(q:PySem.W.excIn K a bmB newId=true):
  ∃bm N nm qn bs hd sn sub ab col dd k0 k1 k2 k3 k5 mN,h.get? a=some (excClassObj nm qn a N bs bm hd sn sub ab col dd k0 k1 k2 k3 k5 newId)/\h.Ns N mN/\mN "__init__"=none/\OwnTail h bmB bm:=by
 unfold PySem.W.excIn at q;split at q
 ·rename_i d0 cd sl ho;split at q
  ·rename_i C2 bm j0 j1 j2 j3 n j5 hm hs;simp only[bp,dZ,nQ]at q;obtain⟨⟨⟨⟨⟨e1,e2⟩,e3⟩,e4⟩,e5⟩,e6⟩:=q;subst e1 e2;obtain⟨nm,bs,mro,ns,qn,hd,sn,sub,ab,col,del⟩:=cd;have hm':mro=_:=hm;have TM:del=false:=e3;have e5':PySem.W.nsOkIn K ns=true:=e5;have e6':PySem.W.nsIn K ns "__init__"=some none:=e6;subst hm' TM;obtain⟨l⟩:=sl;have hs':l=_:=hs;subst hs';exact⟨bm,ns,nm,qn,bs,hd,sn,sub,ab,col,d0,j0,j1,j2,j3,j5,_,X _ _ ho,.of_isNs (PySem.W.isNs_of_in X e5'),PySem.W.nsMap_none_of_in X e5' e6',PySem.W.tail_of_in X e4⟩
  ·cases q
 ·cases q
section
variable {np:Pos}
def D9(x:Str)(l:Rz (List Tr)):Rz Out:=l.bind fun ts A=>if ts.length<=ee then .exc (.str x) A else .bad
theorem Nw(D:qj X.K X.mg x)(ha:PA X (e::af) (LS X ag))(hx:X.ex=[]:=by rfl) (hc:X.calm=true:=by rfl) (hg:Gl X x:=by rfl) (eM:Db x:=by decide) (bQ:aP (e::af)=true:=by rfl):
  PS X (.Raise (some (.Call (.Name x np) (e::af) [] b8)) none pos) (tZ X fun Y A=>D9 x (ag Y A)):=by
 intro U s Z H D' I ⟨B0,H0,B,A,Y,hb,g,hA,r,n,q⟩;obtain⟨bm,N,nm,qn,bs,hd,sn,sub,ab,col,dd,k0,k1,k2,k3,k5,mN,hC,hN,hni,T⟩:=Nv (h:=X.base) I.ok.mod.Oz D.ex;have WC:starEach (e::af) X.env=(false,eval e X.env)::starEach af X.env:=aY _ _ (aG bQ).1;have ny:(backTo b8 (starEach af X.env)).any (·.1)=false:=cg (aG bQ).2;refine wpAny_Raise_call_subU (C:=clsAt X.K x) (nm:=nm) (q:=qn) (N:=N) (bs:=bs) (bm:=bm) (hdct:=hd) (sn:=sn) (sub:=sub) (ab:=ab) (col:=col) (dd:=dd) (k0:=k0) (k1:=k1) (k2:=k2) (k3:=k3) (k5:=k5)
  Bc (by decide+kernel) Bc (mN:=mN) (T.hasType (by decide+kernel)) (I.ok.hd hc) (by rw[WC];show(false||(backTo b8 (starEach af X.env)).any (·.1))=false;rw[ny];rfl) hni
  (pE I hg D.mg ⟨rfl,?_⟩ eM)
 have hA2:=ha b8 U s Z H (fun vs H2=>vs.length<=sizeLine/\EX X (.ref (clsAt X.K x)) none H2) I ⟨B,A,Y,hA,r,n,((gD.bind q).imp fun c A' z=>z.grow hb g).mono fun ts A2 qt vs B2 H2 g2 oS rs=>by
  obtain⟨hl,q2⟩:=gz qt;exact⟨by rw[rs.length,<-i8];exact hl,(show XE X B0 H0 (.str x) A2 from q2) B2 H2 (g.trans hb g2) oS⟩⟩
 rw[WC]at hA2⊢;refine my (dA hA2 fun us s2 ⟨vs,H2,I2,rv,hl,hE⟩=>⟨rfl,by rw[<-rv.length];exact hl,I2.bk _ _ hC,hN.keeps I2.bk,T.keeps I2.bk,fun h' a hm=>hE _ _ ?_⟩);obtain⟨t,e1,e2,e3⟩:=hm.there;refine⟨a,U,Z,s2.heap,rfl,I2.kept (t':=s2.toks) hm.keeps,⟨⟨_,_,_,e1,rfl,rfl,rfl,.inl rfl⟩,?_,hm.new⟩,fun b n=>I2.BP hx n,fun p hp=>⟨_,(I2.pin p (jk _ hp)).1⟩,fun b nb=>by
  cases z:s2.heap.get? b with
  |none=>rfl
  |some o=>rw[hm.keeps b o z]at nb;cases nb⟩
 cases z:H2 a with
 |none=>rfl
 |some o=>
  obtain⟨u,e4⟩:=(I2.cp a o z).get;rw[hm.new]at e4;cases e4
end
theorem Hk{n:Nat}{env:Env}:swapsWith e (some (.Subscript o tg p)) n env=pure false:=by cases e<;>rfl
theorem Hl{env:Env}:swapsWith e (some (.Attribute o x p)) i env=pure false:=by cases e<;>rfl
def y'(f:Str)(t:Tr):List (Str×Tr)->List (Str×Tr)
 |[]=>[(f,t)]
 |(g,x)::r=>if g=f then(g,t)::r else(g,x)::y' f t r
theorem Cg{W:Vw}{f:Str}{v:V}{t:Tr}(rv:Rep K W v t):∀{gw:List (Str×V)} {fs:List (Str×Tr)},gw.map (·.1)=fs.map (·.1)->bc K W (gw.map (·.2)) (fs.map (·.2))->(lM f v gw).map (·.1)=(y' f t fs).map (·.1)/\bc K W ((lM f v gw).map (·.2)) ((y' f t fs).map (·.2))
 |[],[],_,_=>⟨rfl,.cons rv .nil⟩
 |[],_::_,e,_=>by cases e
 |_::_,[],e,_=>by cases e
 |(k1,v1)::gw,(k2,t2)::fs,e,r=>by
  rw[ba,ba]at e;injection e with e1 e2
  have MW:k1=k2:=e1;subst MW;cases r with
  |cons hh r=>
   unfold lM y';by_cases z:k1=f
   ·rw[au z,au z];exact⟨by rw[ba,ba,e2],.cons rv r⟩
   ·rw[ay z,ay z];obtain⟨p1,p2⟩:=Cg rv e2 r;exact⟨by rw[ba,ba,p1],.cons hh p2⟩
theorem lookup_some{W:Vw}{gw:List (Str×V)}{t:Tr}(h:gw.map (·.1)=aM.map (·.1))(r:bc K W (gw.map (·.2)) (aM.map (·.2)))(e:aM.lookup x=some t):∃v,gw.lookup x=some v/\Rep K W v t:=by
 rcases mL x h r with⟨z,_⟩|⟨t',v,z,ev,rv⟩
 ·cases e.symm.trans z
 ·cases e.symm.trans z;exact⟨v,ev,rv⟩
structure g7(K:Frag)(xs:List Str)(f:Str):Prop where
 all:∀x∈xs,Dt K (clsAt K x)/\qL K (clsAt K x) f
section
variable {f:Str}{G:bf->Ab->Rz Tr}
def jg(ps:List Str)(f:Str):Tr->Rs Tr
 |.ob x fs=>if ps.contains x=true then kh (fs.lookup f)else .bad
 |_=>.bad
theorem R0(T:g7 X.K ps f)(he:PE X e (tP X F))(hb:attributeBase e f X.env (eval e X.env)=eval e X.env:=by first|exact fu rfl|rfl):PE X (.Attribute e f pos) (tP X fun Y=>(F Y).bind (jg ps f)):=
 (II he hb).weak fun Z H Q ⟨B,Y,hb,r,q⟩=>⟨B,Y,hb,r,q.bind.mono fun t qt v H1 s1 rv=>by
  unfold jg at qt;split at qt
  ·obtain⟨a,dx,gw,rfl,h,ek,rr⟩:=rv.zR;split at qt
   ·rename_i hx;obtain⟨t,et,k⟩:=fy qt;have c:=T.all _ (dU.mp hx);obtain⟨v,ev,rv⟩:=lookup_some ek rr et;exact⟨a,_,dx,gw,v,rfl,dt h,c.1,c.2,ev,k v H1 s1 rv⟩
   ·exact qt.elim
  ·exact qt.elim⟩
def u7(ps:List Str)(f:Str)(r:Rz Tr):Rz Tr:=r.bind fun t A=>match t with
 |.at i=>match A[i]? with
  |some (.ins x fs)=>if ps.contains x=true then fQ (kh (fs.lookup f)) A else .bad
  |_=>.bad
 |_=>.bad
theorem R3(T:g7 X.K ps f)(he:PE X e (tE X G))(hb:attributeBase e f X.env (eval e X.env)=eval e X.env:=by first|exact fu rfl|rfl):PE X (.Attribute e f pos) (tE X fun Y A=>u7 ps f (G Y A)):=
 (II he hb).weak fun Z H Q ⟨B,A,Y,ha,r,n,q⟩=>⟨B,A,Y,ha,r,n,q.bind.mono fun t A1 qt v B1 H1 g1 mj rv=>by
  split at qt
  ·obtain⟨a,rfl,p8⟩:=rv.mF;split at qt
   ·rename_i eo;obtain⟨hx,q2⟩:=gz qt;obtain⟨_,dx,gw,h1,_,_,h4,h5⟩:=mj.get p8 eo;have c:=T.all _ (dU.mp hx);obtain⟨t,et,k⟩:=fy (oQ (X:=X) (H:=H1) q2);obtain⟨v,ev,rv⟩:=lookup_some h4 h5 et;exact⟨a,_,dx,gw,v,rfl,h1,c.1,c.2,ev,k v B1 H1 g1 mj rv⟩
   ·exact qt.elim
  ·exact qt.elim⟩
def WD(ps:List Str)(f:Str)(v:Rz Tr)(o:Ab->Rz Tr)(Y:bf):Rz Out:=v.bind fun tv A=>(o A).bind fun t A=>match t with
 |.at i=>match A[i]? with
  |some (.ins x fs)=>if ps.contains x=true/\fs.length<1000 then .ok (.nx Y) (A.set i (.ins x (y' f tv fs)))else .bad
  |_=>.bad
 |_=>.bad
theorem WE(T:g7 X.K ps f)(ho:PE X o (tE X G))(hv:PE X tg (tE X ah)):PS X (.Assign [.Attribute o f p] tg pos) (tZ X fun Y A=>WD ps f (ah Y A) (G Y) Y):=
 (Qa ho hv Hl).weak fun D Z H ⟨B0,H0,B,A,Y,hb,g,ha,r,n,q⟩=>oR hb g ha r n q.bind fun tv A1 v B1 H1 q1 g1 mj r1 rv _=>oR hb g1 mj r1 n (gD.bind q1) fun t A2 w B2 H2 q2 g2 oS r2 oA g12=>by
  split at q2
  ·obtain⟨a,rfl,p8⟩:=oA.mF;split at q2
   ·rename_i i _ x fs eo;obtain⟨⟨hx,hl⟩,q3⟩:=gz q2;obtain⟨hd,dx,gw,h1,h2,h3,h4,h5⟩:=oS.get p8 eo;have c:=T.all x (dU.mp hx);have b9:gw.length=fs.length:=by have:=cq List.length h4;rw[aK,aK]at this;exact this
    obtain⟨p1,p2⟩:=Cg (f:=f) (rv.same g12.jH) h4 h5;have ZY:dx≠a:=fun z=>by rw[z,show B2.ix a=some i from p8]at h3;cases h3
    obtain⟨g3,h6⟩:=oS.write (o:=.ins x (y' f tv fs)) (u:=.ins (clsAt X.K x) dx (lM f v gw)) p8 ⟨hd,dx,_,a_,by rw[aF ZY];exact h2,h3,p1,by rw[iD hd];exact p2⟩;exact⟨a,_,dx,gw,rfl,h1,c.1,c.2,by rw[b9];exact hl,q3 Z B2 _ (g2.trans hb g3) h6 (r2.grow n g3) n⟩
   ·exact q2.elim
  ·exact q2.elim
end
theorem Nx{xc:Tr->Ab->Prop}{r:Rs Tr}{A:Ab}{k:Tr->Ab->Prop}(q:gD xc (q_ r A) k):Fi X H r fun t=>Ia t=true/\k t A:=by
 cases r with
 |ok t=>exact gz q
 |exc c=>exact fe q
 |bad=>exact q
section
variable {b i value:Expr}{G E:bf->Ab->Rz Tr}{h:Tr->Tr->Rs Tr}
def Ny(h:Tr->Tr->Rs Tr)(tg:Rz Tr)(b:Ab->Rz Tr):Rz Tr:=tg.bind fun x A=>(b A).bind fun y A=>q_ (h (aw 1 A x) (aw 1 A y)) A
theorem Hm{Q:VK}(q:tE X (fun Y A=>Ny h (ah Y A) (G Y)) Z H Q):P0 (rT X h) (tE X ah) (tE X G) Z H Q:=by
 obtain⟨B,A,Y,ha,r,n,q⟩:=q;refine⟨B,A,Y,ha,r,n,q.bind.mono fun x A1 qx v B1 H1 g1 mj rv=>⟨B1,A1,Y,mj,r.grow n g1,n,((gD.bind qx).imp fun c A' z=>z.grow ha.hb g1).mono fun y A2 qy u B2 H2 g2 oS ru=>?_⟩⟩;refine⟨B2.un,aw 1 A2 x,aw 1 A2 y,Fx oS.hb,iP oS 1 (rv.same g2.jH),iP oS 1 ru,(Nx qy).mono fun t ⟨ft,k⟩ w H3 s3 oA=>?_⟩;exact k w B2 H3 ((g1.trans ha.hb g2).trans ha.hb (.of s3)) (oS.same s3) (yY (oS.same s3) oA ft)
theorem aam(hu:X.A.units+1<cLine)(h1:PE X tg (tE X ah))(h2:PE X b (tE X G))(hs:sk b:=by exact fun _ _=>rfl):PE X (.Subscript tg b pos) (tE X fun Y A=>Ny jf (ah Y A) (G Y)):=(OK (VD hu) h1 h2 hs).weak fun _ _ _ q=>Hm q
def Ci(A:Ab)(t tk tv:Tr):Option Ab:=match t,jt tk with
 |.at i,some k=>match A[i]? with
  |some (.bw aM)=>if aM.length<ee then some (A.set i (.bw (kP aM k tv)))else none
  |_=>none
 |_,_=>none
def R4(v:Rz Tr)(o k:Ab->Rz Tr)(Y:bf):Rz Out:=v.bind fun tv A=>(o A).bind fun t A=>(k A).bind fun tk A=>match Ci A t tk tv with
 |some A'=>.ok (.nx Y) A'
 |none=>.bad
theorem di.length {W:Vw}{kvs:List (Key×V)}{aM:List (Key×Tr)}(h:di K W kvs aM):kvs.length=aM.length:=by
 have e:=cq List.length h.keys;rw[aK,aK]at e;exact e
theorem D_{A A':Ab}{t tk tv:Tr}(e:Ci A t tk tv=some A'):∃j aM key,t=.at j/\jt tk=some key/\A[j]?=some (.bw aM)/\aM.length<ee/\A'=A.set j (.bw (kP aM key tv)):=by
 unfold Ci at e;split at e
 ·rename_i ek;split at e
  ·rename_i eo;split at e
   ·rename_i hl;cases e;exact⟨_,_,_,rfl,ek,eo,hl,rfl⟩
   ·cases e
  ·cases e
 ·cases e
theorem R5(hu:X.A.units+1<cLine)(ho:PE X o (tE X ah))(hi:PE X i (tE X G))(hv:PE X value (tE X E)):
  PS X (.Assign [.Subscript o i p] value pos) (tZ X fun Y A=>R4 (E Y A) (ah Y) (G Y) Y):=
 (Mx hu ho hi hv Hk).weak fun D Z H ⟨B0,H0,B,A,Y,hb,g,ha,r,n,q⟩=>oR hb g ha r n q.bind fun tv A1 v B1 H1 q1 g1 mj r1 rv _=>oR hb g1 mj r1 n (gD.bind q1) fun t A2 w B2 H2 q2 g2 oS r2 oA g12=>oR hb g2 oS r2 n (gD.bind q2) fun tk A3 y B3 H3 q3 g3 Ic r3 ry g23=>by
  have rw3:=oA.same g23.jH;have YI:=(rv.same g12.jH).same g23.jH;split at q3
  ·rename_i ed;obtain⟨j,aM,key,rfl,ek,eo,hl,rfl⟩:=D_ ed;obtain⟨c,rfl,p8⟩:=rw3.mF;obtain⟨hd,kvs,h1,h2⟩:=Ic.get p8 eo;cases mG ry ek;obtain⟨g4,h6⟩:=Ic.write (o:=.bw (kP aM key tv)) (u:=.dK (putK kvs key v)) p8 ⟨hd,_,a_,by rw[iD hd];exact h2.put key YI⟩;exact⟨c,_,rfl,Dz.k h1 (by rw[h2.length,<-i8];exact hl),q3 Z B3 _ (g3.trans hb g4) h6 (r3.grow n g4) n⟩
  ·exact q3.elim
end
def gM(aM:List (Key×Tr))(k:Key):List (Key×Tr):=aM.filter fun kv=>decide (kv.1≠k)
theorem di.drop {W:Vw}(k:Key):∀{kvs:List (Key×V)} {aM:List (Key×Tr)},di K W kvs aM->di K W (p_ kvs k) (gM aM k)
 |[],[],_=>.nil
 |[],_::_,h=>by cases h.keys
 |_::_,[],h=>by cases h.keys
 |(k1,v1)::kvs,aM,h=>by
  obtain⟨t,r,rfl,rv,hr⟩:=h.inv;have ih:=di.drop k hr;unfold p_ gM at ih⊢;by_cases z:k1=k
  ·rw[jj (by simp[z]),jj (by simp[z])];exact ih
  ·rw[kn (by simp[z]),kn (by simp[z])];exact .cons rv ih
def lW(A:Ab)(i:Nat):Bool:=match A[i]? with
 |some (.bw _)=>true
 |_=>false
theorem pN{A:Ab}(ha:HA K B A H)(e:B.ix a=some i)(h:lW A i=true):∃aM kvs,A[i]?=some (.bw aM)/\B.hd a=true/\H a=some (.dK kvs)/\di K (bz B H) kvs aM:=by
 obtain⟨o,eo,ao⟩:=ha.ex e;unfold lW at h;rw[eo]at h;cases o with
 |bw aM=>obtain⟨hd,kvs,h1,h2⟩:=ao;exact⟨aM,kvs,eo,hd,h1,h2⟩
 |_=>cases h
def dkZ{α:Type}(o:Rz Tr)(k:Ab->Rz Tr)(f:Nat->Key->Ab->Rz α):Rz α:=o.bind fun t A=>match t with
 |.at i=>if lW A i=true then(k A).bind fun tk A=>match jt tk with
  |some key=>f i key A
  |none=>.bad
  else .bad
 |_=>.bad
def nA(A:Ab)(i:Nat):List (Key×Tr):=match A[i]? with
 |some (.bw aM)=>aM
 |_=>[]
def JY(o:Rz Tr)(k:Ab->Rz Tr):Rz Tr:=dkZ o k fun i key A=>if lW A i=true then match dS (nA A i) key with
 |some v=>.ok v (A.set i (.bw (gM (nA A i) key)))
 |none=>.bad
 else .bad
section
variable {cN:Pos}{G E:bf->Ab->Rz Tr}
theorem Ag{A:Ab}{aM:List (Key×Tr)}(h:A[i]?=some (.bw aM)):nA A i=aM:=by unfold nA;rw[h]
theorem R6(ho:PE X o (tE X ah))(he:PE X e (tE X G))(hb:isCall o=false:=by rfl) (bQ:aP [e]=true:=by rfl) (hl:(b8.endLine==cN.line)=true:=by rfl):PE X (.Call (.Attribute o "pop" b8) [e] [] cN) (tE X fun Y A=>JY (ah Y A) (G Y)):=
 (IX ho he (OW hb bQ hl)).weak fun Z H Q ⟨B,A,Y,ha,r,n,q⟩=>⟨B,A,Y,ha,r,n,q.bind.mono fun t A1 qt v B1 H1 g1 mj rv=>by
  split at qt
  ·obtain⟨a,rfl,p8⟩:=rv.mF;rename_i i;obtain⟨hd,q2⟩:=gz qt;obtain⟨aM,kvs,e1,e2,e3,e4⟩:=pN mj p8 hd;refine⟨a,rfl,.inl ⟨_,.inl e3⟩,B1,A1,Y,mj,r.grow n g1,n,((gD.bind q2).imp fun c A' z=>z.grow ha.hb g1).mono fun tk A2 qk y B2 H2 g2 oS ry=>?_⟩;have Ah:=g2.jH.x _ _ p8;cases ek:jt tk with
   |none=>simp only[ek]at qk;exact fe qk
   |some key=>
    simp only[ek]at qk;obtain⟨hd2,q3⟩:=gz qk;obtain⟨R7,JZ,f1,f2,f3,f4⟩:=pN oS Ah hd2;rw[Ag f1]at q3;have ey:=mG ry ek;subst ey;rcases pI key f4.keys f4.vals with⟨z,_⟩|⟨t,w,z,ev,oA⟩
    ·simp only[z]at q3;exact fe q3
    ·simp only[z]at q3;obtain⟨g4,h6⟩:=oS.write (o:=.bw (gM R7 key)) (u:=.dK (p_ JZ key)) Ah ⟨f2,_,a_,by rw[iD f2];exact f4.drop key⟩;exact⟨JZ,key,w,f3,rfl,ev,q3 w B2 _ ((g1.trans ha.hb g2).trans ha.hb g4) h6 (by rw[iD f2];exact oA)⟩
  ·exact qt.elim⟩
def J0(o:Rz Tr)(k x:Ab->Rz Tr):Rz Tr:=dkZ o k fun i key A=>(x A).bind fun tx A=>if lW A i=true then match dS (nA A i) key with
 |some v=>.ok v (A.set i (.bw (gM (nA A i) key)))
 |none=>.ok tx A
 else .bad
theorem R8(ho:PE X o (tE X ah))(he:PE X e (tE X G))(hf:PE X tg (tE X E))(hb:isCall o=false:=by rfl) (bQ:aP [e,tg]=true:=by rfl) (hl:(b8.endLine==cN.line)=true:=by rfl):PE X (.Call (.Attribute o "pop" b8) [e,tg] [] cN) (tE X fun Y A=>J0 (ah Y A) (G Y) (E Y)):=
 (IY ho he hf (OX hb bQ hl)).weak fun Z H Q ⟨B,A,Y,ha,r,n,q⟩=>⟨B,A,Y,ha,r,n,q.bind.mono fun t A1 qt v B1 H1 g1 mj rv=>by
  split at qt
  ·obtain⟨a,rfl,p8⟩:=rv.mF;rename_i i;obtain⟨hd,q2⟩:=gz qt;obtain⟨aM,kvs,e1,e2,e3,e4⟩:=pN mj p8 hd;refine⟨a,rfl,.inl ⟨_,.inl e3⟩,B1,A1,Y,mj,r.grow n g1,n,((gD.bind q2).imp fun c A' z=>z.grow ha.hb g1).mono fun tk A2 qk y B2 H2 g2 oS ry=>?_⟩;have YJ:=g1.trans ha.hb g2;cases ek:jt tk with
   |none=>simp only[ek]at qk;exact fe qk
   |some key=>
    simp only[ek]at qk;refine⟨B2,A2,Y,oS,r.grow n YJ,n,((gD.bind qk).imp fun c A' z=>z.grow ha.hb YJ).mono fun tx A3 qx z B3 H3 g3 Ic rz=>?_⟩;have WG:=g3.jH.x _ _ (g2.jH.x _ _ p8);obtain⟨hd3,q3⟩:=gz qx;obtain⟨aan,WH,f1,f2,f3,f4⟩:=pN Ic WG hd3;rw[Ag f1]at q3;have ey:=mG ry ek;subst ey;refine⟨WH,key,f3,rfl,fun w ev=>?_,fun ev=>?_⟩
    ·rcases pI key f4.keys f4.vals with⟨_,z2⟩|⟨t,w2,z2,WI,oA⟩
     ·rw[ev]at z2;cases z2
     ·rw[ev]at WI;cases WI;simp only[z2]at q3;obtain⟨g4,h6⟩:=Ic.write (o:=.bw (gM aan key)) (u:=.dK (p_ WH key)) WG ⟨f2,_,a_,by rw[iD f2];exact f4.drop key⟩;exact q3 w B3 _ ((YJ.trans ha.hb g3).trans ha.hb g4) h6 (by rw[iD f2];exact oA)
    ·rcases pI key f4.keys f4.vals with⟨z1,_⟩|⟨t,w2,z2,WI,_⟩
     ·simp only[z1]at q3;exact q3 z B3 H3 (YJ.trans ha.hb g3) Ic rz
     ·rw[ev]at WI;cases WI
  ·exact qt.elim⟩
variable {c:Str}{h:List Tr->Ab->Rz Tr}{fa:Addr}{fd:FuncData}{k:Nat}
def xn(c:Str)(h:List Tr->Ab->Rz Tr)(l:Rz (List Tr)):Rz Tr:=l.bind fun ts A=>(h (.at A.length::ts) (A++[.ins c []])).bind fun t A'=>if Yu t=true then .ok (.at A.length) A' else .bad
structure xo(K:Frag)(mg:Str->Option Value)(c:Str)(ps:List Str)(fa:Addr)(fd:FuncData):Prop where
 WJ:Mk K (clsAt K c) fa
 bd:Binds K fd ps []
 mg:mg c=some (.ref (clsAt K c))
theorem FL{B1:d7}{H1:Hp}{A1:Ab}{vs:List V}{ts:List Tr}{Q:VK}(hb:HB B H)(g:Grows B H B1 H1)(ha:HA X.K B1 A1 H1)(rs:bc X.K (bz B1 H1) vs ts)
  (q:gD (XE X B H) ((h (.at A1.length::ts) (A1++[.ins c []])).bind fun t A'=>if Yu t=true then .ok (.at A1.length) A' else .bad) fun t A'=>∀v B' H',Grows B H B' H'->HA X.K B' A' H'->Rep X.K (bz B' H') v t->Q v H')
  (x dx:Addr) (h1:H1 x=none) (h2:H1 dx=none) (h3:dx≠x):uM X.K h (.ref x::vs) (upd (upd H1 dx (.own x)) x (.ins (clsAt X.K c) dx [])) (fun v H2=>v=.bO/\Q (.ref x) H2) (EX X):=by
 have s1:aE H1 (upd (upd H1 dx (.own x)) x (.ins (clsAt X.K c) dx [])):=((aE.upd h2).trans (aE.upd (by rw[aF (Ne.symm h3)];exact h1)));obtain⟨g1,mj⟩:=ha.push (p:=x) (o:=.ins c []) h1 s1 ⟨pJ,dx,[],a_,by rw[aF h3,a_],by rw[gL h3];exact ha.free h2,rfl,.nil⟩;refine⟨_,_,_,mj,.cons (.at gK) (rs.same g1.jH),((gD.bind q).imp fun c A' z=>z.grow hb (g.trans hb g1)).mono fun t A' z v B' H' g' kO rv=>?_⟩;obtain⟨hn,z2⟩:=gz z;refine⟨?_,z2 (.ref x) B' H' ((g.trans hb g1).trans hb g') kO (.at (g'.jH.x _ _ gK))⟩;have e:=Fm rv;rw[hn]at e;exact dE e
theorem R9(D:xo X.K X.mg c ps fa fd)(G:dw X.prog X.w X.K X.mg X.base (ud X.prog X.w) k fa fd ps (uM X.K h))(hr:cz (k+1) X.A)(ha:PA X (e::af) (LS X ag))(hx:X.ex=[]:=by rfl) (hg:Gl X c:=by rfl) (eM:Db c:=by decide) (bQ:aP (e::af)=true:=by rfl):
  PE X (.Call (.Name c p) (e::af) [] pos) (tE X fun Y A=>xn c h (ag Y A)):=
 (Mi (p:=p) (pos:=pos) D.WJ G hr hg D.mg D.bd .nil (lU hx) ha (eM:=eM) (he:=aY _ _ (aG bQ).1) (ny:=cg (aG bQ).2)).weak fun Z H Q ⟨B,A,Y,ha,r,n,q⟩=>⟨B,A,Y,ha,r,n,q.bind.mono fun ts A1 qt vs B1 H1 g1 mj rs x dx h1 h2 h3=>by
  show uM X.K h (.ref x::(vs++[])) _ _ _;rw[jm];exact FL ha.hb g1 mj rs qt x dx h1 h2 h3⟩
theorem Nz(D:xo X.K X.mg c ps fa fd)(G:dw X.prog X.w X.K X.mg X.base (ud X.prog X.w) k fa fd ps (uM X.K h))(hr:cz (k+1) X.A)(hx:X.ex=[]:=by rfl) (hg:Gl X c:=by rfl) (eM:Db c:=by decide):
  PE X (.Call (.Name c p) [] [] pos) (tE X fun _ A=>xn c h (.ok [] A)):=
 (IK (p:=p) (pos:=pos) D.WJ G hr hg D.mg D.bd .nil (lU hx) (eM:=eM)).weak fun Z H Q ⟨B,A,Y,ha,r,n,q⟩ x dx h1 h2 h3=>FL (vs:=[]) (ts:=[]) ha.hb .refl ha .nil q x dx h1 h2 h3
end
theorem NA(ok:X.Ok):∀b∈X.fs,b∈je X.stack:=fun b hb=>by
 rcases ok.LO with e|⟨e,_⟩
 ·rw[e];exact hb
 ·rw[e];obtain⟨v,hv,hf⟩:=ky.mp hb;exact ky.mpr ⟨v,bF _ hv,hf⟩
theorem Inv.R_ {h':Heap}{hs:List Addr}(I:Inv X U Z H s)(hx:X.ex=[])
  (kp:∀b o,b∉hs->b∉je X.stack->s.heap.get? b=some o->h'.get? b=some o) (sl:∀b o,b∈je X.stack->s.heap.get? b=some o->∃sl,h'.get? b=some {o with slots:=sl})
  (hn:∀b∈hs,H b=none/\X.fq.heap.get? b=none/\(∀p∈X.pn++U,p.1≠b)/\((∃o ws,s.heap.get? b=some o/\o.data=.fields ws)\/s.heap.get? b=none)):Inv X U Z H {s with heap:=h'}:=by
 have nex:∀b:Addr,b∉X.ex:=fun b=>by rw[hx];simp
 have any:∀b o,b∉hs->s.heap.get? b=some o->∃sl,h'.get? b=some {o with slots:=sl}:=fun b o nb e=>by
  by_cases m:b∈je X.stack
  ·exact sl b o m e
  ·exact⟨o.slots,kp b o nb m e⟩
 have hsF:∀b o,s.heap.get? b=some o->(∀ws,o.data≠ .fields ws)->b∉hs:=fun b o e d m=>by
  rcases(hn b m).2.2.2 with⟨o2,ws,e2,d2⟩|e2
  ·rw[e]at e2;cases e2;exact d ws d2
  ·rw[e]at e2;cases e2
 have cellK:∀c v,s.heap.IsCell c v->h'.IsCell c v:=fun c v ⟨o,ho,hd⟩=>by
  obtain⟨s1,e1⟩:=any c o (hsF c o ho fun ws z=>by rw[hd]at z;cases z) ho;exact⟨_,e1,hd⟩
 have old:∀b o,X.fq.heap.get? b=some o->b∉hs:=fun b o e m=>by rw[(hn b m).2.1]at e;cases e
 refine⟨I.ok,I.os,I.bare,⟨fun b o e n hb _=>?_,fun b o e n hb _=>?_,I.base.free,fun b o e _=>?_,I.base.lL,I.base.ki,I.base.mC⟩,?_,fun x c e=>?_,I.free,I.eZ,fun p hp=>?_,fun b u e=>?_,I.len⟩
 ·refine kp b o (old b o e) (fun m=>?_) (I.base.keep b o e n hb (nex b));rcases aV.mp (I.we b m)with z|z
  ·exact absurd (cy (aO e) I.ok.above) (by rw[z];exact dH _)
  ·exact hb z
 ·obtain⟨s1,e1⟩:=I.base.slot b o e n hb (nex b);obtain⟨s2,e2⟩:=sl b _ (NA I.ok b hb) e1;exact⟨s2,e2⟩
 ·obtain⟨o1,e1⟩:=I.base.there b o e (nex b);obtain⟨s2,e2⟩:=any b o1 (old b o e) e1;exact⟨_,e2⟩
 ·obtain⟨m,hm,hl⟩:=I.loc;refine⟨m,?_,fun i x v e1 e2 e3=>?_⟩
  ·obtain⟨o,es,ep,ho,hd,r⟩:=hm;obtain⟨s1,e1⟩:=any _ o (hsF _ o ho fun ws z=>by rw[hd]at z;cases z) ho;exact⟨_,es,ep,e1,hd,r⟩
  ·obtain⟨u,r,l⟩:=hl i x v e1 e2 e3;refine⟨u,r,?_⟩;rcases l with l|⟨k,c,e,z⟩
   ·exact .inl l
   ·exact .inr ⟨k,c,e,cellK c _ z⟩
 ·obtain⟨v,z⟩:=I.cell x c e;exact⟨v,cellK c v z⟩
 ·obtain⟨e,n,ne,nf,d⟩:=I.pin p hp;refine⟨kp p.1 p.2 (fun m=>(hn _ m).2.2.1 p hp rfl) (fun m=>?_) e,n,ne,nf,d⟩;rcases aV.mp (I.we _ m)with z|z
  ·exact ne z
  ·exact nf z
 ·refine(I.cp b u e).oq (fun c v hc q=>kp c v (fun m=>?_) (fun m=>?_) q) (fun _ q=>q) fun _ _ q=>q
  ·have n:=(hn c m).1;rcases hc with rfl|hc
   ·rw[n]at e;cases e
   ·rw[n]at hc;cases hc
  ·have n:=I.vh c m;rcases hc with rfl|hc
   ·rw[n]at e;cases e
   ·rw[n]at hc;cases hc
def WK(h0:Heap)(H:Hp)(h:Heap)(a:Addr)(cls:Value):Prop:=∃oe vs a0 T oT ts,h.get? a=some oe/\oe.cls=cls/\oe.data=.fields vs/\vs[0]?=some a0/\vs[1]?=some (.ref T)/\T≠a/\h0.get? T=none/\H T=none/\h.get? T=some oT/\oT.data=.fields ts/\ts[3]?=some .none
structure LW(X:Cx)(h0:Heap)(Z:St)(H:Hp)(s:Shared)(a:Addr)(cls:Value):Prop where
 inv:Inv X [] Z H s
 Fz:O2 h0 H s.heap a cls
 old:∀b,h0.get? b=none->X.fq.heap.get? b=none
 pn:∀p∈X.pn,∃o,h0.get? p.1=some o
 gr:∀b,s.heap.get? b=none->h0.get? b=none
theorem XS.cau {cls e:Value}(x:XS X H cls e s):∃a Z h0,e=.ref a/\LW X h0 Z H s a cls:=by
 obtain⟨a,U,Z,h0,rfl,I,Fz,old,pn,gr⟩:=x;exact⟨a,Z,h0,rfl,I.jr (fun p hp=>I.pin p (jk _ (by simpa using hp))),Fz,old,pn,gr⟩
theorem LW.step {h0:Heap}{cls a0:Value}{h':Heap}{hs:List Addr}(C:LW X h0 Z H s a cls)(hx:X.ex=[])(ha:a∈hs)(hh:∀b∈hs,H b=none/\h0.get? b=none/\∃o ws,s.heap.get? b=some o/\o.data=.fields ws)
  (k1:(PySem.W.hideAll s.heap (hs++je X.stack)).StaysIn h') (k4:∀b o,s.heap.get? b=some o->(∀ws,o.data≠ .fields ws)->∃sl,h'.get? b=some {o with slots:=sl})
  (k3:h'.TracedW (PySem.W.hideAll s.heap (hs++je X.stack)) a cls a0) (fr':∀b∈je X.stack,∃o,h'.get? b=some o/\∀ws,o.data≠ .fields ws):LW X h0 Z H {s with heap:=h'} a cls/\WK h0 H h' a cls:=by
 have hk:=C.inv.stack;have TY:∀L∈je X.stack,∃o,s.heap.get? L=some o/\∀ws,o.data≠ .fields ws:=fun L hL=>(hk.mem hL).2;have gp:∀b,h0.get? b=none->∀p∈X.pn++[],p.1≠b:=fun b n p hp z=>by
  obtain⟨o,e⟩:=C.pn p (by simpa using hp);rw[z,n]at e;cases e
 have kp:∀b o,b∉hs->b∉je X.stack->s.heap.get? b=some o->h'.get? b=some o:=fun b o n1 n2 e=>k1 b o (lu _ e fun m=>(cR.mp m).elim n1 n2);have sl:∀b o,b∈je X.stack->s.heap.get? b=some o->∃sl,h'.get? b=some {o with slots:=sl}:=fun b o m e=>by
  obtain⟨o2,e2,d2⟩:=TY b m;rw[e]at e2;cases e2;exact k4 b o e d2
 have tr:WK h0 H h' a cls:=by
  obtain⟨oe,vs,T,oT,ts,q1,⟨q2,q3⟩,q4,q5,q6,q7,q8,q9,Z3⟩:=k3;have hTf:T∉je X.stack:=fun m=>by
   obtain⟨o,e,d⟩:=fr' T m;rw[q8]at e;cases e;exact d ts q9
  have key:h0.get? T=none/\H T=none:=by
   by_cases m:T∈hs
   ·exact⟨(hh T m).2.1,(hh T m).1⟩
   ·have n:s.heap.get? T=none:=by
     cases z:s.heap.get? T with
     |none=>rfl
     |some o=>rw[lu _ z fun mm=>(cR.mp mm).elim m hTf]at q6;cases q6
    refine⟨C.gr T n,?_⟩;cases z:H T with
    |none=>rfl
    |some o=>obtain⟨u,e⟩:=(C.inv.cp T o z).get;rw[n]at e;cases e
  exact⟨oe,vs,a0,T,oT,ts,q1,q2,q4,q3,q5,q7,key.1,key.2,q8,q9,Z3⟩
 refine⟨⟨C.inv.R_ hx kp sl fun b m=>⟨(hh b m).1,C.old b (hh b m).2.1,gp b (hh b m).2.1,.inl (hh b m).2.2⟩,⟨?_,C.Fz.fr,C.Fz.nw⟩,C.old,C.pn,fun b n=>?_⟩,tr⟩
 ·obtain⟨oe,vs,b0,T,oT,ts,q1,q2,q3,q4,q5,q6⟩:=tr;exact⟨oe,vs,b0,q1,q2,q3,q4,.inr ⟨T,oT,ts,q5,q6⟩⟩
 ·by_cases m:b∈hs
  ·exact(hh b m).2.1
  ·refine C.gr b ?_
   cases z:s.heap.get? b with
   |none=>rfl
   |some o=>
    have n':h'.get? b=none:=n;by_cases m2:b∈je X.stack
    ·obtain⟨s1,e1⟩:=sl b o m2 z;rw[n']at e1;cases e1
    ·rw[kp b o m m2 z]at n';cases n'
section
variable {h0:Heap}{cls:Value}{M:Model}
theorem NB(C:LW X h0 Z H s a cls)(hx:X.ex=[])(bQ:X.stack=X.env::X.outer)(hf:X.env.frame=some X.env.locals)(hA:A.frames=some X.stack){Q:Unit->Shared->Prop}(q:∀s',LW X h0 Z H s' a cls->WK h0 H s'.heap a cls->Q () s'):
  wpAny M A (noteFrame (.ref a) X.env) (fun _ s2=>wpAny M A (setFlight (.ref a) none) Q E s2) E s:=by
 obtain⟨⟨oe,vs,a0,he,zG,hd,h0',h1⟩,fr,nw⟩:=C.Fz;have hk:s.heap.FunFrames X.base X.stack:=C.inv.stack;have kl:∀e∈X.stack,∀b,e.frame=some b->b∈je X.stack:=fun e he b hb=>ky.mpr ⟨e,he,hb⟩;have after:∀(hs:List Addr) (h':Heap),a∈hs->(∀b∈hs,H b=none/\h0.get? b=none/\∃o ws,s.heap.get? b=some o/\o.data=.fields ws)->Heap.NotedW (PySem.W.hideAll s.heap (hs++je X.stack)) X.stack a cls a0 (rawInt X.env.locals) s.heap h'->wpAny M A (setFlight (.ref a) none) Q E {s with heap:=h'}:=by
  intro hs h' ham hh ⟨k1,k2,k3,k4⟩;refine wpAny_setFlight_noneW (s:={s with heap:=h'}) k1 k2 k3 fun h2 j1 j2 j3 j4=>?_
  obtain⟨c1,c2⟩:=C.step hx ham hh j1 (fun b o e d=>by obtain⟨sl,e1⟩:=k4 b o e d;exact⟨sl,j4 b _ e1 d⟩) j3 fun b m=>(j2.mem m).2;exact q _ c1 c2
 rcases h1 with h1|⟨T,oT,ts,h1,Z4,Z5,LR,hT,Yw,h3⟩
 ·have hl:s.heap.FunFrames (PySem.W.hideAll s.heap ([a]++je X.stack)) (X.env::X.outer):=by rw[<-bQ];exact nH hk fun e he b hb=>cI _ (kl e he b hb)
  unfold noteFrame;simp only[hf];refine ak (fo he hd h1 ?_);rw[ay (by decide)];refine wpAny_entryW (base:=PySem.W.hideAll s.heap ([a]++je X.stack)) (by rw[hA,bQ]) hl hf he (fun b o z=>lx _ z) (ko _ (jk _ (cE.mpr rfl))) hd (Array.getElem?_eq_some_iff.mp h1).1 h0' fun h' hN=>?_
  rw[zG,<-bQ]at hN;refine after [a] h' (cE.mpr rfl) (fun b m=>?_) hN;cases cE.mp m;exact⟨fr,nw,oe,vs,he,hd⟩
 ·have hl:s.heap.FunFrames (PySem.W.hideAll s.heap ([a,T]++je X.stack)) (X.env::X.outer):=by rw[<-bQ];exact nH hk fun e he b hb=>cI _ (kl e he b hb)
  refine wpAny_noteFrame_onW (base:=PySem.W.hideAll s.heap ([a,T]++je X.stack)) (cls:=cls) (a0:=a0) (by rw[hA,bQ]) hl hf ⟨oe,vs,T,oT,ts,he,⟨zG,h0'⟩,hd,h1,ko _ (jk _ (by simp)),Z4,hT,Yw,h3⟩ (fun b o z=>lx _ z) (ko _ (jk _ (by simp))) fun h' hN=>?_
  rw[<-bQ]at hN;refine after [a,T] h' (by simp) (fun b m=>?_) hN;simp only[aV,cc,cf]at m;rcases m with rfl|rfl
  ·exact⟨fr,nw,oe,vs,he,hd⟩
  ·exact⟨LR,Z5,oT,ts,hT,Yw⟩
theorem Hn(C:LW X h0 Z H s a cls)(T:WK h0 H s.heap a cls)(hx:X.ex=[]){Q:Unit->Shared->Prop}(q:∀s',LW X h0 Z H s' a cls->WK h0 H s'.heap a cls->Q () s'):wpAny M A (setFlight (.ref a) none) Q E s:=by
 obtain⟨oe,vs,a0,T,oT,ts,e1,e2,e3,e4,e5,e6,e7,e8,e9,e10,e11⟩:=T;have hk:s.heap.FunFrames X.base X.stack:=C.inv.stack;have kl:∀e∈X.stack,∀b,e.frame=some b->b∈je X.stack:=fun e he b hb=>ky.mpr ⟨e,he,hb⟩;have hl:s.heap.FunFrames (PySem.W.hideAll s.heap ([a,T]++je X.stack)) X.stack:=nH hk fun e he b hb=>cI _ (kl e he b hb);refine wpAny_setFlight_noneW (base:=PySem.W.hideAll s.heap ([a,T]++je X.stack)) (cls:=cls) (a0:=a0) (fl:=.none) (fun b o z=>lx _ z) hl ⟨oe,vs,T,oT,ts,e1,⟨e2,e4⟩,e3,e5,ko _ (jk _ (by simp)),e6,e9,e10,e11⟩ fun h2 j1 j2 j3 j4=>?_
 obtain⟨c1,c2⟩:=C.step hx (hs:=[a,T]) (by simp) (fun b m=>by
  simp only[aV,cc,cf]at m;rcases m with rfl|rfl
  ·exact⟨C.Fz.fr,C.Fz.nw,oe,vs,e1,e3⟩
  ·exact⟨e8,e7,oT,ts,e9,e10⟩) j1 (fun b o e d=>⟨o.slots,j4 b o e d⟩) j3 fun b m=>(j2.mem m).2
 exact q _ c1 c2
theorem LW.WL (C:LW X h0 Z H s a cls)(hx:X.ex=[]):∃oe:Obj,oe.cls=cls/\s.heap.get? a=some oe/\Inv X [] Z (upd H a (.ext fun h=>h.get? a=some oe)) s:=by
 obtain⟨⟨oe,vs,a0,he,zG,hd,_⟩,fr,nw⟩:=C.Fz;have I:=C.inv;refine⟨oe,zG,he,I.ok,I.os,I.bare,⟨I.base.keep,I.base.slot,fun b o e n hb=>?_,I.base.there,fun b ts e=>?_,fun b o u e=>?_,fun b p e=>?_⟩,I.loc,I.cell,?_,fun y c e=>?_,fun p hp=>?_,fun b u e=>?_,I.len⟩
 ·rw[aF fun z=>?_]
  ·exact I.base.free b o e n hb
  ·rw[z,C.old a nw]at e;cases e
 ·rw[aF fun z=>?_]
  ·exact I.base.lL b ts e
  ·have q:=I.base.lL b ts e;rw[z,fr]at q;cases q
 ·rw[aF fun z=>?_]
  ·exact I.base.ki b o u e
  ·have q:=I.base.ki b o u e;rw[z,fr]at q;cases q
 ·obtain⟨more,q⟩:=I.base.mC b p e;exact⟨more,by rw[aF fun z=>(by rw[z,fr]at q;cases q)];exact q⟩
 ·rw[aF fun z=>?_]
  ·exact I.free
  ·obtain⟨m,⟨o,es,ep,ho,hd2,_⟩,_⟩:=I.loc;rw[z,he]at ho;cases ho;rw[hd]at hd2;cases hd2
 ·rw[aF fun z=>?_]
  ·exact I.eZ y c e
  ·obtain⟨v,o,ho,hd2⟩:=I.cell y c e;rw[z,he]at ho;cases ho;rw[hd]at hd2;cases hd2
 ·obtain⟨q1,q2,q3⟩:=I.pin p hp;refine⟨q1,?_,q3⟩;rw[aF fun z=>?_]
  ·exact q2
  ·obtain⟨o,e⟩:=C.pn p (by simpa using hp);rw[z,nw]at e;cases e
 ·by_cases z:b=a
  ·subst z;rw[a_]at e;cases e;exact⟨he,⟨oe,he⟩,fun h1 h2 p k=>k _ p⟩
  ·rw[aF z]at e;exact(I.cp b u e).oq (fun _ _ _ q=>q) (fun c q=>by rw[aF (bj q fr)];exact q) fun c xs q=>by rw[aF (bj q fr)];exact q
theorem za{n:Str}{Q:Unit->Shared->Prop}(I:Inv X U Z H s)(hN:X.N.Nodup)(hi:X.N[i]?=some n)(hl:X.env.scope.names.lookup n=some .local)(q:∀s',Inv X U (Z.set i none) H s'->Q () s'):wpAny M A (do bindName X.env n .none;unbindBehindTheSuite X.env n pos) Q E s:=by
 obtain⟨m,hn,hlk⟩:=id I.loc;have E5:(X.env.scope.kind== .class||(X.env.scope.kind== .module&&X.env.locals !=X.env.globals))=false:=by rw[I.ok.kind];rfl
 obtain⟨oL,_,_,EL,_⟩:=id hn;refine wpAny_nameGoes_keeps hl hn E5 fun h' v OB hs=>q _ ?_
 have ne:∀b o,X.fq.heap.get? b=some o->b≠X.env.locals:=fun b o e=>bu (cy (aO e) I.ok.above);refine⟨I.ok,I.os,I.bare,⟨fun b o e n hb hx=>?_,fun b o e n hb hx=>?_,I.base.free,fun b o e hx=>?_,I.base.lL,I.base.ki,I.base.mC⟩,⟨_,OB,fun j y w e1 e2 e3=>?_⟩,fun y c e=>?_,I.free,I.eZ,fun p hp=>?_,fun b u e=>?_,by rw[jP];exact I.len⟩
 ·exact(hs.2 b (ne b o e)).trans (I.base.keep b o e n hb hx)
 ·obtain⟨sl,e1⟩:=I.base.slot b o e n hb hx;exact⟨sl,(hs.2 b (ne b o e)).trans e1⟩
 ·obtain⟨o1,e1⟩:=I.base.there b o e hx;exact⟨o1,(hs.2 b (ne b o e)).trans e1⟩
 ·by_cases hj:j=i
  ·subst hj;have hjl:j<Z.length:=by rw[I.len];exact(fi.mp hi).1
   rw[nG hjl]at e2;cases e2
  ·rw[lr (Ne.symm hj)]at e2;obtain⟨u,r,l⟩:=hlk j y w e1 e2 e3;refine⟨u,r,?_⟩;rcases l with⟨k,e⟩|⟨k,c,e,z⟩
   ·refine .inl ⟨k,?_⟩;have hy:y≠n:=fun z=>hj (r8 hN e1 (z▸hi));show(if y=n then v else m y)=some u;rw[ay hy];exact e
   ·exact .inr ⟨k,c,e,z.sameBut hs (I.Gs y c e)⟩
 ·obtain⟨w,z⟩:=I.cell y c e;exact⟨w,z.sameBut hs (I.Gs y c e)⟩
 ·obtain⟨e,n2,ne2,nf,d⟩:=I.pin p hp;exact⟨(hs.2 p.1 ne2).trans e,n2,ne2,nf,d⟩
 ·refine(I.cp b u e).oq (fun c w hc z=>(hs.2 c fun y=>?_).trans z) (fun _ z=>z) fun _ _ z=>z;subst y;rcases hc with z2|z2
  ·rw[<-z2,I.free]at e;cases e
  ·rw[I.free]at z2;cases z2
end
theorem bV.none:bV K B H Z (List.replicate Z.length .no):=by
 have no:∀(i:Nat) (c:Cell),(List.replicate Z.length Cell.no)[i]?=some c->c=.no:=fun i c e=>by
  rw[rg]at e;split at e
  ·exact(Option.some.inj e).symm
  ·cases e
 exact⟨vM,(fun i t e=>by cases no i _ e),(fun i ts e=>by cases no i _ e),(fun i j ts us D _ e=>by cases no i _ e)⟩
theorem bV.unset {Y:bf}(h:bV K B H Z Y)(n:fw Y)(i:Nat):bV K B H (Z.set i Option.none) (Y.set i .no):=by
 refine⟨by rw[jP,jP];exact h.len,fun j t e=>?_,fun j ts e=>?_,fun j k ts us D _ e=>?_⟩
 ·rcases eO e with⟨_,_,z⟩|⟨hj,e⟩
  ·cases z
  ·obtain⟨v,e1,r⟩:=h.sh j t e;exact⟨v,by rw[lr hj];exact e1,r⟩
 ·rcases eO e with⟨_,_,z⟩|⟨hj,e⟩
  ·cases z
  ·exact absurd e (n j ts)
 ·rcases eO e with⟨_,_,z⟩|⟨hj,e⟩
  ·cases z
  ·exact absurd e (n j ts)
theorem fw.unset {Y:bf}(h:fw Y)(i:Nat):fw (Y.set i .no):=fun j ts e=>by
 rcases eO e with⟨_,_,z⟩|⟨hj,e⟩
 ·cases z
 ·exact h j ts e
abbrev Cx.jY (X:Cx)(pn:List (Addr×Obj))(E':Value->Shared->Prop):Cx:={X with pn:=pn,xe:=E'}
abbrev Cx.oW (X:Cx)(pn:List (Addr×Obj))(e:Value):Cx:={X with A:=X.A.mark (some e),calm:=false,pn:=pn,xe:=fun _ _=>False}
section
variable {pn:List (Addr×Obj)}
theorem Cx.Ok.jY (ok:X.Ok):(X.jY pn E).Ok:=⟨ok.mod,ok.kind,ok.glob,ok.blt,ok.above,ok.inj,ok.has,ok.OA,ok.hd,ok.frames,ok.LO,ok.TH,ok.bs,ok.Gr,ok.zE,ok.Bi,ok.p5,ok.Ij⟩
theorem Cx.Ok.kT (ok:(X.jY pn E).Ok):X.Ok:=⟨ok.mod,ok.kind,ok.glob,ok.blt,ok.above,ok.inj,ok.has,ok.OA,ok.hd,ok.frames,ok.LO,ok.TH,ok.bs,ok.Gr,ok.zE,ok.Bi,ok.p5,ok.Ij⟩
theorem Cx.Ok.oW (ok:X.Ok):(X.oW pn aa).Ok:=⟨ok.mod,ok.kind,ok.glob,ok.blt,ok.above,ok.inj,ok.has,ok.OA,(fun z=>by cases z),ok.frames,ok.LO,ok.TH,ok.bs,ok.Gr,ok.zE,ok.Bi,ok.p5,ok.Ij⟩
theorem Inv.jY (I:Inv X U Z H s):Inv (X.jY (X.pn++U) E) [] Z H s:=⟨I.ok.jY,I.os,I.bare,I.base,I.loc,I.cell,I.free,I.eZ,fun p hp=>I.pin p (by simpa using hp),I.cp,I.len⟩
theorem Inv.kT (I:Inv (X.jY (X.pn++U) E) [] Z H s):Inv X U Z H s:=⟨I.ok.kT,I.os,I.bare,I.base,I.loc,I.cell,I.free,I.eZ,fun p hp=>I.pin p (by simpa using hp),I.cp,I.len⟩
theorem Inv.oW (I:Inv (X.jY pn E) [] Z H s):Inv (X.oW pn aa) [] Z H s:=⟨I.ok.kT.oW,I.os,I.bare,I.base,I.loc,I.cell,I.free,I.eZ,I.pin,I.cp,I.len⟩
theorem Inv.J4 (ok:X.Ok)(I:Inv (X.oW (X.pn++U) aa) [] Z H s):Inv X U Z H s:=⟨ok,I.os,I.bare,I.base,I.loc,I.cell,I.free,I.eZ,fun p hp=>I.pin p (by simpa using hp),I.cp,I.len⟩
theorem SP.kT {D:Ends}{f:Flow}(h:SP (X.jY (X.pn++U) E) [] D f s):SP X U D f s:=by
 cases f with
 |next=>obtain⟨cK,H',I,q⟩:=h;exact⟨cK,H',I.kT,q⟩
 |brk=>obtain⟨cK,H',I,q⟩:=h;exact⟨cK,H',I.kT,q⟩
 |cont=>obtain⟨cK,H',I,q⟩:=h;exact⟨cK,H',I.kT,q⟩
 |ret u=>obtain⟨v,cK,H',I,r,q⟩:=h;exact⟨v,cK,H',I.kT,r,q⟩
end
structure pO(K:Frag)(mg:Str->Option Value)(c:Str)(xs:List Str):Prop where
 mg:mg c=some (.ref (clsAt K c))
 all:∀x∈xs,PySem.W.exmOne K (.ref (clsAt K x)) (.ref (clsAt K c))=some true
def WM(N i:Nat)(xs:List Str)(x:Str)(A:Ab)(G2:bf->Ab->Rz Out):Rz Out:=if xs.contains x=true then match G2 ((List.replicate N Cell.no).set i (.sh (.at A.length))) (A++[.Dg x])with
 |.ok (.nx Y) A=>.ok (.nx (Y.set i .no)) A
 |.ok (.ret t) A=>.ok (.ret t) A
 |_=>.bad
 else .bad
def Ea(N i:Nat)(xs:List Str)(r:Rz Out)(G2:bf->Ab->Rz Out):Rz Out:=match r with
 |.ok o A=>.ok o A
 |.exc (.str x) A=>WM N i xs x A G2
 |_=>.bad
section
variable {c n:Str}{tp hp:Pos}{oX:List Stmt}{xp:Stmt}{G G2:bf->Ab->Rz Out}
theorem O2.WN {h0 h:Heap}{c:Value}(u:O2 h0 H h a c):PySem.W.Looks (model P w) h (typeOf (.ref a)) c:=by
 obtain⟨⟨oe,vs,a0,he,rfl,_⟩,_,_⟩:=u;exact(lI (M:=model P w) (part:=none) he).andThen (f:=fun o:Obj=>pure o.cls) .now
theorem J5(Tc:pO X.K X.mg c ps)(hb:∀pn E',nC (X.jY pn E') ac (tZ (X.jY pn E') G))(hs:∀pn e,nC (X.oW pn e) (xp::oX) (tZ (X.oW pn e) G2))(hN:X.N.Nodup)(hi:X.N[i]?=some n)(hl:X.env.scope.names.lookup n=some .local)
  (bQ:X.stack=X.env::X.outer) (hf:X.env.frame=some X.env.locals) (hx:X.ex=[]) (L9:ye X n) (hg:Gl X c) (eM:Db c):
  PS X (.Try ac [.ExceptHandler (some (.Name c tp)) (some n) (xp::oX) hp] [] [] pos) (tZ X fun Y A=>Ea X.N.length i ps (G Y A) G2):=by
 intro U s Z H D I ⟨B0,H0,B,A,Y,Ib,g,ha,r,no,q⟩;have T5:=I.ok;refine wpAny_Try_except (dq (hb (X.pn++U) _ [] s Z H D I.jY ⟨B0,H0,B,A,Y,Ib,g,ha,r,no,?_⟩) (fun f s1 h1=>?_) fun e s1 z=>z)
 ·have q':gD (XE X B0 H0) (Ea X.N.length i ps (G Y A) G2) (yZ X D B0 H0):=q;cases eG:G Y A with
  |bad=>rw[eG]at q';exact fe q'
  |ok o A1=>rw[eG]at q';cases o<;>exact q'
  |exc t A1=>
   rw[eG]at q';cases t with
   |str x=>
    obtain⟨Z9,q2⟩:=gz q';intro B' H' g' kO e s1 xs1;obtain⟨a,Yk,h0,rfl,C⟩:=xs1.cau;refine NB C hx bQ hf T5.frames fun s3 C3 T3=>?_
    refine wpAny_handleBy_cons (codeAny_handlers_test ?_) (by intro z;cases z);refine vI T5.kind hg (Calls.loadGlobal_global (by rw[T5.glob];exact T5.mod.glob.keeps C3.inv.bk) Tc.mg ?_) eM;refine PySem.W.exm_one C3.inv.kM C3.Fz.WN (Tc.all x (by simpa using Z9)) _ _ _ s3 (fun _ _ z=>z) ?_
    refine codeAny_handlers_suite_as ?_
    refine Hn C3 T3 hx fun s4 C4 T4=>?_
    refine hide fun P go=>?_
    obtain⟨oe4,hc4,he4,I4⟩:=C4.WL hx;refine go ?_
    have frA:H' a=none:=C4.Fz.fr;refine wg (X:=X.jY (X.pn++U) _) I4 hN hi (.inl hl) (v:=.ref a) rfl (fun s5 I5=>?_) L9;have g5:=kO.push (p:=a) (o:=.Dg x) frA (aE.upd frA) ⟨pJ,oe4,a_,hc4⟩;have b9:Yk.length=X.N.length:=C4.inv.len;have r5:bV X.K (oO B' a A1.length) (upd H' a (.ext fun h=>h.get? a=some oe4)) (Yk.set i (some (.ref a))) ((List.replicate X.N.length Cell.no).set i (.sh (.at A1.length))):=by
     rw[<-b9];exact bV.none.set i (.at gK)
    have no5:fw ((List.replicate X.N.length Cell.no).set i (.sh (.at A1.length))):=fw.set (fun j ts z=>by
     rw[rg]at z;split at z<;>cases z) i _
    have key:gD (fun _ _=>False) (G2 ((List.replicate X.N.length Cell.no).set i (.sh (.at A1.length))) (A1++[.Dg x])) fun o A2=>match o with
      |.nx Y=>yZ X D B0 H0 (.nx (Y.set i .no)) A2
      |.ret t=>yZ X D B0 H0 (.ret t) A2
      |_=>False:=by
     cases e2:G2 ((List.replicate X.N.length Cell.no).set i (.sh (.at A1.length))) (A1++[.Dg x])with
     |bad=>simp only[e2]at q2;exact q2
     |exc c1 A2=>simp only[e2]at q2;exact q2
     |ok o A2=>
      simp only[e2]at q2;cases o<;>exact q2
    refine dq (hs (X.pn++U) (.ref a) [] s5 _ _ {nx:=fun yj H2=>D.nx (yj.set i none) H2,rt:=D.rt} I5.oW ⟨B0,H0,oO B' a A1.length,A1++[.Dg x],_,Ib,g'.trans Ib g5.1,g5.2,r5,no5,?_⟩) (fun f s6 h6=>?_) fun _ _ z=>(show False from z).elim
    ·refine(key.imp fun _ _ z=>z.elim).mono fun o A2 z=>?_
     cases o with
     |nx iZ=>exact fun yj B2 H2 g2 oS r2 n2=>z (yj.set i none) B2 H2 g2 oS (r2.unset n2 i) (n2.unset i)
     |ret t=>exact z
     |_=>exact z.elim
    ·cases f with
     |next=>
      obtain⟨Y9,H6,I6,q6⟩:=h6;exact za (I6.J4 T5) hN hi hl fun s7 I7=>⟨_,H6,I7,q6⟩
     |ret u=>
      obtain⟨v,Y9,H6,I6,rv,q6⟩:=h6;exact za (I6.J4 T5) hN hi hl fun s7 I7=>⟨v,_,H6,I7,rv,q6⟩
     |_=>obtain⟨_,_,_,z⟩:=h6;exact fe z
   |_=>exact fe q'
 ·cases f with
  |next=>exact rQ h1.kT
  |_=>exact h1.kT
end
section
variable {es:List Expr}{G E:bf->Ab->Rz Tr}{keys:List (Option Expr)}{P:bf->Ab->Rz (List (Tr×Tr))}
structure R'(X:Cx)(pos:Pos)(keys:List (Option Expr))(af:List Expr)(P:bf->Ab->Rz (List (Tr×Tr))):Prop where
 h:∃zO,TL X pos keys af zO/\∀Z H Q,(∃B A Y,HA X.K B A H/\bV X.K B H Z Y/\fw Y/\gD (XE X B H) (P Y A) fun Rh A'=>∀M9 B' H',Grows B H B' H'->HA X.K B' A' H'->wY X.K (bz B' H') M9 Rh->Q M9 H')->wz zO Z H Q
theorem J7:R' X pos [] [] fun _ A=>.ok [] A:=⟨[],E2,fun Z H Q ⟨B,A,Y,ha,r,n,q⟩=>q [] B H .refl ha .nil⟩
def Pf(k:Rz Tr)(v:Ab->Rz Tr)(r:Ab->Rz (List (Tr×Tr))):Rz (List (Tr×Tr)):=k.bind fun x A=>(v A).bind fun y A=>(r A).bind fun ps A=>.ok ((x,y)::ps) A
theorem J8(hk:PE X e (tE X ah))(hv:PE X o (tE X G))(hr:R' X pos keys af P):R' X pos (some e::keys) (o::af) fun Y A=>Pf (ah Y A) (G Y) (P Y):=by
 obtain⟨zO,h1,h2⟩:=hr.h;refine⟨_,Bv hk hv h1,fun Z H Q ⟨B,A,Y,ha,r,n,q⟩=>?_⟩;refine⟨B,A,Y,ha,r,n,(gD.bind q).mono fun x A1 qx u B1 H1 g1 mj r1=>⟨B1,A1,Y,mj,r.grow n g1,n,((gD.bind qx).imp fun c A' z=>z.grow ha.hb g1).mono fun y A2 qy w B2 H2 g2 oS r2=>h2 _ _ _ ⟨B2,A2,Y,oS,(r.grow n g1).grow n g2,n,((gD.bind qy).imp fun c A' z=>z.grow ha.hb (g1.trans ha.hb g2)).mono fun ps A3 qp M9 B3 H3 g3 Ic r3=>?_⟩⟩⟩;exact qp _ B3 H3 ((g1.trans ha.hb g2).trans ha.hb g3) Ic (.cons ((r1.same g2.jH).same g3.jH) (r2.same g3.jH) r3)
def isE(A:Ab)(i:Nat):Bool:=match A[i]? with
 |some (.bw [])=>true
 |_=>false
def WO(P:Ab->Rz (List (Tr×Tr)))(A:Ab):Rz Tr:=(P (A++[.bw []])).bind fun ps A2=>if ps.length<=15/\isE A2 A.length=true then(fQ (wX ps) A2).bind fun aM A2=>.ok (.at A.length) (A2.set A.length (.bw (kQ [] aM)))else .bad
theorem NC(h:R' X pos keys af P)(tY:keys.all (·.isSome)=true:=by rfl) (hl:keys.length=af.length:=by rfl) (h0:keys.isEmpty=false:=by rfl) (My:keys.length<=15:=by decide):PE X (.Dict keys af pos) (tE X fun Y A=>WO (P Y) A):=by
 obtain⟨zO,h1,h2⟩:=h.h;refine(E3 h1 tY hl (fun z=>by rw[z]at h0;cases h0) My).weak fun Z H Q ⟨B,A,Y,ha,r,n,q⟩ p hp=>?_
 obtain⟨g1,mj⟩:=ha.push (p:=p) (o:=.bw []) hp (aE.upd (o:=.dK []) hp) ⟨pJ,[],a_,.nil⟩;have p8:(oO B p A.length).ix p=some A.length:=gK;refine h2 Z _ _ ⟨_,_,Y,mj,r.grow n g1,n,((gD.bind q).imp fun c A' z=>z.grow ha.hb g1).mono fun Rh A2 qp M9 B2 H2 g2 oS r2=>?_⟩;obtain⟨⟨hz,he⟩,qp⟩:=gz qp;have Ah:=g2.jH.x _ _ p8;have hat:A2[A.length]?=some (.bw []):=by
  unfold isE at he;split at he
  ·assumption
  ·cases he
 obtain⟨hd,kv0,e0,rd0⟩:=(show qR X.K B2 H2 p (.bw [])from oS.get Ah hat);have ek0:kv0=[]:=by
  have e:=rd0.keys;cases kv0 with
  |nil=>rfl
  |cons a b=>cases e
 subst ek0;cases ep:wX Rh with
 |ok aM=>
  rw[ep]at qp;obtain⟨kvs,WQ,k1,e1,rd⟩:=yU (X:=X) (H0:=H2) (k:=fun z=>z=aM) r2 (by rw[ep];rfl);subst k1;refine⟨e0,kvs,e1,?_,?_⟩
  ·have e2:=cq List.length e1;rw[aK,r2.length]at e2;rw[<-e2];exact hz
  ·obtain⟨g4,h6⟩:=oS.write (o:=.bw (kQ [] WQ)) (u:=.dK (hJ [] kvs)) Ah ⟨hd,_,a_,by rw[iD hd];exact di.merge rd di.nil⟩;exact(show∀v B' H',Grows B H B' H'->HA X.K B' (A2.set A.length (.bw (kQ [] WQ))) H'->Rep X.K (bz B' H') v (.at A.length)->Q v H' from qp) (.ref p) B2 _ ((g1.trans ha.hb g2).trans ha.hb g4) h6 (.at Ah)
 |_=>rw[ep]at qp;exact fe qp
end
section
variable {a b:Expr}{es:List Expr}{A:bf->Rs Bool}{scope:Scope}{ix:List (Option Nat)}{c0:Expr}{T:nD}
theorem Eb{Q:VK}(hT:js T)(q:tF X (fun Y=>uF ix T A F (L Y) Y) Z H Q):TN (tJ X L) ix (OS X.K T) (OR X.K A) (OQ X.K F) Z H (fun v H'=>jX X H' (Q v)):=by
 obtain⟨B,Y,hb,r,q⟩:=q;refine⟨B,Y,hb,r,q.bind.mono fun ts qt J H1 tf gt D hD=>?_⟩;by_cases hz:ts.length<=ee
 ·rw[au hz]at qt;exact vk hT (vj ix Y) (tf.hb hb) gt hz ((tf.GX r).comp ix (jW hD)) hD (Fi.bind qt) fun ys H' k s' rp=>by
   obtain⟨Hu,su,ru,ku⟩:=tf.O5 hb s';exact ku _ (k _ Hu su (ru rp) fun p e=>by cases e;exact .lst (tf.free hD) (ru rp))
 ·rw[ay hz]at qt;exact qt.elim
theorem J9(Lk:fP X ps ix scope)(hit:PI X tg c0 (tJ X L))(kl:MM X scope ps tg o af T A F)(hT:js T)(hN:X.N.Nodup:=by assumption) (hc:X.calm=true:=by rfl) (hi:X.N[i]?=some x:=by rfl) (hx:Loc X.env.scope x:=by first|exact Or.inl rfl|exact Or.inr rfl)
  (GH:swapsWith (.ListComp o [⟨tg,c0,af,0⟩] scope pos) (some (.Name x p)) b8.line X.env=pure true:=by rfl) (hs:isSet c0=false:=by rfl) (hf:ye X x:=by first|exact .inl rfl|exact .inr rfl|assumption):
  PS X (.Assign [.Name x p] (.ListComp o [⟨tg,c0,af,0⟩] scope pos) b8) (tZ X fun Y A'=>zZ i (uZ (uF ix T A F (L (cQ A' Y)) (cQ A' Y)) A') Y):=
 (wG Lk hc hN hi hx hit kl.TV GH (gx hs) hf).TZ.weak fun D Z H ⟨B0,H0,B,A',Y,hb,g,ha,r,n,q⟩=>Eb (Q:=fun v H'=>D.nx (Z.set i (some v)) H') hT (qS (F:=fun Y=>uF ix T A F (L Y) Y) (oR (F:=fun Y A'=>uZ (uF ix T A F (L (cQ A' Y)) (cQ A' Y)) A') hb g ha r n q.bind fun t A2 v B' H' qt g' kO r' rv _=>qt _ B' H' g' kO (r'.set i rv) (n.set i t)))
end
section
variable {P:bf->Ab->Rz Bool}{n:Str}{hp:Pos}{oX:List Stmt}{xp:Stmt}{G G2:bf->Ab->Rz Out}
def Sa(r:Rz Tr):Rz Bool:=r.bind fun t A=>fQ (oH t) A
theorem Sb(h:PE X e (tE X ah))(he:lQ e=true:=by rfl):PT X e (O3 X fun Y A=>Sa (ah Y A)):=
 (Bk h (wK he)).weak fun Z H Q ⟨B,A,Y,ha,r,n,q⟩=>⟨B,A,Y,ha,r,n,q.bind.mono fun t A1 qt v B1 H1 g1 mj rv=>by
  obtain⟨o,h1,h2⟩:=wN (rv.same eI) (oQ (X:=X) (H:=H1) qt);exact⟨o,h1,h2 B1 H1 g1 mj⟩⟩
def Sd(r:Rz Bool):Rz Bool:=r.bind fun o A=>.ok (!o) A
theorem eq_not(h:PT X e (O3 X P)):PT X (.UnaryOp .Not e pos) (O3 X fun Y A=>Sd (P Y A)):=
 (Io h).weak fun Z H Q ⟨B,A,Y,ha,r,n,q⟩=>⟨B,A,Y,ha,r,n,q.bind⟩
variable {st:Stmt}
theorem WR:PE X e (tP X fun _=>.bad):=fun _ _ _ _ _ _ ⟨_,_,_,_,q⟩=>(show False from q).elim
theorem WS:PS X st (tS X fun _=>.bad):=fun _ _ _ _ _ _ ⟨_,_,_,_,_,_,_,q⟩=>(show False from q).elim
end
open PySem.W
structure Ai(K:Frag)(D:Addr):Prop where
 ga:findIn K (.ref D) "__getattribute__"=some (some (.builtin "BaseException.__getattribute__"))
 gh:findIn K (.ref D) "__getattr__"=some none
 cl:findIn K (.ref D) "__class__"=some (some (.builtin "object.__class__"))
 ob:mroIn K D (.type "object")=some true
 be:mroIn K D (.type "BaseException")=some true
section
variable {h:Heap}{g:Array GenState}{d:Drawn}{t:Nat}{os:OsState}{o:Obj}{K:Frag}
theorem Se{R:Result->Shared->Prop}(G:Ai K ae)(X:K.In h)(hx:h.get? a=some o)(hc:o.cls=.ref ae)(hq:R (.ok (.ret (.ref ae))) ⟨h,g,d,t,os⟩):
  codeAny (model P w) A (.call (.builtin "getset_descriptor.__get__") ⟨[.builtin "object.__class__",.ref a,aa],[]⟩) R ⟨h,g,d,t,os⟩:=by
 have hT5:(⟨h,g,d,t,os⟩:Shared).TypeIs (.builtin "object.__class__") "getset_descriptor":=vQ;have L0:Looks (model P w) h (typeOf (.ref a)) (.ref ae):=hc▸(lI hx).andThen .now;have L1:Looks (model P w) h (isSubtype (.ref ae) (.type (".".intercalate ("object.__class__".cutAt '.').dropLast))) true:=by rw[show".".intercalate ("object.__class__".cutAt '.').dropLast="object" by decide+kernel];exact looks_mroIn X G.ob
 refine vW F.slot_gs_get.plain F.entry_gs_get (F.slot_gs_get.check _ _ _ _ _ _ _ _ hT5 (F.args_gs_get _ _ _) ?_)
 repeat(any_goals (first|assumption|(with_reducible refine L0.at ?_)|(with_reducible refine L1.at ?_)|wp_step))
 refine⟨Code.quiet_builtin _ (by decide+kernel),eV F.entry_object_class ?_⟩
 repeat(any_goals (first|assumption|(with_reducible refine L0.at ?_)|wp_step))
theorem J_{tk:Tok}{Q:Fin->Shared->Prop}(G:Ai K ae)(X:K.In h)(hx:h.get? a=some o)(hc:o.cls=.ref ae)(hq:Q (.done (.ret (.ref ae))) ⟨h,g,d,t,os⟩):
  wpAny (model P w) A (Builtin.«object.__getattribute__» ⟨[.ref a,.str "__class__" tk],[]⟩) Q E ⟨h,g,d,t,os⟩:=by
 have L0:Looks (model P w) h (typeOf (.ref a)) (.ref ae):=hc▸(lI hx).andThen .now;have L1:=rW (M:=model P w) X G.cl;have hT5:(⟨h,g,d,t,os⟩:Shared).TypeIs (.builtin "object.__class__") "getset_descriptor":=vQ;have f5:=vQ;have f6:=F.slot_gs_get.lookup;have f7:=F.slot_gs_set.lookup
 repeat(any_goals (first|assumption|(with_reducible refine L0.at ?_)|(with_reducible refine L1.at ?_)|wp_step))
 refine Se G X hx hc ?_
 repeat(any_goals (first|assumption|wp_step))
theorem J'{M:Model}{Q:Unit->Shared->Prop}(G:Ai K ae)(X:K.In h)(hx:h.get? a=some o)(hc:o.cls=.ref ae)(hq:Q () ⟨h,g,d,t,os⟩):wpAny M A (checkBuiltinCall "BaseException.__getattribute__" ⟨[.ref a,aa],[]⟩) Q E ⟨h,g,d,t,os⟩:=by
 have L0:Looks M h (typeOf (.ref a)) (.ref ae):=hc▸(lI hx).andThen .now;have L1:=looks_mroIn (M:=M) X G.be;have k1:builtinKind "BaseException.__getattribute__"=some .slot:=by decide+kernel
 have k2:splitId "BaseException.__getattribute__"=some ("BaseException","__getattribute__"):=by decide+kernel
 have ha:=F.args_bexc_ga (.ref a) aa;simp only[checkBuiltinCall,k1,k2];refine ak ?_
 unfold isInstance
 repeat(any_goals (first|assumption|(with_reducible refine L0.at ?_)|(with_reducible refine L1.at ?_)|wp_step))
theorem ND{tk:Tok}{R:Result->Shared->Prop}(G:Ai K ae)(X:K.In h)(hx:h.get? a=some o)(hc:o.cls=.ref ae)(hq:R (.ok (.ret (.ref ae))) ⟨h,g,d,t,os⟩):
  codeAny (model P w) A (.call (.builtin "BaseException.__getattribute__") ⟨[.ref a,.str "__class__" tk],[]⟩) R ⟨h,g,d,t,os⟩:=
 vW (by decide+kernel) F.entry_bexc_ga (J' G X hx hc (J_ G X hx hc hq))
theorem WT{tk:Tok}(FB:Slot "ValueError" "__getattribute__" "BaseException.__getattribute__")(G:Ai K ae)(X:K.In h)(hx:h.get? a=some o)(hc:o.cls=.ref ae)(hq:Q (.ref ae) ⟨h,g,d,t,os⟩):
  wpAny (model P w) A (getAttrBy (.ref a) (.str "__class__" tk) false) Q E ⟨h,g,d,t,os⟩:=by
 have L0:Looks (model P w) h (typeOf (.ref a)) (.ref ae):=hc▸(lI hx).andThen .now;have L1:=rW (M:=model P w) X G.ga;have L2:=rW (M:=model P w) X G.gh;have f3:=FB.bind (.ref a);have k0:onTheHeap (Value.builtin "BaseException.__getattribute__")=false:=rfl;have k2:(Value.builtin "BaseException.__getattribute__"==Value.builtin "object.__getattribute__")=false:=by decide+kernel
 have k1:(onTheHeap (Value.ref ae)&&Value.builtin "BaseException.__getattribute__"==Value.builtin "object.__getattribute__")=false:=by rw[k2];rfl
 repeat(any_goals (first|assumption|(with_reducible refine L0.at ?_)|(with_reducible refine L1.at ?_)|(with_reducible refine L2.at ?_)|wp_step))
 refine ND G X hx hc ?_
 repeat(any_goals (first|assumption|wp_step))
theorem NF{Q:Option Value->Shared->Prop}(FB:Slot "ValueError" "__getattribute__" "BaseException.__getattribute__")(G:Ai K ae)(X:K.In h)(hx:h.get? a=some o)(hc:o.cls=.ref ae)(hq:Q (some (.ref ae)) ⟨h,g,d,t+1,os⟩):
  wpAny (model P w) A (getAttr? (.ref a) "__class__") Q E ⟨h,g,d,t,os⟩:=by
 unfold getAttr? getAttrBy?
 repeat(any_goals (first|assumption|with_reducible apply WT FB G X hx hc|wp_step))
theorem Ka(G:Ai K ae)(E5:(clsIn K ae).isSome=true):KitX K (.ref a) (.ref ae) (fun h=>∃o,h.get? a=some o/\o.cls=.ref ae) where
 ty:=fun M h X ⟨o,hx,hc⟩=>hc▸(lI hx).andThen .now
 it:=fun M h X _=>by
  unfold clsIn at E5;split at E5
  ·rename_i c' d' cd' Um ho;intro A' Q' E' s' k q;unfold isType loadHead;exact ak (wpAny_loadPart (k _ _ (X _ _ ho)) (aC q))
  ·cases E5
 ne:=fun h tp dd bE n sl X htp=>by
  refine Bool.eq_false_iff.mpr fun q=>?_
  have e:ae=tp:=Value.ref.inj (dZ.mp q);subst e;unfold clsIn at E5;split at E5
  ·rename_i c' d' cd' Um ho;cases(X _ _ ho).symm.trans htp
  ·cases E5
 ca:=fun{P w A E Q s} X ⟨o,hx,hc⟩ k=>by
  obtain⟨h,g,d,t,os⟩:=s;exact NF F.excAttr_ValueError.ga G X hx hc k
end
structure g8(K:Frag)(u:Value)(tab:List (Str×Bool)):Prop where
 all:∀x b,tab.lookup x=some b->kitOne K (.ref (clsAt K x)) u=some b/\Ai K (clsAt K x)/\(clsIn K (clsAt K x)).isSome=true
def Ho(tab:List (Str×Bool)):Tr->Rs Tr
 |.yM x=>match tab.lookup x with
  |some b=>.ok (.bl b)
  |none=>.bad
 |_=>.bad
section
variable {p2:Pos}{c:Str}{tab:List (Str×Bool)}{cv:V}
theorem Cj(T:g8 X.K aa tab)(hu:∀u',RelV cv u'->u'=aa):fG X (.builtin "isinstance") (fun xs H Q=>∃B y t,HB B H/\xs=[y,cv]/\Rep X.K (bz B H) y t/\Fi X H (Ho tab t) fun t=>∀v H',aE H H'->Rep X.K (bz B H') v t->Q v H'):=by
 intro U s Z H xs us Q I r ⟨B,y,t,hb,ex,ry,q⟩;subst ex;obtain⟨v,w',rfl,r1,r2⟩:=vals2 r;cases hu w' r2;cases ry with
 |@yM a oe x h hc=>
  cases r1;have q1:=q;unfold Ho at q1;dsimp only at q1;cases eb:tab.lookup x with
  |none=>rw[eb]at q1;exact fe q1
  |some b=>
   rw[eb]at q1;obtain⟨k1,k2,k3⟩:=T.all x b eb;obtain⟨ho,_⟩:=(show cu X.prog X.w H s.heap a (.ext fun h=>h.get? a=some oe)from I.cp a _ (dt h));exact dX (Ka k2 k3) I.kM ⟨oe,ho,hc⟩ k1 (fun z=>nomatch z) fun tk=>⟨.bl b,H,I.tok _,rfl,(show∀v H',aE H H'->Rep X.K (bz B H') v (.bl b)->Q v H' from q1) _ H (aE.refl H) (.bl b)⟩
 |_=>exact fe q
theorem Ck(hv:PE X (.Name c p2) (tC cv))(he:PE X e (tP X F))(bQ:isStar e=false):PA X [e,.Name c p2] (fun Z H Q=>∃B Y,HB B H/\bV X.K B H Z Y/\Fi X H (F Y) fun t=>∀v H',aE H H'->Rep X.K (bz B H') v t->Q [v,cv] H'):=
 (kC he (kC hv qM (aY _ _ rfl)) (aY _ _ bQ)).weak fun Z H Q ⟨B,Y,hb,r,q⟩=>⟨B,Y,hb,r,q.mono fun t qt v H1 s1 rv=>qt v H1 s1 rv⟩
theorem Sf(T:g8 X.K (.ref (clsAt X.K c)) tab)(hm:X.mg c=some (.ref (clsAt X.K c)))(hi:X.mg "isinstance"=none)(he:PE X e (tP X F))(hg:Gl X c:=by rfl) (Kb:Gl X "isinstance":=by rfl) (eM:Db c:=by decide) (bQ:aP [e,.Name c p2]=true:=by rfl):
  PE X (.Call (.Name "isinstance" p) [e,.Name c p2] [] pos) (tP X fun Y=>(F Y).bind (Ho tab)):=
 (oz (Cj (cv:=.ref (clsAt X.K c)) T fun u' z=>z) Kb hi rfl (Ck (zH (v:=.ref (clsAt X.K c)) hg hm rfl eM) he (aG bQ).1) (by decide) (by decide) (aY _ _ (aG bQ).1) (cg (aG bQ).2)).weak fun Z H Q ⟨B,Y,hb,r,q⟩=>⟨B,Y,hb,r,q.bind.mono fun t qt v H1 s1 rv=>⟨B,v,t,hb.same s1,rfl,rv,(qt.same s1).mono fun t k v H2 s2 r2=>k v H2 (s1.trans s2) r2⟩⟩
theorem Sg{n:String}(T:g8 X.K (.type n) tab)(hm:X.mg c=none)(hi:X.mg "isinstance"=none)(he:PE X e (tP X F))(hv:bootBuiltins c=some (.type n):=by rfl) (hg:Gl X c:=by rfl) (hn:c≠"__name__":=by decide) (Kb:Gl X "isinstance":=by rfl) (eM:Db c:=by decide) (bQ:aP [e,.Name c p2]=true:=by rfl):
  PE X (.Call (.Name "isinstance" p) [e,.Name c p2] [] pos) (tP X fun Y=>(F Y).bind (Ho tab)):=
 (oz (Cj (cv:=.ty n) T fun u' z=>z) Kb hi rfl (Ck (EM (v:=.ty n) hg hm hv rfl hn eM) he (aG bQ).1) (by decide) (by decide) (aY _ _ (aG bQ).1) (cg (aG bQ).2)).weak fun Z H Q ⟨B,Y,hb,r,q⟩=>⟨B,Y,hb,r,q.bind.mono fun t qt v H1 s1 rv=>⟨B,v,t,hb.same s1,rfl,rv,(qt.same s1).mono fun t k v H2 s2 r2=>k v H2 (s1.trans s2) r2⟩⟩
end
def qm:List Tr->Option (List Int)
 |[]=>some []
 |.int i::ts=>(qm ts).map fun r=>i::r
 |_=>none
theorem zb{W:Vw}:∀{vs:List V} {ts:List Tr} {ns:List Int},bc K W vs ts->qm ts=some ns->vs=ns.map V.int
 |[],[],ns,_,e=>by cases e;rfl
 |[],_::_,_,h,_=>by cases h
 |v::vs,ts,ns,h,e=>by
  cases h with
  |cons h r=>
   cases h with
   |int i=>
    rename_i ts;have e':(qm ts).map (fun r=>i::r)=some ns:=e;cases q:qm ts with
    |none=>rw[q]at e';cases e'
    |some rs=>
     rw[q]at e';cases e';rw[zb r q];rfl
   |_=>cases e
def qv(ns:List Int):Int:=ns.getD (argBest (fun i j=>decide (ns.getD i 0>ns.getD j 0)) (ns.length - 1)) 0
def Kc:List Tr->Rs Tr
 |[.lst ts]=>match qm ts with
  |some ns=>if 0<ns.length then .ok (.int (qv ns))else .bad
  |none=>.bad
 |[.int i,.int j]=>.ok (.int (if j>i then j else i))
 |_=>.bad
section
theorem Hq(hc:X.calm=true):fG X (.builtin "max") (fun xs H Q=>∃(a:Addr) (ns:List Int),xs=[.ref a]/\kB X.K H a (ns.map V.int)/\0<ns.length/\Q (.int (qv ns)) H):=by
 intro U s Z H xs us Q I r h;obtain⟨a,ns,rfl,ha,gq,q⟩:=h;obtain⟨u,rfl,ru⟩:=vals1 r;cases(show u=Value.ref a from ru);obtain⟨bE,rv,pl,_⟩:=I.list ha;have b9:bE.length=ns.length:=by have e:=rv.length;rw[aK]at e;exact e.symm
 have Nh:∀(i:Nat) (v:Value),bE.toArray[i]?=some v->∃t,v=.int (ns.getD i 0) t:=fun i v hv=>by
  have IF:bE[i]?=some v:=by simpa using hv
  have hi:i<ns.length:=by rw[<-b9];exact(fi.mp IF).1
  obtain⟨u,hu,ru⟩:=rv.get (i:=i) (x:=V.int ns[i]) (by rw[bA,bq hi];rfl);rw[IF]at hu;cases hu;obtain⟨t,rfl⟩:=(show∃t,v=Value.int ns[i] t from ru);exact⟨t,by rw[dD,bq hi];rfl⟩
 have T6:=pl.isList;have gn:a<s.heap.objs.size:=by obtain⟨_,e,_⟩:=T6;exact aO e
 refine call_max_walk (lE T6 ?_);refine⟨_,_,_,_,_,_,_,rfl,Walks.list (A:=X.A.in1) (I.ok.hd hc) _ a (bu gn) bE.toArray,⟨⟨_,bG _ rfl,rfl,rfl⟩,T6.push _⟩,fun b hb=>?_,by simpa[b9]using gq,CmpOf.ints_gt (fun i=>ns.getD i 0) Nh,fun v h' tk hP hk=>?_⟩
 ·show b<(s.heap.push _).objs.size;rw[iK];rcases aV.mp hb with rfl|hb
  ·exact nR _
  ·rw[cE.mp hb];exact kz gn
 ·obtain⟨t,rfl⟩:=Nh _ v hP;have e:bE.toArray.size=ns.length:=by rw[cn];exact b9
  rw[e];refine⟨.int (qv ns),H,I.kept (t':=tk) fun b o e=>?_,⟨t,rfl⟩,q⟩;refine hk b o (fun hm=>?_) (bh _ e);rw[cE.mp hm]at e;exact absurd (aO e) (dH _)
theorem Kd{k:Tr->Prop}(q:Fi X H (Kc ts) k):(∃us ns,ts=[.lst us]/\qm us=some ns/\0<ns.length/\k (.int (qv ns)))\/∃i j:Int,ts=[.int i,.int j]/\k (.int (if j>i then j else i)):=by
 unfold Kc at q;split at q
 ·rename_i us;cases e:qm us with
  |none=>rw[e]at q;exact fe q
  |some ns=>
   rw[e]at q;obtain⟨h0,z⟩:=gy q;exact .inl ⟨us,ns,rfl,e,h0,z⟩
 ·exact .inr ⟨_,_,rfl,q⟩
 ·exact fe q
theorem Pg(hc:X.calm=true):kE X (.builtin "max") Kc:=by
 intro U s Z H xs us Q I rv ⟨B,ts,hb,r,q⟩;rcases Kd q with⟨DN,ns,rfl,e,h0,k⟩|⟨i,j,rfl,k⟩
 ·obtain⟨x,rfl,h⟩:=fb r;obtain⟨a,vs,rfl,h,rr⟩:=h.lst_inv;cases zb rr e;exact Hq hc U s Z H _ us Q I rv ⟨_,ns,rfl,.of (dt h),h0,k _ H (aE.refl H) (.int _)⟩
 ·obtain⟨x,y,e,h1,h2⟩:=yO r;exact GA hc U s Z H _ us Q I rv ⟨i,j,by rw[e,h1.int_inv,h2.int_inv],k _ H (aE.refl H) (.int _)⟩
variable {l:Expr}{p1 p2 Wq Wr:Pos}
theorem Cm{t:Tr}{k:Tr->Prop}(q:Fi X H (oV t) k):∃ts ss,t=.lst ts/\ng ts=some ss/\ss.length<64/\k (.lst ((cx (dG [] ss)).map .str)):=by
 unfold oV at q;split at q
 ·rename_i ts;cases e:ng ts with
  |none=>rw[e]at q;exact fe q
  |some ss=>
   rw[e]at q;obtain⟨h0,z⟩:=gy q;exact⟨ts,ss,rfl,e,h0,z⟩
 ·exact fe q
theorem xq:∀(xs ss:List Str),(dG ss xs).length<=ss.length+xs.length
 |[],ss=>aQ _
 |x::xs,ss=>by
  have h1:=xq xs (fL ss x);have h2:=xf ss x;show(dG (fL ss x) xs).length<=_;rw[cG];omega
theorem Ec{z:Str}(h:z∈fL ps x):z∈ps\/z=x:=by
 unfold fL at h;split at h
 ·exact .inl h
 ·rcases cR.mp h with h|h
  ·exact .inl h
  ·exact .inr (cE.mp h)
theorem xr:∀{xs ss:List Str} {z:Str},z∈dG ss xs->z∈ss\/z∈xs
 |[],ss,z,h=>.inl h
 |x::xs,ss,z,h=>by
  rcases xr (xs:=xs) (ss:=fL ss x) h with h|h
  ·rcases Ec h with h|h
   ·exact .inl h
   ·exact .inr (aV.mpr (.inl h))
  ·exact .inr (bF _ h)
theorem Si(hs:X.mg "sorted"=none)(hm:X.mg "set"=none)(hl:PE X l (tP X F))(hc:X.calm=true:=by rfl) (hg:Gl X "sorted":=by rfl) (Kb:Gl X "set":=by rfl) (bQ:aP [l]=true:=by rfl):
  PE X (.Call (.Name "sorted" p1) [.Call (.Name "set" p2) [l] [] Wr] [] Wq) (tP X fun Y=>(F Y).bind oV):=
 (oz (xh hc) hg hs rfl (kC (t_ (Hc hc) Kb hm rfl (kC hl qM (aY _ _ (aG bQ).1)) (by decide) (by decide) (aY _ _ (aG bQ).1) (cg (aG bQ).2)) qM (aY _ _ rfl)) (by decide) (by decide) (aY _ _ rfl) (cg (es:=[]) rfl)).weak fun Z H Q ⟨B,Y,hb,r,q⟩=>⟨B,Y,hb,r,q.bind.mono fun t qt v H1 s1 rv=>by
  obtain⟨ts,ss,rfl,e1,D3,k⟩:=Cm qt;cases rv with
  |lst h rr=>
   obtain⟨rfl,hs⟩:=uk rr e1;refine⟨_,ss,rfl,.of (dt h),?_,fun a ha=>⟨a,dG [] ss,rfl,a_,?_,fun D hD=>?_⟩⟩
   ·have:scanBound=9007199254740992\/ss.length+1<scanBound:=by
     right;show ss.length+1<scanBound;have MA:65<scanBound:=by decide
     omega
    rcases this with h|h
    ·omega
    ·exact h
   ·have:=xq ss [];simp at this;omega
   ·have s2:aE H1 (upd H1 a (Ha X.w a (dG [] ss))):=aE.upd ha;have s3:aE (upd H1 a (Ha X.w a (dG [] ss))) (upd (upd H1 a (Ha X.w a (dG [] ss))) D (.lst ((cx (dG [] ss)).map V.str))):=aE.upd hD;exact k _ _ ((s1.trans s2).trans s3) (.zU ((hb.same s1).same s2) hD (xm fun z hz=>hs z ((xr hz).resolve_left (by simp))))⟩
end
section
variable {G:bf->Ab->Rz Tr}
def aao:V->List V->Hp->VK->Prop:=fun x xs H Q=>∃a b kvs more,x=.ref a/\xs=[.ref b]/\a≠b/\H a=some (.dK kvs)/\Rd H b (.dK more)/\kvs.length+more.length<=sizeLine/\Q .bO (upd H a (.dK (hJ kvs more)))
theorem Hr:Qh X "dict.update" aao:=by
 intro U s Z H x xs v us Q I rx rv ⟨a,b,kvs,more,e1,e2,DM,ha,hb,hz,q⟩;subst e1 e2;obtain⟨u,rfl,ru⟩:=vals1 rv;cases rx;cases(show u=Value.ref b from ru);obtain⟨z1,s1,vs1,r1,d1⟩:=(show cu X.prog X.w H s.heap a (.dK kvs)from I.cp a _ ha);obtain⟨z2,s2,Z2,r2,d2⟩:=(show cu X.prog X.w H s.heap b (.dK more)from hb.ok I.cp);refine iL PySem.F.slot_dict_update d1.typeIs PySem.F.entry_dict_update (PySem.F.args_dict_update_2 _ _) (meets_dict_update (bC X.prog X.w) a b DM s2) ⟨vs1,Z2,d1,d2,by rw[<-KV.length r1,<-KV.length r2];exact hz,fun h' d1' _ hs=>?_⟩;have he:∃q,h'.get? a=some q:=let⟨q,_,_,hq,_⟩:=d1';⟨q,hq⟩
 have hl:(hJ kvs more).length<=sizeLine:=bP (by have:=iB more kvs;omega) hz;exact⟨.bO,_,sE I (by rw[ha];exact True.intro) hs he (wy hl s1 (r2.merge r1) d1'),rfl,q⟩
def WU(o:Rz Tr)(k:Ab->Rz Tr):Rz Tr:=o.bind fun t A=>match t with
 |.at i=>if lW A i=true then(k A).bind fun tk A=>match tk with
  |.bw DQ=>if lW A i=true/\(nA A i).length+DQ.length<=ee then .ok .bO (A.set i (.bw (kQ (nA A i) DQ)))else .bad
  |_=>.bad
  else .bad
 |_=>.bad
theorem WV(ho:PE X o (tE X ah))(he:PE X e (tE X G))(hb:isCall o=false:=by rfl) (bQ:aP [e]=true:=by rfl) (hl:(b8.endLine==p.line)=true:=by rfl):PE X (.Call (.Attribute o "update" b8) [e] [] p) (tE X fun Y A=>WU (ah Y A) (G Y)):=
 (EW pB PySem.F.slot_dict_update PySem.F.type_dict_update Hr ho (FC he Jx (aG bQ).1) (fu hb) (by rw[iN bQ];rfl) hl (aY _ _ (aG bQ).1) (cg (aG bQ).2)).weak fun Z H Q ⟨B,A,Y,ha,r,n,q⟩=>⟨B,A,Y,ha,r,n,q.bind.mono fun t A1 qt v B1 H1 g1 mj rv=>by
  split at qt
  ·obtain⟨a,rfl,p8⟩:=rv.mF;rename_i i;obtain⟨hd,q2⟩:=gz qt;obtain⟨aM,kvs,e1,e2,e3,e4⟩:=pN mj p8 hd;refine⟨.inr (.inr (.inl ⟨rfl,.inl ⟨_,e3⟩⟩)),B1,A1,Y,mj,r.grow n g1,n,?_⟩;have q3:=(gD.bind q2).imp (fun c A' (z:XE X B H c A')=>z.grow ha.hb g1);have step:gD (XE X B1 H1) (FA (G Y A1) fun A=>.ok [] A) (fun ts A2=>∃tk,ts=[tk]/\gD (XE X B H) (match tk with
     |.bw DQ=>if lW A2 i=true/\(nA A2 i).length+DQ.length<=ee then .ok .bO (A2.set i (.bw (kQ (nA A2 i) DQ)))else .bad
     |_=>.bad) fun t A'=>∀v B' H',Grows B H B' H'->HA X.K B' A' H'->Rep X.K (bz B' H') v t->Q v H'):=by
    cases eg:G Y A1 with
    |ok x A2=>rw[eg]at q3;exact⟨x,rfl,q3⟩
    |_=>rw[eg]at q3;exact q3
   refine step.mono fun ts A2 ⟨tk,et,qk⟩ vs B2 H2 g2 oS rs=>?_
   subst et;obtain⟨y,rfl,ry⟩:=fb rs;have Ah:=g2.jH.x _ _ p8;split at qk
   ·obtain⟨b,mvs,rfl,hm,em,rm⟩:=ry.mE;rename_i DQ _;obtain⟨⟨hd2,hz⟩,q4⟩:=gz qk;obtain⟨R7,JZ,f1,f2,f3,f4⟩:=pN oS Ah hd2;rw[Ag f1]at hz q4;have DM:a≠b:=fun z=>by
     have n:(bz B2 H2).H a=none:=by show(if B2.hd a=true then none else H2 a)=none;rw[au f2]
     rw[<-z]at hm;rcases hm with h|⟨o,h⟩<;>(rw[n]at h;cases h)
    have b9:mvs.length=DQ.length:=by have:=cq List.length em;rw[aK,aK]at this;exact this
    obtain⟨g4,h6⟩:=oS.write (o:=.bw (kQ R7 DQ)) (u:=.dK (hJ JZ mvs)) Ah ⟨f2,_,a_,by rw[iD f2];exact di.merge ⟨em,rm⟩ f4⟩;exact⟨a,b,JZ,mvs,rfl,rfl,DM,f3,hm.same aZ,by rw[f4.length,b9,<-i8];exact hz,q4 .bO B2 _ ((g1.trans ha.hb g2).trans ha.hb g4) h6 .bO⟩
   ·exact qk.elim
  ·exact qt.elim⟩
end
def Itk(ks:List Str):It:=⟨fun i _=>i<ks.length,fun i H x H'=>H'=H/\∃z,ks[i]?=some z/\x=.str z,fun i _=>ks.length<=i⟩
theorem Ed(a it:Addr)(kvs:List (Str×Value))(o:Obj)(es:Array DictEntry)(ep:Nat)(lk:K.lookup a=some o)(ex:o.ExactDict)(hd:o.data=.dict es ep)(hk:KeysOf (PySem.strKind P w) es/\Pairs (PySem.strKind P w) es.toList kvs/\(kvs.map (·.1)).Nodup):Turn P w K tg (Itk (kvs.map (·.1))) [it] it (fun i h=>h.IsKeyIter it a i kvs.length ep) where
 mem:=by simp
 obj:=fun i h st b hb=>by
  have e:b=it:=by simpa using hb
  subst e;obtain⟨o,e,c,d⟩:=st;exact⟨o,e,fun v z=>by rw[d]at z;cases z⟩
 keep:=fun i h h' st k=>by
  obtain⟨o,e,c⟩:=st;exact⟨o,k it (by simp) o e,c⟩
 item:=by
  intro X hP hw hK hc i U s Z H E I hf st hg;subst hP hw hK;have hi:i<kvs.length:=by have q:i<(kvs.map (·.1)).length:=hg;rw[aK]at q;exact q
  have ho:s.heap.get? a=some o:=I.kM a o lk;obtain⟨f0,f1,f2,f3,f4,f5⟩:=hf it (by simp);have ex1:kvs[i]?=some (kvs[i].1,kvs[i].2):=by simp[hi]
  refine wpAny_pyNext_dict_item (knd:=PySem.strKind X.prog X.w) st ⟨o,es,ho,ex,hd,hk⟩ ex1 fun key h' hk1 wk sb=>?_
  have I1:Inv X U Z H {s with heap:=h'}:=I.turned (t':=s.toks) (fun b o hb e=>(sb.2 b hb).trans e) f0 f1 f3 f4 f5;obtain⟨oi,e,c,d⟩:=id wk;refine⟨key,rfl,yD (s:={s with heap:=h'}) e c d (by decide) ⟨.str kvs[i].1,H,I1,?_,⟨rfl,kvs[i].1,by rw[bA,ex1];rfl,rfl⟩,wk,fun b hb=>(hf b hb).1⟩⟩;exact uj (k:=.inr kvs[i].1) hk1
 done:=by
  intro X hP hw hK hc i U s Z H E I hf st hg;subst hP hw hK;have hi:kvs.length<=i:=by have q:(kvs.map (·.1)).length<=i:=hg;rw[aK]at q;exact q
  have ho:s.heap.get? a=some o:=I.kM a o lk;obtain⟨f0,f1,f2,f3,f4,f5⟩:=hf it (by simp);exact wpAny_pyNext_dict_end (knd:=PySem.strKind X.prog X.w) (I.ok.hd hc) st ⟨o,es,ho,ex,hd,hk⟩ (List.getElem?_eq_none hi) fun h' eb=>⟨rfl,I.turned (t':=s.toks) (fun b o hb e=>eb b o hb e) f0 f1 f3 f4 f5⟩
 self:=fun _ _ _ _ _ st h=>wpAny_pyIter_keyiter st h
def Aj(K:Frag)(w:World)(mg:Str->Option Value)(x:Str)(ks:List Str):Prop:=∃a kvs,mg x=some (.ref a)/\Bz K w a kvs/\kvs.map (·.1)=ks/\∀z∈ks,z.length<=cw
theorem Sj(T:Aj X.K X.w X.mg x ps)(hg:Gl X x:=by rfl) (eM:Db x:=by decide):PI X tg (.Name x p) (tI X fun _=>.ok (ps.map .str)):=by
 obtain⟨a,kvs,hm,⟨hs,o,es,ep,lk,ex,hd,hk⟩,rfl,hz⟩:=T;intro U s Z H R I ⟨B,Y,hb,r,q⟩;refine pE I hg hm ?_ eM
 have ho:s.heap.get? a=some o:=I.kM a o lk;refine wpAny_pyIter_dict (knd:=PySem.strKind X.prog X.w) hs ⟨o,es,ho,ex,hd,hk X.prog⟩ ?_
 refine⟨s.heap.objs.size,[s.heap.objs.size],_,Itk (kvs.map (·.1)),H,rfl,I.kept (t':=s.toks) fun b o e=>bh _ e,Ed a _ kvs o es ep lk ex hd (hk X.prog),⟨_,bG _ rfl,rfl,rfl⟩,fun b hb=>?_,?_⟩
 ·have e:b=s.heap.objs.size:=by simpa using hb
  subst e;exact I.wj (aQ _) (I.cp.fresh (aQ _))
 ·refine(show∀J H',aE H H'->lR X.K B J H' ((kvs.map (·.1)).map .str)->R J H' from q) _ H (aE.refl H) ⟨fun i B' H' hi _ _=>?_,fun i B' H' y LQ hi s2 Ng ⟨eh,z,ez,ey⟩=>?_,fun B' H' _=>?_⟩
  ·have e:i<((kvs.map (·.1)).map Tr.str).length:=hi;rw[aK]at e;exact e
  ·subst eh ey;exact⟨aE.refl _,.str z,by rw[bA,ez];rfl,.str z (hz z (dm ez))⟩
  ·show(kvs.map (·.1)).length<=((kvs.map (·.1)).map Tr.str).length;rw[aK (f:=Tr.str)];exact aQ _
def Ak:Heap:={}
theorem oY(b:Addr):Ak.get? b=none:=by
 cases e:Ak.get? b with
 |none=>rfl
 |some o=>exact absurd (aO e) (v7 _)
def Ee(h:Heap)(L:Addr):List (Addr×Obj):=(List.range h.objs.size).filterMap fun b=>if b=L then none else(h.get? b).map fun o=>(b,o)
theorem Ef{h:Heap}{o:Obj}:(ae,o)∈Ee h a↔ae≠a/\h.get? ae=some o:=by
 unfold Ee;rw[ky];constructor
 ·rintro ⟨c,_,e⟩
  by_cases z:c=a
  ·rw[au z]at e;cases e
  ·rw[ay z]at e;cases q:h.get? c with
   |none=>rw[q]at e;cases e
   |some u=>rw[q]at e;cases e;exact⟨z,q⟩
 ·rintro ⟨n,e⟩
  exact⟨ae,rP.mpr (aO e),by rw[ay n,e];rfl⟩
theorem Inv.Ke {m:Str->Option Value}{h':Heap}{tk:Nat}(I:Inv X U Z H s)(hn0:s.heap.Ns X.env.locals m)(hn:h'.Ns X.env.locals m)(kp:∀b o,b≠X.env.locals->s.heap.get? b=some o->h'.get? b=some o):Inv X U Z H {s with heap:=h',toks:=tk}:=by
 obtain⟨m0,hm0,hl⟩:=id I.loc;have Gs:=I.Gs;have lo:∀{b:Addr} {o:Obj},X.fq.heap.get? b=some o->b≠X.env.locals:=fun{b o} e=>bu (cy (aO e) I.ok.above);have em:m0=m:=by
  obtain⟨o1,u0,ep1,a1,b1,_,d1⟩:=hm0;obtain⟨o2,es2,ep2,a2,b2,_,d2⟩:=hn0;rw[a1]at a2;cases a2;rw[b1]at b2;cases b2;funext x;rw[<-d1 x,<-d2 x]
 subst em;refine⟨I.ok,I.os,I.bare,⟨fun b o e n hb hx=>kp b o (lo e) (I.base.keep b o e n hb hx),fun b o e n hb hx=>?_,I.base.free,fun b o e hx=>?_,I.base.lL,I.base.ki,I.base.mC⟩,⟨m0,hn,fun j y v' e1 e2 e3=>?_⟩,fun y c e=>?_,I.free,I.eZ,fun p hp=>?_,fun b u e=>?_,I.len⟩
 ·obtain⟨sl,e1⟩:=I.base.slot b o e n hb hx;exact⟨sl,kp b _ (lo e) e1⟩
 ·obtain⟨o',e1⟩:=I.base.there b o e hx;exact⟨o',kp b o' (lo e) e1⟩
 ·obtain⟨u',r',q⟩:=hl j y v' e1 e2 e3;refine⟨u',r',?_⟩;rcases q with⟨k,e⟩|⟨k,c,e,z⟩
  ·exact .inl ⟨k,e⟩
  ·obtain⟨oc,e5,e6⟩:=id z;exact .inr ⟨k,c,e,oc,kp c oc (Gs y c e) e5,e6⟩
 ·obtain⟨w',z⟩:=I.cell y c e;obtain⟨oc,e5,e6⟩:=id z;exact⟨w',oc,kp c oc (Gs y c e) e5,e6⟩
 ·obtain⟨e,n,ne,nf,d⟩:=I.pin p hp;exact⟨kp p.1 p.2 ne e,n,ne,nf,d⟩
 ·refine(I.cp b u e).oq (fun c w' hc q=>kp c w' ?_ q) (fun _ q=>q) fun _ _ q=>q
  rintro rfl
  rcases hc with rfl|hc
  ·rw[I.free]at e;cases e
  ·rw[I.free]at hc;cases hc
def zc:List Tr->Rs Tr
 |[.bw aM]=>.ok (.int aM.length)
 |ts=>M5 ts
theorem hV:kE X (.builtin "len") zc:=by
 intro U s Z H xs us Q I rv ⟨B,ts,hb,r,q⟩;by_cases z:∃aM,ts=[.bw aM]
 ·obtain⟨aM,rfl⟩:=z;cases r with
  |cons h r=>
   cases r;cases h with
   |@bw a kvs _ h ek rr=>
    obtain⟨u,rfl,ru⟩:=vals1 rv;cases ru;have hl:kvs.length=aM.length:=by have:=cq List.length ek;rw[aK,aK]at this;exact this
    exact UT I (h.same aZ) fun t s' I'=>⟨.int kvs.length,H,I',⟨t,rfl⟩,(show∀v H',aE H H'->Rep X.K (bz B H') v (.int aM.length)->Q v H' from q) _ H (aE.refl H) (by rw[hl];exact .int _)⟩
 ·have e:zc ts=M5 ts:=by
   unfold zc;split
   ·exact absurd ⟨_,rfl⟩ z
   ·rfl
  rw[e]at q;exact VE U s Z H xs us Q I rv ⟨B,ts,hb,r,q⟩
theorem Hs:typeLookup (.type "list") "keys"=pure none:=by rw[typeLookup_type,vP];kernel_rfl
section
variable {xs:Array Value}{k:Nat}{sl:Array (Option Value)}
theorem Eg{Q:Option Value->Shared->Prop}(hx:s.heap.get? a=some {cls:=.type "list",dict:=none,data:=.seq xs k,slots:=sl}) (hA:A.handled=none)
  (h:∀h' tk,(∀b o,s.heap.get? b=some o->h'.get? b=some o)->Q none {s with heap:=h',toks:=tk}):wpAny (model P w) A (getAttr? (.ref a) "keys") Q E s:=by
 obtain⟨hp,g,d,tk,os⟩:=s;have hT:∀u5,(⟨hp,g,d,u5,os⟩:Shared).TypeIs (.ref a) "list":=fun _=>⟨_,hx,rfl⟩;have f1:=sub_AttributeError;have f3:=vN.lookup;have f4:=vN.bind (.ref a);have f5:=am_list_getattr_none;unfold getAttr? getAttrBy? getAttrBy
 repeat(any_goals (first|assumption|exact hT _|((with_reducible show wpAny _ _ (call (Value.builtin "list.__getattribute__") _ _) _ _ _);refine jU vN (hT _) am_entry_list_getattribute (F.args_list_getattribute_2 _ _) (meets_getattribute_miss_list a xs k sl "keys" _ Hs (by decide+kernel) (by size_fits)) ⟨hx,hA,fun h' u5 e YE=>?_⟩)|wp_step))
 obtain⟨t',u',he⟩:=YE.there;have hTe:∀u5,(⟨h',g,d,u5,os⟩:Shared).TypeIs (.ref e) "AttributeError":=fun _=>⟨_,he,rfl⟩;show wpAny _ _ (getattributeRaised _ _ _ _ _ _ _) _ _ _;unfold getattributeRaised
 repeat(any_goals (first|assumption|exact hTe _|wp_step))
 exact h h' u5 YE.of.keeps
theorem zd:entryFor table "dict.update.loop"=some Builtin.«dict.update.loop»:=entryFor_of_tree (by kernel_rfl)
theorem pP:plainId "dict.update.loop"=true:=by decide+kernel
theorem Kf{h0:Heap}{d I:Addr}{a8:List Value}{pairs:List (Key×Value)}{R:Result->Shared->Prop}(hh:A.handled=none)(hl:h0.IsList a a8.toArray)(b9:a8.length=pairs.length)(hp:∀(j:Nat) (t:Value),a8[j]?=some t->∃ad key k v,t=.ref ad/\h0.IsTuple ad #[key,v]/\lK k key=true/\pairs[j]?=some (k,v))
  (Wt:h0.get? d=none) (hI0:h0.get? I=none) (hdI:d≠I) (hz:pairs.length<=100000)
  (hR:∀h' u5,(∀b o,h0.get? b=some o->h'.get? b=some o)->h'.DictOf (bC P w) d (merged [] pairs)->R (.ok (.ret .none)) {s with heap:=h',toks:=u5}):
  ∀(r i:Nat) (h:Heap) (tk:Nat) (kvs:List (Key×Value)),pairs.length - i=r->i<=pairs.length->kvs.length<=i->merged kvs (pairs.drop i)=merged [] pairs->(∀b o,h0.get? b=some o->h.get? b=some o)->h.IsListIter I a i->h.DictOf (bC P w) d kvs->
   codeAny (model P w) A (.builtin "dict.update.loop" ⟨[.ref d,.ref I,rawInt i,.none],[]⟩) R {s with heap:=h,toks:=tk}:=by
 have lof:∀{h:Heap},(∀b o,h0.get? b=some o->h.get? b=some o)->h.IsList a a8.toArray:=fun{h} k=>by obtain⟨o,e,x⟩:=hl;exact⟨o,k _ _ e,x⟩
 have nd:∀{b:Addr} {o:Obj},h0.get? b=some o->b≠d:=fun{b o} e z=>by rw[z,Wt]at e;cases e
 have nI:∀{b:Addr} {o:Obj},h0.get? b=some o->b≠I:=fun{b o} e z=>by rw[z,hI0]at e;cases e
 intro r
 induction r with
 |zero=>
  intro i h tk kvs hr hi hk hm kp it dd;have e:i=pairs.length:=by omega
  subst e;refine eV zd ?_
  rw[fV pP _];show wpAny _ A.in1 (pyNext (.ref I)>>=_) _ _ _;refine ak (wpAny_pyNext_list_end hh it (lof kp) (by simp[b9]) fun h' eb=>?_);rw[rK]at hm;have E1:h'.DictOf (bC P w) d kvs:=by
   obtain⟨o,es,ep,e,x⟩:=dd;exact⟨o,es,ep,eb d o hdI e,x⟩
  show wpAny _ A.in1 (Builtin.Dict.addKeywords d []>>=_) _ _ _;refine ak (aC (aC ?_));exact hR h' tk (fun b o e=>eb b o (nI e) (kp b o e)) (by rw[<-hm];exact E1)
 |succ r ih=>
  intro i h tk kvs hr hi hk hm kp it dd;have gn:i<pairs.length:=by omega
  have hli:i<a8.length:=by omega
  obtain⟨ad,key,k,v,et,tp,IE,ep⟩:=hp i a8[i] (by simp[hli]);have Il:pairs[i]=(k,v):=by rw[bq gn]at ep;exact Option.some.inj ep
  refine eV zd ?_
  rw[fV pP _];show wpAny _ A.in1 (pyNext (.ref I)>>=_) _ _ _;refine ak (wpAny_pyNext_list_item it (lof kp) (x:=.ref ad) (by simp[hli,et]) fun h' it' sb=>?_);have kp':∀b o,h0.get? b=some o->h'.get? b=some o:=fun b o e=>(sb.2 b (nI e)).trans (kp b o e);have E1:h'.DictOf (bC P w) d kvs:=by
   obtain⟨o,es,ep,e,x⟩:=dd;exact⟨o,es,ep,(sb.2 d hdI).trans e,x⟩
  obtain⟨ot,e1,e2,n,e3⟩:=tp;have hT:Shared.TypeIs {s with heap:=h',toks:=tk} (.ref ad) "tuple":=⟨ot,kp' _ _ e1,e2⟩;refine ak ?_
  refine eD ?_
  refine ak (jR ?_);unfold Builtin.Dict.pairItems;refine ak (rY hT ?_);rw[au (by decide)];refine ak (f_ (kp' _ _ e1) e3 ?_);refine aC ?_
  show wpAny _ A.in1 (holding [key,v] (dictSet d key v)) _ _ _;refine eD (wpAny_dictSet_pairs (knd:=bC P w) (hsz:=by rw[c_];omega) IE E1 fun h2 TB sb2=>?_);show wpAny _ A.in1 (pure _) _ _ _;refine aC ⟨f' pP _,?_⟩;have hc:rawInt ((i:Int)+1)=rawInt ((i+1:Nat):Int):=by push_cast;rfl
  rw[hc];refine ih (i+1) h2 _ (stored kvs k v) (by omega) gn ?_ ?_ (fun b o e=>(sb2.2 b (nd e)).trans (kp' b o e)) ?_ TB
  ·exact bP (stored_length_le kvs k v) (by omega)
  ·rw[ra gn,Il]at hm;exact hm
  ·obtain⟨o,e,x⟩:=it';exact⟨o,(sb2.2 I (Ne.symm hdI)).trans e,x⟩
theorem Eh{a8:List Value}{pairs:List (Key×Value)}{sl0:Array (Option Value)}(hh:A.handled=none)(hx:s.heap.get? a=some {cls:=.type "list",dict:=none,data:=.seq a8.toArray i,slots:=sl0}) (b9:a8.length=pairs.length)
  (hp:∀(j:Nat) (t:Value),a8[j]?=some t->∃ad key k v,t=.ref ad/\s.heap.IsTuple ad #[key,v]/\lK k key=true/\pairs[j]?=some (k,v)) (hz:pairs.length<=100000)
  (h:∀h' u5,(∀b o,s.heap.get? b=some o->h'.get? b=some o)->h'.DictOf (bC P w) s.heap.objs.size (merged [] pairs)->Q (.ref s.heap.objs.size) {s with heap:=h',toks:=u5}):
  wpAny (model P w) A (call (.type "dict") [.ref a]) Q E s:=by
 refine callType_codes (Q₁:=fun obj cC=>obj=.ref s.heap.objs.size/\cC={s with heap:=s.heap.push {cls:=.type "dict",data:=.dict #[]}}) F.kt_called_dict (F.kt_typeCall_dict_1 _) F.entry_dict_init (kt_code_dict_new _ ⟨rfl,rfl⟩) ?_
 rintro obj cC ⟨rfl,rfl⟩
 have IS:(s.heap.push {cls:=.type "dict",data:=.dict #[]}).DictOf (bC P w) s.heap.objs.size []:=Heap.DictOf.new s.heap;have hx1:=bh {cls:=.type "dict",data:=.dict #[]} hx;have hT:Shared.TypeIs {s with heap:=s.heap.push {cls:=.type "dict",data:=.dict #[]}} (.ref a) "list":=⟨_,hx1,rfl⟩;refine⟨IS.typeIs,F.args_dict_init_2 _ _,?_⟩;unfold Builtin.«dict.__init__»;refine ak ?_
 unfold Builtin.Dict.selfAndRest;refine ak (wpAny_notOrdered_dict IS.typeIs ?_);show wpAny _ _ (pure (s.heap.objs.size,[Value.ref a])) _ _ _;refine aC ?_
 show wpAny _ _ (Builtin.Dict.updateFrom "dict.__init__" s.heap.objs.size (.ref a) [] .none) _ _ _;unfold Builtin.Dict.updateFrom;refine ak (rY hT ?_);rw[au (by decide)];refine ak (Eg hx1 hh fun h1 tk1 k1=>?_);rw[au (show(none:Option Value).isNone=true from rfl)];have k2:∀b o,s.heap.get? b=some o->h1.get? b=some o:=fun b o e=>k1 b o (bh _ e);have Wu:h1.get? s.heap.objs.size=some {cls:=.type "dict",data:=.dict #[]}:=k1 _ _ (bG _ rfl);have dd1:h1.DictOf (bC P w) s.heap.objs.size []:=by
  obtain⟨o,es,ep,e,x⟩:=IS;exact⟨o,es,ep,k1 _ _ e,x⟩
 have gn:s.heap.objs.size<h1.objs.size:=aO Wu;have hl:s.heap.IsList a a8.toArray:=⟨_,hx,rfl,_,rfl⟩;refine ak (eL ?_);refine ak (lE (show h1.IsList a a8.toArray from⟨_,k2 _ _ hx,rfl,_,rfl⟩) ?_);refine aC ⟨f' pP _,?_⟩;refine Kf (s:=s) (h0:=s.heap) (A:=A.in1) hh hl b9 hp (by
   cases e:s.heap.get? s.heap.objs.size with
   |none=>rfl
   |some o=>exact absurd (aO e) (dH _)) (by
   cases e:s.heap.get? h1.objs.size with
   |none=>rfl
   |some o=>exact absurd (aO (k2 _ _ e)) (dH _)) (bu gn) hz (fun h' u5 kp dd=>⟨rfl,h h' u5 kp dd⟩) _ 0 _ _ [] rfl (dF _) (aQ _) rfl (fun b o e=>bh _ (k2 b o e)) ⟨_,bG _ rfl,rfl,rfl⟩ ?_
 obtain⟨o,es,ep,e,x⟩:=dd1;exact⟨o,es,ep,bh _ e,x⟩
end
def Al:List Tr->Option (List (Key×Tr))
 |[]=>some []
 |.tup [k,v]::r=>match jt k,Al r with
  |some key,some l=>some ((key,v)::l)
  |_,_=>none
 |_=>none
def Ei:List Tr->Rs Tr
 |[.lst ts]=>match Al ts with
  |some aM=>if aM.length<=100000 then .ok (.bw (kQ [] aM))else .bad
  |none=>.bad
 |_=>.bad
theorem Ht{t:Tr}{aM:List (Key×Tr)}(h:Al (t::ts)=some aM):∃k v key l,t=.tup [k,v]/\jt k=some key/\Al ts=some l/\aM=(key,v)::l:=by
 unfold Al at h;split at h
 ·cases‹t::ts=[]›
 ·rename_i k v r e;cases e;cases e1:jt k with
  |none=>rw[e1]at h;cases h
  |some key=>
   cases e2:Al ts with
   |none=>rw[e1,e2]at h;cases h
   |some l=>rw[e1,e2]at h;cases h;exact⟨k,v,key,l,rfl,e1,rfl,rfl⟩
 ·cases h
theorem FN(I:Inv X U Z H s):∀{vs:List V} {ts:List Tr} {aM:List (Key×Tr)} {bE:List Value},bc X.K (bz B H) vs ts->Al ts=some aM->Vals vs bE->
  ∃(kvs:List (Key×V)) (ps:List (Key×Value)),di X.K (bz B H) kvs aM/\KV kvs ps/\bE.length=ps.length/\∀(j:Nat) (t:Value),bE[j]?=some t->∃ad key k v,t=.ref ad/\s.heap.IsTuple ad #[key,v]/\lK k key=true/\ps[j]?=some (k,v)
 |[],[],_,_,_,e,rv=>by cases e;cases rv;exact⟨[],[],.nil,.nil,rfl,fun j t e=>by simp at e⟩
 |[],_::_,_,_,h,_,_=>by cases h
 |v::vs,ts,aM,bE,h,e,rv=>by
  cases h with
  |cons h r=>
   obtain⟨k,w',key,l,rfl,ek,el,rfl⟩:=Ht e;cases rv with
   |cons h1 rv=>
    obtain⟨kvs,ps,q1,q2,q3,q4⟩:=FN I r el rv;obtain⟨ad,us,rfl,hq,rr⟩:=h.dr;cases h1;obtain⟨x1,x2,rfl,rk,oA⟩:=yO rr;obtain⟨wx,LV,pl,_⟩:=I.tuple (aE.tup aZ hq);obtain⟨u1,u2,rfl,r1,r2⟩:=vals2 LV;cases mG rk ek;refine⟨(key,_)::kvs,(key,u2)::ps,.cons oA q1,.cons ⟨rfl,r2⟩ q2,by rw[cG,cG,q3],fun j t et=>?_⟩;cases j with
    |zero=>cases et;exact⟨ad,u1,key,u2,rfl,pl,oE (P:=X.prog) (w:=X.w) r1,rfl⟩
    |succ j=>exact q4 j t et
theorem FO(hc:X.calm=true):fG X (.type "dict") (rF X Ei):=by
 intro U s Z H xs us Q I rv ⟨B,ts,hb,r,q⟩;have key:∃DN aM,ts=[.lst DN]/\Al DN=some aM/\aM.length<=100000/\∀v H',aE H H'->Rep X.K (bz B H') v (.bw (kQ [] aM))->(∀p,v=.ref p->Rp H H' p)->Q v H':=by
  unfold Ei at q;split at q
  ·rename_i DN;cases e:Al DN with
   |none=>rw[e]at q;exact fe q
   |some aM=>
    rw[e]at q;obtain⟨h0,z⟩:=gy q;exact⟨DN,aM,rfl,e,h0,z⟩
  ·exact fe q
 obtain⟨DN,aM,rfl,ep,hz,k⟩:=key;obtain⟨x,rfl,h⟩:=fb r;obtain⟨a,vs,rfl,h,rr⟩:=h.lst_inv;obtain⟨u,rfl,ru⟩:=vals1 rv;cases(show u=Value.ref a from ru);obtain⟨z0,bE,n0,rvs,hx⟩:=(show cu X.prog X.w H s.heap a (.lst vs)from I.cp a _ (dt h));obtain⟨kvs,ps,q1,q2,q3,q4⟩:=FN I rr ep rvs;have hl:kvs.length=aM.length:=q1.length;have hlp:ps.length<=100000:=by rw[<-KV.length q2,hl];exact hz
 refine Eh (I.ok.hd hc) hx q3 q4 hlp fun h' u5 kp dd=>?_
 have hf:H s.heap.objs.size=none:=I.fresh;have hlm:(hJ [] kvs).length<=sizeLine:=by have:=iB kvs [];rw[v5]at this;rw[c_];omega
 have hsm:(s.heap.objs.size==sysModules)=false:=by
  have:=I.big;exact jo (cU this)
 refine⟨.ref s.heap.objs.size,_,I.laid (t':=u5) (o:=.dK (hJ [] kvs)) kp (aQ _) (wy hlm hsm (q2.merge .nil) dd),rfl,k _ _ (aE.upd hf) (.bw (.inl (hb.new hf)) ?_ ?_) fun p' e=>by cases e;exact .upd hf (fun _ _ z=>by cases z)⟩
 ·exact(di.merge q1 di.nil).keys
 ·exact(di.merge q1 di.nil).vals.same (aX (aE.upd hf))
section
variable {prog:Program}
def i9(x y:Int×Int):Bool:=decide (x.1<y.1\/(x.1=y.1/\x.2<y.2))
theorem int_lt{x y:Int}{t u:Tok}(h:Q (.bool (decide (x<y))) s):wpAny (model prog w) A (richCompare .Lt (.int x t) (.int y u)) Q E s:=
 CmpOf.ints_lt (prog:=prog) (w:=w) (A:=A) (P:=fun i v=>∃t,v=.int ([x,y].getD i 0) t) (fun i=>[x,y].getD i 0) (fun i v h=>h) 0 1 _ _ _ _ _ ⟨t,rfl⟩ ⟨u,rfl⟩ h
theorem Am{x y:Int×Int}{t1 t2 u1 u2:Tok}{oa ob:Obj}{nb:Nat}{P:PySem.Fin->Shared->Prop}
  (WW:s.heap.get? a=some oa) (hda:oa.data=.seq #[.int x.1 t1,.int x.2 t2] i) (Ni:s.heap.get? ae=some ob) (eM:ob.data=.seq #[.int y.1 u1,.int y.2 u2] nb) (hTb:s.TypeIs (.ref ae) "tuple")
  (h:P (.done (.ret (.bool (i9 x y)))) s):wpAny (model prog w) A (Builtin.«tuple.__lt__» ⟨[.ref a,.ref ae],[]⟩) P E s:=by
 show wpAny _ _ (isInstance (.ref ae) (.type "tuple")>>=_) _ _ s;refine ak (n5 hTb isSubtype_tuple_tuple ?_);simp only[cS,cA,bJ];refine ak (wpAny_tupleItemsOf WW hda ?_);refine ak (wpAny_tupleItemsOf Ni eM ?_);refine ak ?_
 show wpAny _ _ (forIn [(Value.int x.1 t1,Value.int y.1 u1),(Value.int x.2 t2,Value.int y.2 u2)] _ _) _ _ s;rw[nX];refine ak (ak (wpAny_eqBool_int ?_));by_cases e1:x.1=y.1
 ·rw[dZ.mpr e1];simp only[cS,cA,bJ];refine aC ?_
  dsimp only;rw[nX];refine ak (ak (wpAny_eqBool_int ?_));by_cases e2:x.2=y.2
  ·rw[dZ.mpr e2];simp only[cS,cA,bJ];refine aC ?_
   dsimp only;rw[wc];refine aC (aC ?_);have e:i9 x y=false:=by unfold i9;exact eC (by omega)
   rw[e]at h;exact h
  ·rw[jo e2];simp only[dY,bT];have e:i9 x y=decide (x.2<y.2):=by unfold i9;exact vZ.mpr (by omega)
   rw[e]at h;exact ak (eL (ak (int_lt (ak (aC (aC (aC (aC h))))))))
 ·rw[jo e1];simp only[dY,bT];have e:i9 x y=decide (x.1<y.1):=by unfold i9;exact vZ.mpr (by omega)
  rw[e]at h;exact ak (eL (ak (int_lt (ak (aC (aC (aC (aC h))))))))
theorem NG{x y:Int×Int}{t1 t2 u1 u2:Tok}{oa ob:Obj}{nb:Nat}(hu:A.units<cLine)
  (WW:s.heap.get? a=some oa) (hca:oa.cls=.type "tuple") (hda:oa.data=.seq #[.int x.1 t1,.int x.2 t2] i) (Ni:s.heap.get? ae=some ob) (hcb:ob.cls=.type "tuple") (eM:ob.data=.seq #[.int y.1 u1,.int y.2 u2] nb)
  (h:Q (.bool (i9 x y)) s):wpAny (model prog w) A (richCompare .Lt (.ref a) (.ref ae)) Q E s:=
 wpAny_richCompare_same_room (op:=.Lt) (T:="tuple") ⟨oa,WW,hca⟩ ⟨ob,Ni,hcb⟩ F.slot_tuple_lt (fZ F.slot_tuple_lt ⟨oa,WW,hca⟩ F.entry_tuple_lt (Am WW hda Ni eM ⟨ob,Ni,hcb⟩ ⟨_,rfl,(fun e=>nomatch e),h⟩) (F.args_tuple_lt_2 _ _)) hu
end
def cD(kf:Nat->Int×Int):Nat->Nat
 |0=>0
 |j+1=>if i9 (kf (j+1)) (kf (cD kf j))=true then j+1 else cD kf j
section
variable {q l S I:Addr}{fd:FuncData}{k:Nat}{xs:List V}{o:Tr}{H0:Hp}{kf:Nat->Int×Int}{R:Result->Shared->Prop}
theorem Cn(G:dw X.prog X.w X.K X.mg X.base lq k ae fd ps (spT X.K h))(bd:Binds X.K fd ps [])(hr:cz (k+1) X.A){v:V}{t:Tr}{p:Int×Int}
  (Iv:Inv X U Z H s) (hq:(q,PySem.W.methodObj (.ref ae) (.ref a))∈U) (hb:HB B H) (ro:Rep X.K (bz B H) (.ref a) o) (rt:Rep X.K (bz B H) v t) (rv:RelV v aa) (he:h [o,t]=.ok (.tup [.int p.1,.int p.2])):
  wpAny (model X.prog X.w) X.A.in1 (call (.ref q) [aa]) (fun w' s'=>∃kb H',w'=.ref kb/\Inv X U Z H' s'/\aE H H'/\g9 X.K H' kb [.int p.1,.int p.2]) E s:=by
 have IM:spT X.K h [.ref a,v] H (fun v' H'=>aE H H'/\Rep X.K (bz B H') v' (.tup [.int p.1,.int p.2])) E0:=⟨B,[o,t],hb,.cons ro (.cons rt .nil),_,he,fun v' H' sm r=>⟨sm,r⟩⟩;have hl:([.ref a,aa]++[]:List Value).length=ps.length:=G.len _ _ _ _ IM;refine oo (PySem.W.method_call (Iv.pin _ (cI _ hq)).1 ?_);refine gH (G.run X.A.in1 X.stack s H ⟨[.ref a,aa],[]⟩ [.ref a,aa] [.ref a,v] _ E0 hr.in1 Iv.Qd.in1 (bd s [.ref a,aa] Iv.kM hl) (.cons rfl (.cons rv .nil)) IM) fun r s' hx=>?_
 match r,hx with
 |.ok (.ret w'),hx=>
  obtain⟨v',H',I',GS,sm,rep⟩:=Iv.after hx;obtain⟨kb,vs,rfl,hT,rr⟩:=rep.dr;obtain⟨x,y,rfl,r1,r2⟩:=yO rr;rw[r1.int_inv,r2.int_inv]at hT;exact⟨kb,H',GS,I',sm,aE.tup aZ hT⟩
end
section
variable {f l S I:Addr}{fd:FuncData}{k:Nat}{xs:List V}{o:Tr}{H0:Hp}{kf:Nat->Int×Int}{R:Result->Shared->Prop}
theorem Co{p:Int×Int}(Iv:Inv X U Z H s)(hT:g9 X.K H a [.int p.1,.int p.2]):∃ob t1 t2 n,s.heap.get? a=some ob/\ob.cls=.type "tuple"/\ob.data=.seq #[.int p.1 t1,.int p.2 t2] n:=by
 obtain⟨bE,rv,⟨ob,e,hc,n,hd⟩,_⟩:=Iv.tuple hT;obtain⟨u1,u2,rfl,r1,r2⟩:=vals2 rv;obtain⟨t1,rfl⟩:=(show∃t,u1=Value.int p.1 t from r1);obtain⟨t2,rfl⟩:=(show∃t,u2=Value.int p.2 t from r2);exact⟨ob,t1,t2,n,e,hc,hd⟩
theorem FP{c:HO}{vs:List V}(gq:a≠S)(hT:g9 K H a vs):g9 K (upd H S c) a vs:=by
 rcases hT with(hT|⟨o3,hT⟩)|hT
 ·exact .inl (.inl (by rw[aF gq];exact hT))
 ·exact .inl (.inr ⟨o3,by rw[aF gq];exact hT⟩)
 ·exact .inr hT
theorem Kg{vs l:List V}(Iv:Inv X U Z H s)(hT:g9 X.K H a vs)(e:H S=some (.lst l)):a≠S:=fun z=>by
 subst z;rcases hT with(hT|⟨o,hT⟩)|⟨o,bE,n,hk,_⟩
 ·rw[e]at hT;cases hT
 ·rw[e]at hT;cases hT
 ·rw[(Iv.bs _ _ (Iv.ok.mod.Oz _ _ hk)).2]at e;cases e
theorem Hv(hc:X.calm=true)(G:dw X.prog X.w X.K X.mg X.base lq k f fd ps (spT X.K h))(bd:Binds X.K fd ps [])(hr:cz (k+1) X.A)(hq:(ae,PySem.W.methodObj (.ref f) (.ref a))∈U)
  (hS:H0 S=none) (hb:HB B H0) (ro:Rep X.K (bz B H0) (.ref a) o) (rx:bc X.K (bz B H0) xs ts) (hl:kB X.K H0 l xs) (WX:l≠I)
  (hk:∀i t,ts[i]?=some t->h [o,t]=.ok (.tup [.int (kf i).1,.int (kf i).2]))
  (hR:∀xb u H s,xs[cD kf (xs.length - 1)]?=some xb->Inv X U Z H s->aE H0 H->RelV xb u->R (.ok (.ret u)) s):
  ∀(r j:Nat) (s:Shared) (H:Hp) (xb:V) (kb:Addr),xs.length - (j+1)=r->j+1<=xs.length->Inv X U Z H s->aE H0 H->H S=some (.lst [xb,.ref kb])->xs[cD kf j]?=some xb->
   g9 X.K H kb [.int (kf (cD kf j)).1,.int (kf (cD kf j)).2]->s.heap.IsListIter I l (j+1)->kj X U H I->
   codeAny (model X.prog X.w) X.A (.builtin "min.loop" ⟨[.ref I,.ref ae,.ref S],[]⟩) R s:=by
 have Cp:(toString "min"++toString ".loop":String)="min.loop":=by decide
 intro r
 induction r with
 |zero=>
  intro j s H xb kb Sk hj Iv sm T7 Cq hT hit yr;have kl:j+1=xs.length:=by omega
  obtain⟨bE,rv,pl,_⟩:=Iv.list (aE.seq sm hl);have b9:bE.length=xs.length:=rv.length.symm;have W:=Walks.list (prog:=X.prog) (w:=X.w) (A:=X.A.in1) (Iv.ok.hd hc) I l WX bE.toArray;obtain⟨_,wx,n2,LV,_,eS⟩:=Iv.ym T7;obtain⟨u,u2,rfl,ru,Wl⟩:=vals2 LV;cases(show u2=Value.ref kb from Wl);refine eV vL ?_
  rw[fV mq _];show wpAny _ X.A.in1 (seqItems? (.ref S)>>=_) _ _ _;refine ak (f_ eS rfl ?_);show wpAny _ X.A.in1 (tryCatch (pyNext (.ref I)) _>>=_) _ _ _;refine ak (jR (W.done _ _ _ ⟨by rw[cn,b9,<-kl];exact hit,pl.isList⟩ fun h' u5 Nj=>?_));have I1:Inv X U Z H {s with heap:=h',toks:=u5}:=Iv.pM (ch:=[I]) (fun b hb=>by rw[cE.mp hb];exact yr) Nj;obtain⟨_,WY,n3,YI,_,eS'⟩:=I1.ym T7;have I2:=I1.Mr (r9:=[]) (f:=fun _=>(#[]:Array Value)) (t':=u5) T7 eS' rfl .nil (dF _);show wpAny _ X.A.in1 (updateSeq S (fun _=>#[])>>=_) _ _ _;refine ak (n8 eS' rfl (ak (lH (aC ?_))));refine hR xb u _ _ ?_ I2 (sm.Bx hS) ru
  rw[<-kl];exact Cq
 |succ r ih=>
  intro j s H xb kb Sk hj Iv sm T7 Cq hT hit yr;have gn:j+1<xs.length:=by omega
  obtain⟨bE,rv,pl,_⟩:=Iv.list (aE.seq sm hl);have b9:bE.length=xs.length:=rv.length.symm;have W:=Walks.list (prog:=X.prog) (w:=X.w) (A:=X.A.in1) (Iv.ok.hd hc) I l WX bE.toArray;obtain⟨_,wx,n2,LV,_,eS⟩:=Iv.ym T7;obtain⟨u,u2,rfl,ru,Wl⟩:=vals2 LV;cases(show u2=Value.ref kb from Wl);refine eV vL ?_
  rw[fV mq _];show wpAny _ X.A.in1 (seqItems? (.ref S)>>=_) _ _ _;refine ak (f_ eS rfl ?_);show wpAny _ X.A.in1 (tryCatch (pyNext (.ref I)) _>>=_) _ _ _;refine ak (jR (W.item (j+1) _ _ _ (by rw[cn,b9];exact gn) ⟨hit,pl.isList⟩ fun v h' u5 hP JG Nj=>?_));refine hide fun P go=>?_
  have hv:bE[j+1]?=some v:=by simpa using hP
  obtain⟨xv,Sl⟩:∃y,xs[j+1]?=some y:=⟨_,bq gn⟩
  obtain⟨v',IF,WZ⟩:=rv.get Sl;cases hv.symm.trans IF;obtain⟨tv,htv,rtv⟩:=rx.wH Sl;have I1:Inv X U Z H {s with heap:=h',toks:=u5}:=Iv.pM (ch:=[I]) (fun b hb=>by rw[cE.mp hb];exact yr) Nj;obtain⟨oI,hoI,PN,T8⟩:=id JG.1;have I1p:Inv X ((I,oI)::U) Z H {s with heap:=h',toks:=u5}:=I1.jr fun p hp=>by
   rcases aV.mp hp with rfl|hp
   ·exact⟨hoI,yr.1,yr.2.1,yr.2.2.1,fun v z=>by rw[T8]at z;cases z⟩
   ·exact I1.pin p (cI _ hp)
  refine go ?_
  show wpAny _ X.A.in1 (tryCatch (holding [v] (call (.ref ae) [v])) _>>=_) _ _ _;refine ak (jR (eD (dq (Cn G bd hr I1p (bF _ hq) (hb.same sm) (ro.same (aX sm)) (rtv.same (aX sm)) WZ (hk _ _ htv)) (fun w' s2 hw=>?_) fun _ _ x=>x)));obtain⟨kb2,H2,rfl,Sm,Ie,T9⟩:=hw;refine hide fun P go=>?_
  have nI:=Sm.pin (I,oI) (cI _ (bM ..));have I2:Inv X U Z H2 s2:=Sm.jr fun p hp=>Sm.pin p (cI _ (bF _ hp));have yt:H2 S=some (.lst [xb,.ref kb]):=Ie _ _ T7;obtain⟨_,WY,n3,YI,_,W0⟩:=I2.ym yt;obtain⟨oa,t1,t2,na,ea,ca,da⟩:=Co I2 T9;obtain⟨ob,t3,t4,nb,eb,cb,db⟩:=Co I2 (Ie.tup hT);have hu:X.A.in1.units<cLine:=rD (by show X.A.units+1<=X.A.units+16*(k+1)+200;omega) hr.un;have aap:kj X U H2 I:=⟨nI.2.1,yr.2⟩;have Sn:aE H0 H2:=sm.trans Ie;refine go ?_
  show wpAny _ X.A.in1 (tryCatch (holding [v,.ref kb2] (richCompare .Lt (.ref kb2) (.ref kb)>>=_)) _>>=_) _ _ _;refine ak (jR (eD (ak (NG (x:=kf (j+1)) (y:=kf (cD kf j)) hu ea ca da eb cb db ?_))));refine ak (eD (nV ?_));refine ak (lH (aC ?_));by_cases H_:i9 (kf (j+1)) (kf (cD kf j))=true
  ·have W3:cD kf (j+1)=j+1:=au H_;have I3:=I2.Mr (r9:=[v,.ref kb2]) (f:=fun _=>(#[v,.ref kb2]:Array Value)) (ys:=[xv,.ref kb2]) (t':=s2.toks) yt W0 rfl (.cons WZ (.cons rfl .nil)) (by show 2<=sizeLine;decide);simp only[H_,bT];refine ak (n8 W0 rfl (ak (lH ?_)));rw[Cp];have LU:S≠I:=fun z=>by rw[z,nI.2.1]at yt;cases yt
   have hkS:kb2≠S:=Kg I2 T9 yt;refine aC ⟨f' mq _,ih (j+1) _ _ xv kb2 (by omega) gn I3 (Sn.Bx hS) a_ (by rw[W3];exact Sl) ?_ ⟨oI,(mv s2.heap _ LU).trans nI.1,PN,T8⟩ ⟨by rw[aF LU.symm];exact nI.2.1,yr.2⟩⟩;rw[W3];exact FP hkS T9
  ·have W3:cD kf (j+1)=cD kf j:=ay H_;simp only[H_,bJ];refine ak (lH ?_);rw[Cp];refine aC ⟨f' mq _,ih (j+1) s2 H2 xb kb (by omega) gn I2 Sn yt (by rw[W3];exact Cq) (by rw[W3];exact Ie.tup hT) ⟨oI,nI.1,PN,T8⟩ aap⟩
end
section
variable {f l S I:Addr}{fd:FuncData}{k:Nat}{xs:List V}{o:Tr}{kf:Nat->Int×Int}{R:Result->Shared->Prop}
theorem Hw(hc:X.calm=true)(G:dw X.prog X.w X.K X.mg X.base lq k f fd ps (spT X.K h))(bd:Binds X.K fd ps [])(hr:cz (k+1) X.A)(hq:(ae,PySem.W.methodObj (.ref f) (.ref a))∈U)
  (Iv:Inv X U Z H s) (hb:HB B H) (ro:Rep X.K (bz B H) (.ref a) o) (rx:bc X.K (bz B H) xs ts) (hl:kB X.K H l xs) (gq:0<xs.length)
  (hk:∀i t,ts[i]?=some t->h [o,t]=.ok (.tup [.int (kf i).1,.int (kf i).2])) {Q:VK}
  (hQ:∀xb H',xs[cD kf (xs.length - 1)]?=some xb->aE H H'->Q xb H'):
  wpAny (model X.prog X.w) X.A (call (.builtin "min") [.ref l] [(Str.ofString "key",.ref ae)]) (EP X U Z Q) X.xe s:=by
 have Cp:(toString "min"++toString ".loop":String)="min.loop":=by decide
 obtain⟨bE,rv,pl,_⟩:=Iv.list hl;have b9:bE.length=xs.length:=rv.length.symm;have T6:=pl.isList;obtain⟨ol,O8,_⟩:=id T6;have hll:l<s.heap.objs.size:=aO O8;refine kmk_tree PySem.F.kind_min PySem.F.plain_min PySem.F.entry_min (kmk_min_key _ _) ?_
 show wpAny _ X.A.in1 (Builtin.Builtins.bindParams "min" ["key","default"] 0 ⟨[],[(Str.ofString "key",.ref ae)]⟩>>=_) _ _ s;refine ak (wpAny_of_eq (show Builtin.Builtins.bindParams "min" ["key","default"] 0 ⟨[],[(Str.ofString "key",.ref ae)]⟩=pure [some (.ref ae),none]from rfl) ?_);refine ak (aC ?_);refine ak (lE T6 ?_);refine ak (oh ?_ (dF _));rw[Cp];have WX:l≠s.heap.objs.size:=bu hll;have I1:Inv X U Z H {s with heap:=s.heap.push {cls:=.type "list_iterator",data:=.fields #[.ref l,.int 0 0]}}:=Iv.kept (t':=s.toks) fun b u e=>bh _ e;have I2:=I1.Ms (bE:=[]) (ys:=[]) (t':=s.toks) .nil (dF _);have hSe:(s.heap.push {cls:=.type "list_iterator",data:=.fields #[.ref l,.int 0 0]}).objs.size=s.heap.objs.size+1:=size_push' ..;have LU:(s.heap.push {cls:=.type "list_iterator",data:=.fields #[.ref l,.int 0 0]}).objs.size≠s.heap.objs.size:=by rw[hSe];exact lC _
 have YK:H (s.heap.push {cls:=.type "list_iterator",data:=.fields #[.ref l,.int 0 0]}).objs.size=none:=I1.fresh;have gI:((s.heap.push {cls:=.type "list_iterator",data:=.fields #[.ref l,.int 0 0]}).push {cls:=.type "list",data:=.seq (List.toArray [])}).get? s.heap.objs.size=some {cls:=.type "list_iterator",data:=.fields #[.ref l,.int 0 0]}:=
  bh _ (bG _ rfl)
 generalize hS:(s.heap.push {cls:=.type "list_iterator",data:=.fields #[.ref l,.int 0 0]}).objs.size=S at I2 LU YK;have yr:kj X U (upd H S (.lst [])) s.heap.objs.size:=Iv.wj (aQ _) (by rw[aF LU.symm];exact Iv.fresh);have W4:aE H (upd H S (.lst [])):=aE.upd YK;refine aC ⟨f' mq _,?_⟩;have W:=Walks.list (prog:=X.prog) (w:=X.w) (A:=X.A.in1) (Iv.ok.hd hc) s.heap.objs.size l WX bE.toArray;obtain⟨_,wx,n2,LV,_,eS⟩:=I2.ym a_;cases LV;obtain⟨r9,GS,pl',_⟩:=I2.list (aE.seq W4 hl);have ei:r9=bE:=by
  obtain⟨o1,n1,e1,_,_,d1⟩:=pl;obtain⟨o2,n2,e2,_,_,d2⟩:=pl';have e3:((s.heap.push {cls:=.type "list_iterator",data:=.fields #[.ref l,.int 0 0]}).push {cls:=.type "list",data:=.seq (List.toArray [])}).get? l=some o1:=bh _ (bh _ e1);have e2':((s.heap.push {cls:=.type "list_iterator",data:=.fields #[.ref l,.int 0 0]}).push {cls:=.type "list",data:=.seq (List.toArray [])}).get? l=some o2:=e2;rw[e3]at e2';cases e2';rw[d1]at d2;injection d2 with d3 _
  simpa using(cq Array.toList d3).symm
 subst ei;refine eV vL ?_
 rw[fV mq _];show wpAny _ X.A.in1 (seqItems? (.ref S)>>=_) _ _ _;refine ak (f_ eS rfl ?_);show wpAny _ X.A.in1 (tryCatch (pyNext (.ref s.heap.objs.size)) _>>=_) _ _ _;refine ak (jR (W.item 0 _ _ _ (by rw[cn,b9];exact gq) ⟨⟨_,gI,rfl,rfl⟩,pl'.isList⟩ fun v h' u5 hP JG Nj=>?_));refine hide fun P go=>?_
 have hv:r9[0]?=some v:=by simpa using hP
 obtain⟨xv,Sl⟩:∃y,xs[0]?=some y:=⟨_,bq gq⟩
 obtain⟨v',IF,WZ⟩:=rv.get Sl;cases hv.symm.trans IF;obtain⟨tv,htv,rtv⟩:=rx.wH Sl;have J1:=I2.pM (h':=h') (t':=u5) (ch:=[s.heap.objs.size]) (fun b hb=>by rw[cE.mp hb];exact yr) Nj;obtain⟨oI,hoI,PN,T8⟩:=id JG.1;have J1p:=J1.jr (Im:=(s.heap.objs.size,oI)::U) fun p hp=>by
  rcases aV.mp hp with rfl|hp
  ·exact⟨hoI,yr.1,yr.2.1,yr.2.2.1,fun v z=>by rw[T8]at z;cases z⟩
  ·exact J1.pin p (cI _ hp)
 refine go ?_
 show wpAny _ X.A.in1 (tryCatch (holding [v] (call (.ref ae) [v])) _>>=_) _ _ _;refine ak (jR (eD (dq (Cn G bd hr J1p (bF _ hq) (hb.same W4) (ro.same (aX W4)) (rtv.same (aX W4)) WZ (hk _ _ htv)) (fun w' s2 hw=>?_) fun _ _ x=>x)));obtain⟨kb2,H2,rfl,Sm,Ie,T9⟩:=hw;refine hide fun P go=>?_
 have nI:=Sm.pin (s.heap.objs.size,oI) (cI _ (bM ..));have J2:Inv X U Z H2 s2:=Sm.jr fun p hp=>Sm.pin p (cI _ (bF _ hp));have yt:H2 S=some (.lst []):=Ie _ _ a_;obtain⟨_,WY,n3,YI,_,W0⟩:=J2.ym yt;have J3:=J2.Mr (r9:=[v,.ref kb2]) (f:=fun _=>(#[v,.ref kb2]:Array Value)) (ys:=[xv,.ref kb2]) (t':=s2.toks) yt W0 rfl (.cons WZ (.cons rfl .nil)) (by show 2<=sizeLine;decide);have hkS:kb2≠S:=Kg J2 T9 yt;have Sn:aE H H2:=W4.trans Ie;refine go ?_
 show wpAny _ X.A.in1 (updateSeq S (fun _=>#[v,.ref kb2])>>=_) _ _ _;refine ak (n8 W0 rfl ?_);rw[Cp];refine aC ⟨f' mq _,?_⟩;exact Hv hc G bd hr hq YK hb ro rx hl WX hk (fun xb u H' s' hx I' sm' ru=>⟨xb,H',I',ru,hQ xb H' hx sm'⟩) (xs.length - 1) 0 _ _ xv kb2 rfl gq J3 (Sn.Bx YK) a_ Sl (FP hkS T9)
  ⟨oI,(mv s2.heap _ LU).trans nI.1,PN,T8⟩ ⟨by rw[aF LU.symm];exact nI.2.1,yr.2⟩
end
open Builtin Builtin.ObjectAttr
structure ze(K:Frag)(f:Addr):Prop where
 get:PySem.W.specialIn K (.ref f) "__get__"=some (some (.builtin "function.__get__"))
 tk:PySem.W.takesIn K (.ref f)=some false
theorem Cr{dx g:Addr}{fs:List (Str×V)}{b:Bool}(I:Inv X U Z H s)(e:H a=some (.ins ae dx fs))(c:Dt X.K ae)(k:Meth X.K ae x g)(l:fs.lookup x=none)(hg:ze X.K g)
  (So:PySem.W.copiedNames.contains x=false) (h:∀q s',Inv X ((q,PySem.W.methodObj (.ref g) (.ref a))::U) Z H s'->Q (.ref q) s'):wpAny (model X.prog X.w) A (getAttr (.ref a) x b) Q E s:=by
 obtain⟨mA,O,r,_,_,_⟩:=sg I.cp e;have hn:mA x=none:=kL.none_of (by rw[<-l];exact r x);obtain⟨od,J,hl⟩:=O.look;refine PySem.W.get_bind I.kM J (nL (c.get x)).1 (PySem.W.findObj_fn c.hd k.at_ hg.get hg.tk So (by rw[hl,hn])) (nL (c.get x)).2 (oo (PySem.W.fn_get (s:={s with toks:=s.toks+1}) I.kM (dZ.mp k.fn) (PySem.W.handed_on rfl (h s.heap.objs.size _ ?_))));have I1:Inv X U Z H {s with heap:=s.heap.push (PySem.W.methodObj (.ref g) (.ref a)),toks:=s.toks+1}:=I.kept fun b u e=>bh _ e;refine I1.jr fun p hp=>?_
 rcases aV.mp hp with rfl|hp
 ·exact⟨bG _ rfl,I.fresh,cU I.lt,I.Uo (aQ _),fun v z=>by cases z⟩
 ·exact I1.pin p (cI _ hp)
def keyOf(r:Rs Tr):Option (Int×Int):=match r with
 |.ok (.tup [.int x,.int y])=>some (x,y)
 |_=>none
theorem Kh{r:Rs Tr}{p:Int×Int}(h:keyOf r=some p):r=.ok (.tup [.int p.1,.int p.2]):=by
 unfold keyOf at h;split at h
 ·cases h;rfl
 ·cases h
def keysOf(h:List Tr->Rs Tr)(o:Tr):List Tr->Option (List (Int×Int))
 |[]=>some []
 |t::ts=>(keyOf (h [o,t])).bind fun k=>(keysOf h o ts).map fun ks=>k::ks
theorem zf{o:Tr}:∀{ts:List Tr} {ks:List (Int×Int)},keysOf h o ts=some ks->∀i t,ts[i]?=some t->h [o,t]=.ok (.tup [.int (ks.getD i (0,0)).1,.int (ks.getD i (0,0)).2])
 |[],_,_,i,t,e=>by simp at e
 |u::ts,ks,hk,i,t,e=>by
  rw[keysOf]at hk;cases e1:keyOf (h [o,u])with
  |none=>rw[e1]at hk;cases hk
  |some k=>
   rw[e1]at hk;cases e2:keysOf h o ts with
   |none=>rw[e2]at hk;cases hk
   |some r=>
    rw[e2]at hk;cases hk;cases i with
    |zero=>simp at e;subst e;exact Kh e1
    |succ i=>exact zf e2 i t (by simpa using e)
def uN(c m:Str)(h:List Tr->Rs Tr)(tl o:Tr):Rs Tr:=match tl,o with
 |.lst ts,.ob x fs=>if x=c/\Dh fs m=true/\0<ts.length then match keysOf h (.ob x fs) ts with
  |some ks=>kh ts[cD (fun i=>ks.getD i (0,0)) (ts.length - 1)]?
  |none=>.bad
  else .bad
 |_,_=>.bad
def FQ(c m:Str)(h:List Tr->Rs Tr)(rl ro:Rs Tr):Rs Tr:=rl.bind fun tl=>ro.bind fun o=>uN c m h tl o
theorem Hx{c m:Str}{tl o:Tr}{k:Tr->Prop}(q:Fi X H (uN c m h tl o) k):∃ts fs ks t,tl=.lst ts/\o=.ob c fs/\Dh fs m=true/\0<ts.length/\keysOf h (.ob c fs) ts=some ks/\ts[cD (fun i=>ks.getD i (0,0)) (ts.length - 1)]?=some t/\k t:=by
 unfold uN at q;split at q
 ·rename_i ts x fs;by_cases hif:x=c/\Dh fs m=true/\0<ts.length
  rotate_left
  ·rw[ay hif]at q;exact fe q
  rw[au hif]at q;obtain⟨rfl,h2,h3⟩:=hif;have z:=q;cases e:keysOf h (.ob x fs) ts with
  |none=>rw[e]at z;exact fe z
  |some ks=>
   rw[e]at z;cases e2:ts[cD (fun i=>ks.getD i (0,0)) (ts.length - 1)]? with
   |none=>simp only[e2]at z;exact fe z
   |some t=>simp only[e2]at z;exact⟨ts,fs,ks,t,rfl,rfl,h2,h3,e,e2,z⟩
 ·exact fe q
section
variable {c m:Str}{st:Stmt}{fd:FuncData}{k:Nat}{kp:Pos}{O:bf->Rs Tr}
theorem Ki(D:MethAt X.K c m st ps a fd)(Bn:ze X.K a)(G:dw X.prog X.w X.K X.mg X.base lq k a fd ps (spT X.K h))(hr:cz (k+1) X.A)(hm:X.mg "min"=none)(hl:PE X e (tP X F))(ho:PE X o (tP X O))
  (hc:X.calm=true:=by rfl) (hg:Gl X "min":=by rfl) (bQ:aP [e]=true:=by rfl) (hb:isCall o=false:=by rfl) (So:PySem.W.copiedNames.contains m=false:=by decide+kernel):
  PE X (.Call (.Name "min" p) [e] [⟨some "key",.Attribute o m b8,kp⟩] pos) (tP X fun Y=>FQ c m h (F Y) (O Y)):=by
 intro U s Z H Q I ⟨B,Y,hB,r,q⟩;refine lA (t5 (u:=.builtin "min") I hg hm rfl ?_ (by decide) (by decide));refine callWith_kw (dA (kC hl qM (aY _ _ (aG bQ).1) pos U s Z H (fun vs H1=>∃tl,bc X.K (bz B H1) vs [tl]/\aE H H1/\Fi X H ((O Y).bind fun o=>uN c m h tl o) fun t=>∀v H',aE H H'->Rep X.K (bz B H') v t->Q v H') I ?_) fun us s1 ⟨vs,H1,I1,rv,tl,rl,sm,k1⟩=>?_) (by rw[aY _ _ (aG bQ).1];rfl) (cg bQ)
 ·exact⟨B,Y,hB,r,q.bind.mono fun tl qt v H1 s1 r1=>⟨tl,.cons r1 .nil,s1,qt⟩⟩
 obtain⟨y,rfl,rl1⟩:=fb rl;refine kws_cons (ES (fu hb) (dA (ho U s1 Z H1 (fun x H2=>∃o,Rep X.K (bz B H2) x o/\aE H1 H2/\Fi X H (uN c m h tl o) fun t=>∀v H',aE H H'->Rep X.K (bz B H') v t->Q v H') I1 ⟨B,Y,hB.same sm,r.same sm,(k1.bind.same sm).mono fun o qo v H2 s2 r2=>⟨o,r2,s2,qo⟩⟩) fun u2 s2 ⟨x,H2,I2,rx,ot,ro,Ie,k2⟩=>?_));obtain⟨ts,fs,ks,t,rfl,rfl,Ih,Sq,hks,Cq,kq⟩:=Hx k2;obtain⟨a1,xs,rfl,HY,Jl⟩:=rl1.lst_inv;obtain⟨a2,dx,gw,rfl,hh,ek,MP⟩:=ro.zR;obtain⟨w1,rfl,rw1⟩:=vals1 rv;cases(show w1=Value.ref a1 from rw1);cases(show u2=Value.ref a2 from rx);refine Cr I2 (dt hh) D.cl D.mt (Af ek MP Ih) Bn So fun q s3 I3=>kws_nil ?_
 have sl:bc X.K (bz B H2) xs ts:=Jl.same (aX Ie);refine dA (Hw (H:=H2) (B:=B) (xs:=xs) (ts:=ts) (kf:=fun i=>ks.getD i (0,0)) hc G D.bd hr (bM ..) I3 ((hB.same sm).same Ie) (.ob hh ek MP) sl (.of (Ie _ _ (dt HY))) (by rw[sl.length];exact Sq) (zf hks) fun xb H3 hx Sn=>?_) fun w3 s4 ⟨v3,H3,I4,r3,q3⟩=>⟨v3,H3,I4.jr fun p hp=>I4.pin p (cI _ (bF _ hp)),r3,q3⟩;rw[sl.length]at hx;obtain⟨t',e',rt'⟩:=sl.wH hx;cases Cq.symm.trans e';exact kq xb H3 ((sm.trans Ie).trans Sn) (rt'.same (aX Sn))
end
def Sr:Tr->Option Int->Option Int->Rs Tr
 |.tup ts,lo,hi=>.ok (.tup (zX ts lo hi))
 |t,lo,hi=>ZW t lo hi
def An(r:Rs Tr)(lo hi:Rs (Option Int)):Rs Tr:=r.bind fun t=>lo.bind fun l=>hi.bind fun h=>Sr t l h
theorem Ej{α:Type}{ts:List α}{lo hi:Option Int}(h:mI ts.length lo hi=true):zX ts lo hi=ts:=by
 unfold mI at h;rw[bp]at h;unfold zX;rw[eq_of_beq h.1,eq_of_beq h.2,List.drop_zero,Nat.sub_zero,List.take_length]
section
variable {P1 P2:bf->Rs (Option Int)}{lo hi:Option Expr}
inductive W5(X:Cx)(x:V)(lo:Option Int)(hi:Option Int)(H:Hp)(Q:VK):Prop
 |mk (B:d7) (t:Tr):HB B H->Rep X.K (bz B H) x t->(Fi X H (Sr t lo hi) fun t=>∀v H',aE H H'->Rep X.K (bz B H') v t->Q v H')->W5 X x lo hi H Q
theorem W6:TK X (W5 X):=by
 intro U s Z H x v vl vu lo hi sl Q I rx hs pl pu ⟨B,t,hb,r,q⟩;by_cases hw:∃ts,t=.tup ts/\mI ts.length lo hi=true
 ·obtain⟨ts,rfl,hw⟩:=hw;have q':∀v H',aE H H'->Rep X.K (bz B H') v (.tup (zX ts lo hi))->Q v H':=q;rw[Ej hw]at q';have r0:=r;cases r with
  |@tup a vs _ h rr=>
   cases rx;obtain⟨bE,r2,ht,hz⟩:=I.tuple h.up;have b9:bE.toArray.size=ts.length:=by rw[cn,<-r2.length];exact rr.length
   refine⟨"tuple",_,vG.lookup,ht.typeIs,?_⟩;unfold mI at hw;rw[bp]at hw;exact HT.p4 ht hs pl pu (by rw[b9];exact⟨eq_of_beq hw.1,eq_of_beq hw.2⟩) ⟨.ref a,H,I,rfl,q' _ H (aE.refl H) r0⟩
 ·have e:Sr t lo hi=ZW t lo hi:=by
   cases t with
   |tup ts=>
    have:¬mI ts.length lo hi=true:=fun z=>hw ⟨ts,rfl,z⟩;exact(ay this).symm
   |_=>rfl
  rw[e]at q;exact ZX U s Z H x v vl vu lo hi sl Q I rx hs pl pu ⟨B,t,hb,r,q⟩
theorem W7(he:PE X e (tP X F))(hl:PO X lo (tO X P1))(hu:PO X hi (tO X P2)):PE X (.Subscript e (.Slice lo hi none p) pos) (tP X fun Y=>An (F Y) (P1 Y) (P2 Y)):=
 (IP W6 he hl hu).weak fun Z H Q ⟨B,Y,hb,r,q⟩=>⟨B,Y,hb,r,q.bind.mono fun t qt v H1 s1 r1=>⟨B,Y,hb.same s1,r.same s1,(qt.bind.same s1).mono fun l ql H2 s2=>⟨B,Y,hb.same (s1.trans s2),r.same (s1.trans s2),(ql.bind.same (s1.trans s2)).mono fun h qh H3 s3=>
  ⟨B,t,hb.same ((s1.trans s2).trans s3),r1.same (aX (s2.trans s3)),(qh.same ((s1.trans s2).trans s3)).mono fun t qt v H4 s4 r4=>qt v H4 (((s1.trans s2).trans s3).trans s4) r4⟩⟩⟩⟩
end
def oZ{α:Type}(n:Nat)(lt:Nat->Nat->Bool):PySem.W.KasT α->Option α
 |.ret a=>some a
 |.ask i j k=>if i<n/\j<n/\i≠j then oZ n lt (k (lt i j))else none
theorem zg{α:Type}{n:Nat}{lt:Nat->Nat->Bool}{cmp:Nat->Nat->(Bool->Shared->Prop)->Shared->Prop}{Q:α->Shared->Prop}(hc:∀i j C,i<n->j<n->i≠j->C (lt i j) s->cmp i j C s):∀(t:PySem.W.KasT α) {a:α},oZ n lt t=some a->Q a s->t.kasWp cmp Q s
 |.ret b,a,e,h=>by cases e;exact h
 |.ask i j k,a,e,h=>by
  unfold oZ at e;by_cases z:i<n/\j<n/\i≠j
  ·rw[au z]at e;exact hc i j _ z.1 z.2.1 z.2.2 (zg hc (k (lt i j)) e h)
  ·rw[ay z]at e;cases e
theorem Inv.adopt {b:Addr}{o:HO}(I:Inv X U Z H s)(h0:X.fq.heap.objs.size<=b)(f:kj X U H b)(new:cu X.prog X.w (upd H b o) s.heap b o):Inv X U Z (upd H b o) s:=by
 obtain⟨hn,hL,_,_,hC,hP⟩:=f;refine⟨I.ok,I.os,I.bare,⟨I.base.keep,I.base.slot,fun c u e n hx=>?_,I.base.there,fun c xs e=>?_,fun c u v e=>?_,fun c ps e=>?_⟩,I.loc,I.cell,?_,fun x c e=>?_,fun p hp=>?_,fun c u e=>?_,I.len⟩
 ·rw[aF (bu (cy (aO e) h0))];exact I.base.free c u e n hx
 ·have q:=I.base.lL c xs e;rw[aF (bj q hn)];exact q
 ·have q:=I.base.ki c u v e;rw[aF (bj q hn)];exact q
 ·obtain⟨more,q⟩:=I.base.mC c ps e;exact⟨more,by rw[aF (bj q hn)];exact q⟩
 ·rw[aF hL.symm];exact I.free
 ·rw[aF (hC x c e)];exact I.eZ x c e
 ·obtain⟨e,n,r⟩:=I.pin p hp;exact⟨e,by rw[aF (hP p hp)];exact n,r⟩
 ·by_cases z:c=b
  ·subst z;rw[a_]at e;cases e;exact new
  ·rw[aF z]at e;exact(I.cp c u e).oq (fun _ _ _ q=>q) (fun d q=>by rw[aF (bj q hn)];exact q) fun d xs q=>by rw[aF (bj q hn)];exact q
def qw(H:Hp):List (Addr×List V)->Hp
 |[]=>H
 |p::r=>qw (upd H p.1 (.tup p.2)) r
theorem xt{H:Hp}:∀{l:List (Addr×List V)},(l.map (·.1)).Nodup->(∀p∈l,H p.1=none)->aE H (qw H l)/\∀p∈l,qw H l p.1=some (.tup p.2)
 |[],_,_=>⟨aE.refl H,fun p m=>(nomatch m)⟩
 |p::l,nd,hn=>by
  rw[ba,f9]at nd;have hp:H p.1=none:=hn p (bM ..);obtain⟨s,k⟩:=xt (H:=upd H p.1 (.tup p.2)) (l:=l) nd.2 fun q m=>by
   rw[aF fun z=>nd.1 (by rw[<-z];exact fk m)];exact hn q (bF _ m)
  refine⟨(aE.upd hp).trans s,fun q m=>?_⟩;rcases aV.mp m with rfl|m
  ·exact s _ _ a_
  ·exact k q m
theorem Inv.Cs:∀{l:List (Addr×List V)} {H:Hp},Inv X U Z H s->(l.map (·.1)).Nodup->(∀p∈l,X.fq.heap.objs.size<=p.1/\kj X U H p.1/\p.2.length<=sizeLine/\∃bE:List Value,Vals p.2 bE/\IsTup s.heap p.1 bE.toArray)->Inv X U Z (qw H l) s
 |[],H,I,_,_=>I
 |p::l,H,I,nd,h=>by
  rw[ba,f9]at nd;obtain⟨h0,hf,hz,bE,rv,it⟩:=h p (bM ..);refine Inv.Cs (H:=upd H p.1 (.tup p.2)) (I.adopt h0 hf ⟨hz,bE,rv,it⟩) nd.2 fun q m=>?_
  obtain⟨q0,qf,r⟩:=h q (bF _ m);exact⟨q0,⟨by rw[aF fun z=>nd.1 (by rw[<-z];exact fk m)];exact qf.1,qf.2⟩,r⟩
def uO(v d:Addr):HO:=.ext fun h=>h.IsItemsView v d
section
variable {to:TE}
def Ss(to:TE):TE:=fun Z H Q=>to Z H fun x H1=>∃d kvs,x=.ref d/\Rd H1 d (.dK kvs)/\∀v,H1 v=none->Q (.ref v) (upd H1 v (uO v d))
theorem Kj(ho:PE X o to)(oB:attributeBase o "items" X.env (eval o X.env)=eval o X.env)(e_:(b8.endLine==p.line)=true):PE X (.Call (.Attribute o "items" b8) [] [] p) (Ss to):=by
 intro U s Z H Q I h;refine wpAny_Call_method0_late oB e_ (dA (ho U s Z H _ I h) fun v s1 ⟨x,H1,I1,r1,d,kvs,ex,hd,q1⟩=>?_);subst ex;cases(show v=Value.ref d from r1);obtain⟨hz,hs,vs,rv,hm⟩:=(show cu X.prog X.w H1 s1.heap d (.dK kvs)from hd.ok I1.cp);have hm':=hm;obtain⟨ob,es,ep,e,ex,_⟩:=hm;refine⟨"dict","dict.items",pB,PySem.F.slot_dict_items,PySem.F.type_dict_items,⟨ob,e,ex.1⟩,fun a e2=>by cases e2;exact⟨ob,e,ex.2.1⟩,mr rfl (PySem.evalArgs_none ?_)⟩;refine iL PySem.F.slot_dict_items ⟨ob,e,ex.1⟩ PySem.F.entry_dict_items (PySem.F.args_dict_items_1 _) (meets_dict_items (bC X.prog X.w) d hs) ⟨⟨vs,hm'⟩,?_⟩;refine⟨.ref s1.heap.objs.size,_,I1.laid (t':=s1.toks) (o:=uO s1.heap.objs.size d) (fun b u e=>bh _ e) (aQ _) ?_,rfl,q1 _ I1.fresh⟩;have hv:(s1.heap.push {cls:=.type "dict_items",data:=.fields #[.ref d]}).IsItemsView s1.heap.objs.size d:=⟨_,bG _ rfl,rfl,rfl⟩;exact⟨hv,⟨_,bG _ rfl⟩,fun h1 h2 ⟨o1,e1,r1⟩ k=>⟨o1,k o1 e1,r1⟩⟩
end
def xu(ss:List Str)(i j:Nat):Bool:=decide ((ss.getD i "").cps.toList<(ss.getD j "").cps.toList)
def gs(ss:List Str):Option (List Nat):=if ss.length<2 then some (List.range ss.length)else(oZ ss.length (xu ss) (PySem.W.kas_sort ss.length)).bind fun p=>if p.toList.all (fun i=>decide (i<ss.length))=true/\p.toList.length<=64 then some p.toList else none
theorem Ek{p:List Nat}(h:gs ps=some p):p.length<=64:=by
 unfold gs at h;split at h
 ·cases h;rw[rH];omega
 ·cases e:oZ ps.length (xu ps) (PySem.W.kas_sort ps.length)with
  |none=>rw[e]at h;cases h
  |some q=>
   rw[e]at h;by_cases z:q.toList.all (fun i=>decide (i<ps.length))=true/\q.toList.length<=64
   ·have h':(if q.toList.all (fun i=>decide (i<ps.length))=true/\q.toList.length<=64 then some q.toList else none)=some p:=h;rw[au z]at h';cases h';exact z.2
   ·have h':(if q.toList.all (fun i=>decide (i<ps.length))=true/\q.toList.length<=64 then some q.toList else none)=some p:=h;rw[ay z]at h';cases h'
theorem Ct{y:Addr}{ox oy:Obj}{a b:Str}{t u:Tok}{q:Value}{k:Nat}{Q:Bool->Shared->Prop}(hx:s.heap.get? ae=some ox)(dx:ox.data=.seq #[.str a t,aa] i) (hy:s.heap.get? y=some oy) (dy:oy.data=.seq #[.str b u,q] k) (gq:a≠b)
  (h:Q (decide (a.cps.toList<b.cps.toList)) s):wpAny (model P w) A (keyLt' (tuples' true) (.ref ae) (.ref y)) Q E s:=by
 refine PySem.W.kat_lt hx dx hy dy (PySem.W.kat_cons (wpAny_eqBool_str ?_));rw[eC gq];exact PySem.W.kat_no (oneLt_str h)
section
variable {prog:Program}
theorem u9{vs:List Value}{P:PySem.Fin->Shared->Prop}(ho:s.heap.get? a=some (seqObj "list" vs.toArray i))(h2:vs.length<2)
  (h:∀h' c,(∀b o,b≠a->s.heap.get? b=some o->h'.get? b=some o)->h'.get? a=some (seqObj "list" vs.toArray c)->P (.done (.ret .none)) {s with heap:=h'}):
  wpAny (model prog w) A (Builtin.«list.sort» ⟨[.ref a],[]⟩) P E s:=by
 rw[list_sort_plain];have ha:a<s.heap.objs.size:=aO ho;refine ak (listItems_at ho rfl ?_);refine ak (listUpdate_at ho rfl ?_ (by rw[cn,c_];omega) (dF _));obtain⟨e1,O6⟩:∃e1,(s.heap.update a (Obj.mapSeq fun _=>#[])).get? a=some (seqObj "list" #[] e1):=⟨_,get?_update_seq ho (fun _=>#[])⟩;refine ak (seqEpoch_at O6 rfl ?_);refine ak (wpAny_newTuple ?_ (by rw[c_];simp;omega));refine ak (oh ?_ (dF _));refine eD ?_
 have ho6:(((s.heap.update a (Obj.mapSeq fun _=>#[])).push (seqObj "tuple" vs.toArray 0)).push (seqObj "list" #[] 0)).get? a=some (seqObj "list" #[] e1):=by
  rw[Heap.get?_push_ne _ _ _ (by rw[size_push',Heap.size_update];exact bu (kz ha)),Heap.get?_push_ne _ _ _ (by rw[Heap.size_update];exact bu ha)];exact O6
 show wpAny (model prog w) A _ P E {s with heap:=((s.heap.update a (Obj.mapSeq fun _=>#[])).push (seqObj "tuple" vs.toArray 0)).push (seqObj "list" #[] 0)};dsimp only;have h2':vs.toArray.size<2:=by simpa using h2
 rw[au h2',au h2'];refine ak (aC ?_);rw[StateT.run_pure];refine ak (aC ?_);dsimp only;refine ak (seqEpoch_at ho6 rfl ?_);refine ak (listUpdate_at ho6 rfl ?_ (dF _) (by rw[Array.size_map];show(pairsOf vs).size<=_;rw[pairsOf_size,c_];omega));simp only[rG,cA,bJ];refine aC ?_
 have eo:(vs.toArray.zip vs.toArray).map (·.2)=vs.toArray:=by
  apply Array.toList_inj.mp;simp only[Array.toList_map,Array.toList_zip];exact List.map_snd_zip (aQ _)
 obtain⟨e,he⟩:=sortedHeap_at (out:=(vs.toArray.zip vs.toArray).map (·.2)) ho;refine h (sortedHeap s.heap a vs ((vs.toArray.zip vs.toArray).map (·.2))) e (fun b o hb q=>(sortedHeap_old hb (aO q)).trans q) ?_
 rw[he,eo]
end
theorem NH{kvs:List (Key×V)}{vs:List (Key×Value)}(r:KV kvs vs){k:Key}{v:V}(e:kvs[i]?=some (k,v)):∃u,vs[i]?=some (k,u)/\RelV v u:=by
 have r':Paired _ kvs vs:=r
 clear r
 induction r' generalizing i with
 |nil=>simp at e
 |cons h t ih=>
  cases i with
  |zero=>
   simp at e;rename_i a b _ _;obtain⟨h1,h2⟩:=h;obtain⟨b1,b2⟩:=b;subst e;exact⟨b2,by simpa using h1.symm,h2⟩
  |succ i=>obtain⟨u,x,y⟩:=ih (i:=i) (by simpa using e);exact⟨u,by simpa using x,y⟩
theorem xw{b:Addr}:∀{l:List (Addr×List V)} {H:Hp},b∉l.map (·.1)->qw H l b=H b
 |[],_,_=>rfl
 |p::l,H,h=>by
  rw[ba]at h;show qw (upd H p.1 (.tup p.2)) l b=_;rw[xw fun z=>h (bF _ z),aF fun z=>h (by rw[z];exact bM ..)]
theorem zh(f:Nat->Addr):∀p:List Nat,Vals (p.map fun i=>V.ref (f i)) (p.map fun i=>Value.ref (f i))
 |[]=>.nil
 |i::p=>.cons rfl (zh f p)
def Ap(h:Heap)(L D:Addr):List (Addr×Obj):=(Ee h L).filter fun p=>decide (p.1≠D)
theorem iR{h:Heap}{b:Addr}{o:Obj}:(b,o)∈Ap h a ae↔b≠a/\b≠ae/\h.get? b=some o:=by
 unfold Ap;rw[fm,Ef,gF];exact⟨fun z=>⟨z.1.1,z.2,z.1.2⟩,fun z=>⟨⟨z.1,z.2.2⟩,z.2.1⟩⟩
theorem xx{h:Heap}:∀{as:List Addr} {ss:List Str},as.length=ss.length->(∀(i:Nat) (a:Addr) (z:Str),as[i]?=some a->ss[i]?=some z->∃t x,h.get? a=some {cls:=.type "tuple",data:=.seq #[.str z t,x]})->∃fs:List Value,PySem.W.KatTups h (as.map Value.ref) fs/\fs.length=ss.length/\∀v∈fs,∃z t,v=Value.str z t
 |[],[],_,_=>⟨[],.nil,rfl,fun v m=>(nomatch m)⟩
 |[],_::_,e,_=>by cases e
 |_::_,[],e,_=>by cases e
 |a::as,z::ss,e,k=>by
  obtain⟨t,x,g⟩:=k 0 a z rfl rfl;obtain⟨fs,h1,h2,h3⟩:=xx (as:=as) (ss:=ss) (by simpa using e) fun i b y e1 e2=>k (i+1) b y (by simpa using e1) (by simpa using e2);refine⟨.str z t::fs,.cons g rfl rfl rfl h1,by rw[cG,cG,h2],fun v m=>?_⟩;rcases aV.mp m with rfl|m
  ·exact⟨z,t,rfl⟩
  ·exact h3 v m
theorem Kk{α β:Type}:∀{xs:List α} {ys:List β} {p:α×β},p∈xs.zip ys->∃i:Nat,xs[i]?=some p.1/\ys[i]?=some p.2
 |[],_,_,h=>by simp at h
 |_::_,[],_,h=>by simp at h
 |x::xs,y::ys,p,h=>by
  rw[List.zip_cons_cons]at h;rcases aV.mp h with rfl|h
  ·exact⟨0,rfl,rfl⟩
  ·obtain⟨i,a,b⟩:=Kk h;exact⟨i+1,by simpa using a,by simpa using b⟩
section
theorem yu(hc:X.calm=true):fG X (.builtin "sorted") (fun xs H Q=>∃(v d:Addr) (kvs:List (Key×V)) (ss:List Str) (p:List Nat),xs=[.ref v]/\H v=some (uO v d)/\Rd H d (.dK kvs)/\kvs.map (·.1)=ss.map Sum.inr/\ss.length<64/\gs ss=some p/\
  ∀(as:List Addr) (D:Addr),as.length=kvs.length->as.Nodup->(∀a∈as,H a=none)->D∉as->H D=none->Q (.ref D) (upd (qw H (as.zip (kvs.map fun q=>[kV q.1,q.2]))) D (.lst (p.map fun i=>V.ref (as.getD i 0))))):=by
 intro U s Z H xs us Q I r h;obtain⟨v,d,kvs,ss,p,rfl,hv,hd,hk,D3,hp,q⟩:=h;obtain⟨u,rfl,ru⟩:=vals1 r;cases(show u=Value.ref v from ru);obtain⟨hz,hs,vs,rv,hm⟩:=(show cu X.prog X.w H s.heap d (.dK kvs)from hd.ok I.cp);obtain⟨ep,hm⟩:=hm.dictAt;have W8:s.heap.IsItemsView v d:=(show cu X.prog X.w H s.heap v (uO v d)from I.cp v _ hv).1;have W9:=qT rv;have hsl:kvs.length=ss.length:=by have q:=cq List.length hk;rw[aK,aK]at q;exact q
 have hnd:ss.Nodup:=by
  obtain⟨_,_,_,_,_,_,_,nd⟩:=hm;have e:vs.map (·.1)=ss.map Sum.inr:=by
   rw[<-hk];refine nP fun i=>?_
   rw[bA,bA];cases e:kvs[i]? with
   |none=>
    have h1:vs[i]?=none:=iu.mpr (by rw[<-W9];exact iu.mp e)
    rw[h1];rfl
   |some p=>
    obtain⟨z,e6⟩:=z5 rv (k:=p.1) (v:=p.2) e;rw[e6];rfl
  rw[e]at nd;exact List.Pairwise.of_map Sum.inr (fun a b z e=>z (by rw[e])) nd
 refine call_function_entry kind_sorted plain_sorted entry_sorted (args_sorted1 _) ?_
 unfold Builtin.«sorted»;refine ak (m:=checkCount "sorted" 1 1 _) (aC ?_);refine ak (PySem.W.kdx_collect (A:=X.A.in1) (knd:=bC X.prog X.w) (kvs:=vs) (ep:=ep) (I.ok.hd hc) W8 hm (by rw[<-W9];exact hz) fun h1 tk as YL hl hG=>?_);refine ak (oh ?_ (by rw[aK,hl,<-W9];exact hz));have EL:(h1.push (seqObj "list" (as.map Value.ref).toArray 0)).get? h1.objs.size=some (seqObj "list" (as.map Value.ref).toArray 0):=bG _ rfl;have Ph:∀i a,as[i]?=some a->∃z y t,ss[i]?=some z/\kvs[i]?=some (Sum.inr z,y)/\∃x,RelV y x/\h1.get? a=some {cls:=.type "tuple",data:=.seq #[.str z t,x]}:=fun i a e=>by
  obtain⟨key,k,x,e1,e2,e3⟩:=hG.pairs i a e;have hi:i<kvs.length:=by rw[W9];exact(fi.mp e1).1
  have e4:kvs[i]?=some kvs[i]:=bq hi
  generalize kvs[i]=kv at e4;obtain⟨x',e6,rx⟩:=NH rv (k:=kv.1) (v:=kv.2) e4;rw[e1]at e6;cases e6;have e7:(kvs.map (·.1))[i]?=some kv.1:=by rw[bA,e4];rfl
  rw[hk,bA]at e7;cases e8:ss[i]? with
  |none=>rw[e8]at e7;cases e7
  |some z=>
   rw[e8]at e7;have e9:Sum.inr z=kv.1:=by simpa using e7
   obtain⟨t,rfl⟩:∃t,key=Value.str z t:=by
    rw[<-e9]at e2;exact Value.isStrOf_shape e2
   exact⟨z,kv.2,t,e8,by rw[e4,e9],x,rx,e3⟩
 obtain⟨m,Qy,_⟩:=id I.loc;have hL:X.env.locals<s.heap.objs.size:=I.lt;have YM:∀a∈as,s.heap.objs.size<=a:=fun a ha=>cT (hG.above a ha);have aD:∀a∈as,a≠h1.objs.size:=fun a ha=>bu (hG.there ha);have aL:∀a∈as,a≠X.env.locals:=fun a ha=>cU (cy hL (YM a ha));have asz:∀b o,s.heap.get? b=some o->b<h1.objs.size:=fun b o e=>aO (YL b o e);have J:Inv X U Z H {s with heap:=h1,toks:=tk}:=I.kept YL;have Su:H h1.objs.size=none:=J.fresh;have hDf:kj X U H h1.objs.size:=J.wj (aQ _) Su;have hD0:X.fq.heap.objs.size<=h1.objs.size:=J.sz;have hDL:h1.objs.size≠X.env.locals:=cU J.lt;have Kl:as.length=ss.length:=by rw[hl,<-W9,hsl]
 have nda:as.Nodup:=hG.rise.imp fun h=>bu h;have hkl:(as.zip (kvs.map fun q=>[kV q.1,q.2])).map (·.1)=as:=List.map_fst_zip (by rw[aK,Kl,hsl];exact aQ _);have fin:∀h' c,(∀b o,b≠X.env.locals->b≠h1.objs.size->(h1.push (seqObj "list" (as.map Value.ref).toArray 0)).get? b=some o->h'.get? b=some o)->h'.Ns X.env.locals m->
   h'.get? h1.objs.size=some (seqObj "list" (p.map fun i=>Value.ref (as.getD i 0)).toArray c)->EP X U Z Q (.ref h1.objs.size) {s with heap:=h',toks:=tk}:=by
  intro h' c kp OB hD;have kp1:∀b o,b≠X.env.locals->b≠h1.objs.size->h1.get? b=some o->h'.get? b=some o:=fun b o n1 n2 e=>kp b o n1 n2 (bh _ e);have I1:Inv X U Z H {s with heap:=h',toks:=tk}:=I.Ke Qy OB fun b o n e=>kp1 b o n (bu (asz b o e)) (YL b o e);have yr:∀b,s.heap.objs.size<=b->kj X U H b:=fun b hb=>I.wj hb (I.cp.fresh hb);have I2:=I1.Cs (l:=as.zip (kvs.map fun q=>[kV q.1,q.2])) (by rw[hkl];exact nda) fun t ht=>by
   obtain⟨i,e1,e2⟩:=Kk ht;obtain⟨z,y,u5,_,e4,x,rx,e5⟩:=Ph i t.1 e1;have ha:t.1∈as:=dm e1;rw[bA,e4]at e2;have e6:[V.str z,y]=t.2:=Option.some.inj e2;refine⟨bP I.sz (YM _ ha),yr _ (YM _ ha),by rw[<-e6];show 2<=sizeLine;decide,[.str z u5,x],by rw[<-e6];exact .cons ⟨u5,rfl⟩ (.cons rx .nil),⟨_,kp1 _ _ (aL _ ha) (aD _ ha) e5,rfl,_,rfl⟩⟩
  have hDn:qw H (as.zip (kvs.map fun q=>[kV q.1,q.2])) h1.objs.size=none:=by
   rw[xw (by rw[hkl];exact fun z=>aD _ z rfl)];exact Su
  have ny:p.length<=sizeLine:=bP (Ek hp) (by decide);refine⟨.ref h1.objs.size,_,I2.adopt (o:=.lst (p.map fun i=>V.ref (as.getD i 0))) hD0 ⟨hDn,hDf.2⟩ ⟨by rw[aK];exact ny,_,c,zh _ p,hD⟩,rfl,q as h1.objs.size (by rw[Kl,hsl]) nda (fun a ha=>I.cp.fresh (YM a ha)) (fun z=>aD _ z rfl) Su⟩
 refine ak (eD (fZ slot_list_sort ⟨_,EL,rfl⟩ entry_list_sort ?_ (args_list_sort _)));have W_:(h1.push (seqObj "list" (as.map Value.ref).toArray 0)).Ns X.env.locals m:=by
  obtain⟨o,es,Il,ho,r'⟩:=Qy;exact⟨o,es,Il,bh _ (YL _ _ ho),r'⟩
 by_cases h2:ss.length<2
 ·have ep:p=List.range ss.length:=by
   unfold gs at hp;rw[au h2]at hp;exact(Option.some.inj hp).symm
  have eo:as.map Value.ref=p.map fun i=>Value.ref (as.getD i 0):=by
   rw[ep,<-Kl];refine nP fun i=>?_
   rw[bA,bA];by_cases hi:i<as.length
   ·rw[List.getElem?_range hi,bq hi];simp[hi]
   ·rw[iu.mpr (by omega),iu.mpr (by rw[rH];omega)]
    rfl
  refine u9 EL (by rw[aK,Kl];exact h2) fun h' c kp hD=>⟨_,rfl,aC ⟨_,rfl,?_⟩⟩;refine fin h' c (fun b o _ n e=>kp b o n e) ?_ (by rw[<-eo];exact hD)
  obtain⟨o,es,Il,ho,r'⟩:=W_;exact⟨o,es,Il,kp _ _ hDL.symm ho,r'⟩
 ·obtain⟨q9,er,tY,ep⟩:∃q9:Array Nat,oZ ss.length (xu ss) (PySem.W.kas_sort ss.length)=some q9/\q9.toList.all (fun i=>decide (i<ss.length))=true/\p=q9.toList:=by
   unfold gs at hp;rw[ay h2]at hp;cases e:oZ ss.length (xu ss) (PySem.W.kas_sort ss.length)with
   |none=>rw[e]at hp;cases hp
   |some q9=>
    rw[e]at hp;have O7:(if q9.toList.all (fun i=>decide (i<ss.length))=true/\q9.toList.length<=64 then some q9.toList else none)=some p:=hp;by_cases z:q9.toList.all (fun i=>decide (i<ss.length))=true/\q9.toList.length<=64
    ·rw[au z]at O7;exact⟨q9,rfl,z.1,(Option.some.inj O7).symm⟩
    ·rw[ay z]at O7;cases O7
  have F:Fr Ak X.env.locals (h1.push (seqObj "list" (as.map Value.ref).toArray 0)) m:=⟨W_,(fun b o e=>by rw[oY]at e;cases e),dF _⟩;have N:News Ak X.env.locals (h1.push (seqObj "list" (as.map Value.ref).toArray 0)) (Ap (h1.push (seqObj "list" (as.map Value.ref).toArray 0)) X.env.locals h1.objs.size):=fun t ht=>by
   obtain⟨n1,n2,e⟩:=iR.mp (show(t.1,t.2)∈_ from ht);exact⟨e,n1,oY _⟩
  refine PySem.W.kat_list_sort (s:={s with heap:=h1.push (seqObj "list" (as.map Value.ref).toArray 0),toks:=tk}) F N EL hDL (oY _) (fun t ht=>(iR.mp (show(t.1,t.2)∈_ from ht)).2.1) (by rw[aK,Kl];omega) (by rw[aK,Kl];exact D3) fun e1 h' F' N'=>?_
  have tp:∀(i:Nat) (a:Addr) (z:Str),as[i]?=some a->ss[i]?=some z->∃t x,h'.get? a=some {cls:=.type "tuple",data:=.seq #[.str z t,x]}:=fun i a z ea ez=>by
   obtain⟨z',y,t,e3,_,x,_,e5⟩:=Ph i a ea;rw[ez]at e3;cases e3;have ha:a∈as:=dm ea;exact⟨t,x,(N' (a,_) (bF _ (iR.mpr ⟨aL a ha,aD a ha,bh _ e5⟩))).1⟩
  obtain⟨fs,kt,fl,aaq⟩:=xx Kl tp;refine PySem.W.kat_kind (T:=.type "str") kt (by rw[fl];omega) (fun v hv=>by obtain⟨z,t,rfl⟩:=aaq v hv;exact .of_pure rfl) (by decide) ?_
  rw[show(Value.type "str" !=Value.type "tuple")=true by decide,aK,Kl];refine zg (fun i j C hi hj zQ hC=>?_) _ er ?_
  ·have ei:as[i]?=some as[i]:=bq (by rw[Kl];exact hi)
   have ej:as[j]?=some as[j]:=bq (by rw[Kl];exact hj)
   generalize as[i]=a at ei;generalize as[j]=b at ej;have zi:ss[i]?=some ss[i]:=bq hi
   have zj:ss[j]?=some ss[j]:=bq hj
   obtain⟨t1,x1,g1⟩:=tp i a _ ei zi;obtain⟨t2,x2,g2⟩:=tp j b _ ej zj;have va:(as.map Value.ref).getD i Value.none=Value.ref a:=by rw[dD,bA,ei];rfl
   have vb:(as.map Value.ref).getD j Value.none=Value.ref b:=by rw[dD,bA,ej];rfl
   show wpAny _ _ (keyLt' _ ((as.map Value.ref).getD i Value.none) ((as.map Value.ref).getD j Value.none)) _ _ _;rw[va,vb];refine Ct g1 rfl g2 rfl (fun e=>zQ (r8 hnd zi (by rw[zj,e]))) ?_
   have e9:xu ss i j=decide (ss[i].cps.toList<ss[j].cps.toList):=by
    unfold xu;rw[dD,dD,zi,zj]
    rfl
   rw[<-e9];exact hC
  ·refine PySem.W.KasFin.intro F' N' (.head fun t ht=>(iR.mp (show(t.1,t.2)∈_ from ht)).2.1) fun h'' c F'' N''=>⟨_,rfl,aC ⟨_,rfl,?_⟩⟩;have eo:(q9.toList.map fun i=>(as.map Value.ref).getD i Value.none)=p.map fun i=>Value.ref (as.getD i 0):=by
    rw[ep];refine fY fun i hi=>?_
    have Yy:i<as.length:=by rw[Kl];exact dE (cJ.mp tY i hi)
    rw[dD,dD,bA,bq Yy]
    rfl
   refine fin h'' c (fun b o n1 n2 e=>(N'' (b,o) (bF _ (iR.mpr ⟨n1,n2,e⟩))).1) F''.ns ?_
   rw[<-eo];exact(N'' _ (bM ..)).1
def qA:List (Key×Tr)->Option (List Str)
 |[]=>some []
 |(.inr z,_)::r=>(qA r).map fun s=>z::s
 |_=>none
theorem sT:∀{aM:List (Key×Tr)} {ss:List Str},qA aM=some ss->aM.map (·.1)=ss.map Sum.inr
 |[],_,h=>by cases h;rfl
 |(.inr z,_)::r,ss,h=>by
  have h':(qA r).map (fun s=>z::s)=some ss:=h;cases e:qA r with
  |none=>rw[e]at h';cases h'
  |some s=>rw[e]at h';cases h';rw[ba,ba,sT e]
 |(.inl _,_)::_,_,h=>by cases h
def vp:Tr->Rs Tr
 |.bw aM=>kh ((qA aM).bind fun ss=>if ss.length<64/\(ss.all fun z=>decide (z.length<=cw))=true then(gs ss).map fun p=>Tr.lst (p.map fun i=>.tup [.str (ss.getD i ""),(aM.map (·.2)).getD i .bO])else none)
 |_=>.bad
theorem El{t:Tr}{k:Tr->Prop}(q:Fi X H (vp t) k):∃aM ss p,t=.bw aM/\qA aM=some ss/\ss.length<64/\(∀z∈ss,z.length<=cw)/\gs ss=some p/\k (.lst (p.map fun i=>.tup [.str (ss.getD i ""),(aM.map (·.2)).getD i .bO])):=by
 cases t with
 |bw aM=>
  obtain⟨x,e,kx⟩:=fy q;cases e1:qA aM with
  |none=>rw[e1]at e;cases e
  |some ss=>
   rw[e1]at e;have e':(if ss.length<64/\(ss.all fun z=>decide (z.length<=cw))=true then(gs ss).map fun p=>Tr.lst (p.map fun i=>.tup [.str (ss.getD i ""),(aM.map (·.2)).getD i .bO])else none)=some x:=e;by_cases z:ss.length<64/\(ss.all fun z=>decide (z.length<=cw))=true
   ·rw[au z]at e';cases e2:gs ss with
    |none=>rw[e2]at e';cases e'
    |some p=>
     rw[e2]at e';cases e';exact⟨aM,ss,p,rfl,e1,z.1,fun y hy=>dE (cJ.mp z.2 y hy),e2,kx⟩
   ·rw[ay z]at e';cases e'
 |_=>exact fe q
theorem zk{p:List Nat}(h:gs ps=some p):∀i∈p,i<ps.length:=by
 unfold gs at h;split at h
 ·cases h;exact fun i hi=>rP.mp hi
 ·cases e:oZ ps.length (xu ps) (PySem.W.kas_sort ps.length)with
  |none=>rw[e]at h;cases h
  |some q=>
   rw[e]at h;have h':(if q.toList.all (fun i=>decide (i<ps.length))=true/\q.toList.length<=64 then some q.toList else none)=some p:=h;by_cases z:q.toList.all (fun i=>decide (i<ps.length))=true/\q.toList.length<=64
   ·rw[au z]at h';cases h';exact fun i hi=>dE (cJ.mp z.1 i hi)
   ·rw[ay z]at h';cases h'
variable {p1 cN:Pos}
theorem FR{W:Vw}{f:Nat->V}{g:Nat->Tr}:∀{p:List Nat},(∀i∈p,Rep K W (f i) (g i))->bc K W (p.map f) (p.map g)
 |[],_=>.nil
 |i::p,h=>.cons (h i (bM ..)) (FR fun j m=>h j (bF _ m))
theorem Km(hs:X.mg "sorted"=none)(ho:PE X o (tP X F))(hc:X.calm=true:=by rfl) (hg:Gl X "sorted":=by rfl) (hb:isCall o=false:=by rfl) (e_:(b8.endLine==cN.line)=true:=by rfl):
  PE X (.Call (.Name "sorted" p1) [.Call (.Attribute o "items" b8) [] [] cN] [] pos) (tP X fun Y=>(F Y).bind vp):=
 (oz (yu hc) hg hs rfl (kC (Kj ho (fu hb) e_) qM (aY _ _ rfl)) (by decide) (by decide) (aY _ _ rfl) (cg (es:=[]) rfl)).weak fun Z H Q ⟨B,Y,hb,r,q⟩=>⟨B,Y,hb,r,q.bind.mono fun t qt v H1 s1 rv=>by
  obtain⟨aM,ss,p,rfl,e1,D3,htx,e2,k⟩:=El qt;cases rv with
  |@bw a kvs _ h ek rr=>
   refine⟨a,kvs,rfl,Rd.same aZ h,fun vw hvw=>⟨vw,a,kvs,ss,p,rfl,a_,Rd.same (aE.upd hvw) (Rd.same aZ h),by rw[ek];exact sT e1,D3,e2,fun as D hl hnd hn hD hDn=>?_⟩⟩;have DU:=hb.same s1;have sv:aE H1 (upd H1 vw (uO vw a)):=aE.upd hvw;have Ng:=DU.same sv;have hlz:(as.zip (kvs.map fun q=>[kV q.1,q.2])).map (·.1)=as:=List.map_fst_zip (by rw[aK,hl];exact aQ _);obtain⟨st,gt⟩:=xt (H:=upd H1 vw (uO vw a)) (l:=as.zip (kvs.map fun q=>[kV q.1,q.2])) (by rw[hlz];exact hnd) fun t ht=>hn t.1 (rL ht).1;have hDt:qw (upd H1 vw (uO vw a)) (as.zip (kvs.map fun q=>[kV q.1,q.2])) D=none:=by rw[xw (by rw[hlz];exact hD)];exact hDn
   have sd:=aE.upd (o:=.lst (p.map fun i=>V.ref (as.getD i 0))) hDt;refine k _ _ (((s1.trans sv).trans st).trans sd) (.lst (vs:=p.map fun i=>V.ref (as.getD i 0)) ?_ (FR fun i hi=>?_))
   ·exact((Ng.same st).new hDt)
   ·have Xa:=zk e2 i hi;have ekl:kvs.length=ss.length:=by
     have q9:=cq List.length (ek.trans (sT e1));rw[aK,aK]at q9;exact q9
    have hia:i<as.length:=by rw[hl,ekl];exact Xa
    have U6:i<kvs.length:=by rw[ekl];exact Xa
    have ea:as.getD i 0=as[i]:=by rw[dD,bq hia];rfl
    have ez:ss.getD i ""=ss[i]:=by rw[dD,bq Xa];rfl
    have ekz:kvs[i].1=Sum.inr ss[i]:=by
     have q9:=cq (fun l=>l[i]?) (ek.trans (sT e1));simp only[bA,bq U6,bq Xa,cF]at q9;exact Option.some.inj q9
    have hm:(as[i],[V.str ss[i],kvs[i].2])∈as.zip (kvs.map fun q=>[kV q.1,q.2]):=by
     have q9:(as.zip (kvs.map fun q=>[kV q.1,q.2]))[i]?=some (as[i],[V.str ss[i],kvs[i].2]):=by
      rw[List.getElem?_zip_eq_some];refine⟨bq hia,?_⟩;rw[bA,bq U6];show some [kV kvs[i].1,kvs[i].2]=_;rw[ekz];rfl
     exact dm q9
    have g1:=gt _ hm;have nB:B.hd as[i]=false:=Ng.free (hn _ (jO hia));have g2:(bz B (upd (qw (upd H1 vw (uO vw a)) (as.zip (kvs.map fun q=>[kV q.1,q.2]))) D (.lst (p.map fun i=>V.ref (as.getD i 0))))).H as[i]=some (.tup [V.str ss[i],kvs[i].2]):=by
     rw[fK nB];exact sd _ _ g1
    obtain⟨tv,et,rt⟩:=rr.wH (i:=i) (v:=kvs[i].2) (by rw[bA,bq U6];rfl);have etd:(aM.map (·.2)).getD i .bO=tv:=by rw[dD,et];rfl
    rw[ea,ez,etd];exact .tup (.of g2) (.cons (.str _ (htx _ (jO Xa))) (.cons (rt.same (aX ((sv.trans st).trans sd))) .nil))⟩
end
structure QE(X:Cx)(e:Expr)(F:bf->Rs Tr):Prop where
 h:PE X e (tP X F)
structure QT(X:Cx)(e:Expr)(F:bf->Rs Bool):Prop where
 h:PT X e (tQ X F)
structure QW(X:Cx)(e:Expr)(F:bf->Rs Bool):Prop where
 h:PW X e (tQ X F)
structure QA(X:Cx)(e:List Expr)(F:bf->Rs (List Tr)):Prop where
 h:PA X e (BA X F)
structure QS(X:Cx)(e:Stmt)(F:bf->Rs Out):Prop where
 h:PS X e (tS X F)
structure QB(X:Cx)(e:List Stmt)(F:bf->Rs Out):Prop where
 h:nC X e (tS X F)
structure QG(X:Cx)(e:Expr)(F:nD):Prop where
 h:PG X e (tG X F)
structure YN(X:Cx)(e:List Expr)(F:List Tr->bf->Rs bf):Prop where
 h:Ma X e (TU X F)
structure QI(X:Cx)(tg e:Expr)(F:bf->Rs (List Tr)):Prop where
 h:PI X tg e (tI X F)
structure QJ(X:Cx)(tg e:Expr)(F:bf->Rs (List Tr)):Prop where
 h:PI X tg e (tJ X F)
structure QO(X:Cx)(e:Option Expr)(F:bf->Rs (Option Int)):Prop where
 h:PO X e (tO X F)
structure QF(X:Cx)(e:List Expr)(F:bf->Rs Bool):Prop where
 h:PF X e (tQ X F)
structure ZE(X:Cx)(e:Expr)(F:bf->Ab->Rz Tr):Prop where
 h:PE X e (tE X F)
structure NE(X:Cx)(e:Expr)(F:bf->Rs Tr):Prop where
 h:PE X e (tF X F)
structure ZT(X:Cx)(e:Expr)(F:bf->Ab->Rz Bool):Prop where
 h:PT X e (O3 X F)
structure ZL(X:Cx)(e:List Expr)(F:bf->Ab->Rz (List Tr)):Prop where
 h:PA X e (LS X F)
structure ZS(X:Cx)(e:Stmt)(F:bf->Ab->Rz Out):Prop where
 h:PS X e (tZ X F)
structure ZB(X:Cx)(e:List Stmt)(F:bf->Ab->Rz Out):Prop where
 h:nC X e (tZ X F)
structure Cu(X:Cx)(scope:Scope)(N':List Str)(tg elt:Expr)(ifs:List Expr)(T:nD)(A:bf->Rs Bool)(F:bf->Rs Tr):Prop where
 all:∀s H ex,QG (sH X scope N' s H ex) tg T/\QF (sH X scope N' s H ex) ifs A/\QE (sH X scope N' s H ex) elt F
theorem Cu.to {scope:Scope}{N':List Str}{elt:Expr}{ifs:List Expr}{T:nD}{A:bf->Rs Bool}(b:Cu X scope N' tg elt ifs T A F):MM X scope N' tg elt ifs T A F:=
 ⟨fun s H ex=>⟨(b.all s H ex).1.h,(b.all s H ex).2.1.h,(b.all s H ex).2.2.h⟩⟩
section
variable {b:Expr}{E:bf->Rs Tr}
theorem ai(i:Nat)(hN:X.N[i]?=some x:=by rfl) (hv:Yi X.env.scope x:=by first|exact Or.inl rfl|exact Or.inr (Or.inl rfl)|exact Or.inr (Or.inr rfl)) (hd:Db x:=by decide) (Dk:(x==("__classdict__":Str))=false:=by decide):QE X (.Name x pos) (fun Y=>wL Y i):=⟨U7 i hN hv hd Dk⟩
theorem aT{i:Int}{j pos}:QE X (.Constant (.int i) j pos) (fun _=>.ok (.int i)):=⟨U8⟩
theorem yv{b:Bool}{j pos}:QE X (.Constant (.bool b) j pos) (fun _=>.ok (.bl b)):=⟨ZF⟩
theorem fc{j pos}:QE X (.Constant .none j pos) (fun _=>.ok .bO):=⟨U9⟩
theorem ar{j pos}(hz:x.length<=cw:=by decide):QE X (.Constant (.str x) j pos) (fun _=>.ok (.str x)):=⟨U_ hz⟩
theorem Cv{n:String}(hm:X.mg x=none)(hv:bootBuiltins x=some (.type n):=by rfl) (hg:Gl X x:=by rfl) (hn:x≠"__name__":=by decide) (hd:Db x:=by decide):QE X (.Name x pos) (fun _=>.ok (.ty n)):=⟨ZG hm hv hg hn hd⟩
theorem d8{op:Operator}{h:Tr->Tr->Rs Tr}(ho:A6 X (binaryOp op) h)(ha:QE X e F)(hb:QE X b G):QE X (.BinOp e op b pos) (fun Y=>Je h (F Y) (G Y)):=⟨Va ho ha.h hb.h⟩
theorem zl{op:CmpOp}{h:Tr->Tr->Rs Tr}(ho:A6 X (compareOp op) h)(ha:QE X e F)(hb:QE X b G)(hm:behindInMarks op b=false:=by first|exact zJ _|rfl|with_unfolding_all rfl):QE X (.Compare e [op] [b] pos) (fun Y=>Je h (F Y) (G Y)):=⟨Vb ho ha.h hb.h hm⟩
theorem aU{op:CmpOp}{h:Tr->Tr->Rs Tr}(ho:A6 X (compareOp op) h)(ha:QE X e F)(hb:QE X b G)(hm:behindInMarks op b=false:=by first|exact zJ _|rfl|with_unfolding_all rfl):QT X (.Compare e [op] [b] pos) (fun Y=>Yt (Je h (F Y) (G Y))):=⟨Vc ho ha.h hb.h hm⟩
theorem lX(ha:QE X e F)(he:lQ e=true:=by rfl):QT X e (fun Y=>(F Y).bind oH):=⟨Vd ha.h he⟩
end
section
variable {E:bf->Rs Tr}{A B:bf->Rs Bool}
theorem xy(ha:QT X e A):QT X (.UnaryOp .Not e pos) (fun Y=>GK (A Y)):=⟨Ve ha.h⟩
theorem hW(ha:QT X e A):QW X (.BoolOp .And [e] pos) A:=⟨QU ha.h⟩
theorem uP(ha:QT X e A):QW X (.BoolOp .Or [e] pos) A:=⟨Vg ha.h⟩
theorem lY(ha:QT X e A)(hb:QW X (.BoolOp .And (o::af) pos) B):QW X (.BoolOp .And (e::o::af) pos) (fun Y=>GL (A Y) (B Y)):=⟨w_and ha.h hb.h⟩
theorem Cw(ha:QT X e A)(hb:QW X (.BoolOp .Or (o::af) pos) B):QW X (.BoolOp .Or (e::o::af) pos) (fun Y=>Vf (A Y) (B Y)):=⟨w_or ha.h hb.h⟩
theorem dO{op}(h:QW X (.BoolOp op af pos) A):QT X (.BoolOp op af pos) A:=⟨QV h.h⟩
theorem Kn(ha:QE X e F)(hb:QE X (.BoolOp .And (o::af) pos) G):QE X (.BoolOp .And (e::o::af) pos) (fun Y=>Vh (F Y) (G Y)):=⟨Vi ha.h hb.h⟩
theorem Pj{op}(h:QE X e F):QE X (.BoolOp op [e] pos) F:=⟨Vj h.h⟩
theorem Cy(hc:QT X tg A)(ha:QE X e F)(hb:QE X o G):QE X (.IfExp tg e o pos) (fun Y=>Jf (A Y) (F Y) (G Y)):=⟨ZH hc.h ha.h hb.h⟩
end
section
variable {c:Expr}{E:bf->Rs Tr}{A B:bf->Rs Bool}{c8:List Expr}
theorem az:QA X [] (fun _=>.ok []):=⟨E9⟩
theorem aj(ha:QE X o F)(hr:QA X af L)(hs:isStar o=false:=by rfl):QA X (o::af) (fun Y=>wO (F Y) (L Y)):=⟨zS ha.h hr.h hs⟩
theorem bD{x1}(h:QA X af L):QE X (.Tuple af x1 pos) (fun Y=>zT (L Y)):=⟨Vk h.h⟩
theorem qB(h:QA X af L):QE X (.List af pos) (fun Y=>BC (L Y)):=⟨Vl h.h⟩
theorem bZ{id:String}(hc:kE X (.builtin id) h)(hm:X.mg x=none)(ha:QA X (e::af) L)(hv:bootBuiltins x=some (.builtin id):=by rfl) (hg:Gl X x:=by rfl) (hn:x≠"__name__":=by decide) (eM:Db x:=by decide) (bQ:aP (e::af)=true:=by rfl):QE X (.Call (.Name x p) (e::af) [] pos) (fun Y=>cP h (L Y)):=⟨MH hc hm ha.h hv hg hn eM bQ⟩
theorem dI{T:String}(hc:kE X (.type T) h)(hm:X.mg x=none)(ha:QA X (e::af) L)(hv:bootBuiltins x=some (.type T):=by rfl) (hg:Gl X x:=by rfl) (hn:x≠"__name__":=by decide) (eM:Db x:=by decide) (bQ:aP (e::af)=true:=by rfl):QE X (.Call (.Name x p) (e::af) [] pos) (fun Y=>cP h (L Y)):=⟨Jg hc hm ha.h hv hg hn eM bQ⟩
theorem Xb{st:Stmt}{fd:FuncData}(D:yL X.K X.mg x st ps a fd)(G:dw X.prog X.w X.K X.mg X.base lq i a fd ps (spT X.K h))(hr:cz i X.A)(ha:QA X (e::af) L)(hg:Gl X x:=by rfl) (eM:Db x:=by decide) (bQ:aP (e::af)=true:=by rfl):QE X (.Call (.Name x p) (e::af) [] pos) (fun Y=>cP h (L Y)):=⟨Vm D G hr ha.h hg eM bQ⟩
end
section
variable {b c:Expr}{G G':bf->Rs Out}{A:bf->Rs Bool}{st:Stmt}{Vn:List Stmt}
theorem cY:QB X [] (fun Y=>.ok (.nx Y)):=⟨Vo⟩
theorem bg(h1:QS X st G)(h2:QB X ac G'):QB X (st::ac) (fun Y=>BD (G Y) G'):=⟨QY h1.h h2.h⟩
theorem bL(h1:QS X st G):QB X [st] G:=⟨Vp h1.h⟩
theorem d9{i:Nat}(he:QE X e F)(hN:X.N.Nodup:=by assumption) (hi:X.N[i]?=some x:=by rfl) (hx:Loc X.env.scope x:=by first|exact Or.inl rfl|exact Or.inr rfl) (hs:qP e=false:=by rfl) (hf:ye X x:=by first|exact .inl rfl|exact .inr rfl|assumption):QS X (.Assign [.Name x p] e pos) (fun Y=>Jh i (F Y) Y):=⟨Vr he.h hN hi hx hs hf⟩
theorem bU(he:QE X e F):QS X (.Return (some e) pos) (fun Y=>Ji (F Y)):=⟨Vs he.h⟩
theorem ff{ns:List Stmt}(hc:QT X c A)(ha:QB X ac G)(hb:QB X ns G'):QS X (.If c ac ns pos) (fun Y=>TR (A Y) (G Y) (G' Y)):=⟨ZI hc.h ha.h hb.h⟩
theorem eJ(i:Nat)(hN:X.N.Nodup:=by assumption) (hi:X.N[i]?=some x:=by rfl) (hx:Loc X.env.scope x:=by first|exact Or.inl rfl|exact Or.inr rfl) (hf:ye X x:=by first|exact .inl rfl|exact .inr rfl|assumption):QG X (.Name x pos) (gN i):=⟨QZ i hN hi hx hf⟩
theorem FT:YN X [] (DF []):=⟨Vt⟩
theorem o4{i:Nat}{is:List Nat}(h2:YN X af (DF is))(hN:X.N.Nodup:=by assumption) (hi:X.N[i]?=some x:=by rfl) (hx:Loc X.env.scope x:=by first|exact Or.inl rfl|exact Or.inr rfl) (hf:ye X x:=by first|exact .inl rfl|exact .inr rfl|assumption) (hs:(assignEach (.Name x pos::af) X.env).map (·.2)=assign (.Name x pos) X.env::(assignEach af X.env).map (·.2):=by rfl):YN X (.Name x pos::af) (DF (i::is)):=⟨Q0 h2.h hN hi hx hf hs⟩
theorem FU{is:List Nat}(h:YN X af (DF is))(hc:X.calm=true:=by rfl) (hn:(assignEach af X.env).length=is.length:=by rfl) (bQ:(assignEach af X.env).findIdx? (·.1)=none:=by rfl):QG X (.Tuple af i pos) (gT is):=⟨Vu h.h hc hn bQ⟩
theorem Xc{T:nD}(hg:QG X tg T)(he:QE X e F)(hs:swapsWithSole [tg] e pos.line X.env=pure false:=by rfl) (hw:swappedStores [tg] e X.env=pure none:=by rfl) (h1:(assignEach [tg] X.env).map (·.2)=[assign tg X.env]:=by rfl):QS X (.Assign [tg] e pos) (fun Y=>Q1 T (F Y) Y):=⟨Vv hg.h he.h hs hw h1⟩
theorem lZ(hl:QE X e F):QI X tg e (fun Y=>DG (F Y)):=⟨Vx hl.h⟩
end
section
variable {c:Expr}{G G':bf->Rs Out}{A:bf->Rs Bool}{st:Stmt}{Vn:List Stmt}
theorem Ko(hm:X.mg "range"=none)(ha:QA X [e] L)(hg:Gl X "range":=by rfl) (hs:aP [e]=true:=by rfl):QI X tg (.Call (.Name "range" p) [e] [] pos) (fun Y=>Fd (L Y)):=⟨Jk hm ha.h hg hs⟩
end
section
variable {a b c:Expr}{G G':bf->Rs Out}{A:bf->Rs Bool}{st:Stmt}{Vn:List Stmt}{scope:Scope}{N':List Str}{ix:List (Option Nat)}{T:nD}
theorem zm:QF X [] (fun _=>.ok true):=⟨VA⟩
theorem uQ(h:QT X c A):QF X [c] A:=⟨VB h.h⟩
theorem Hy(Lk:fP X N' ix scope)(hi:QI X tg o L)(kl:Cu X scope N' tg e af T A F)(hT:js T)(hc:X.calm=true:=by rfl) (hs:isSet o=false:=by rfl):QE X (.ListComp e [⟨tg,o,af,0⟩] scope pos) (fun Y=>uF ix T A F (L Y) Y):=⟨ZM Lk hi.h kl.to hT hc hs⟩
theorem NI{i:Nat}(Lk:fP X N' ix scope)(hit:QI X tg o L)(kl:Cu X scope N' tg e af T A F)(hT:js T)(hN:X.N.Nodup:=by assumption) (hc:X.calm=true:=by rfl) (hi:X.N[i]?=some x:=by rfl) (hx:Loc X.env.scope x:=by first|exact Or.inl rfl|exact Or.inr rfl) (GH:swapsWith (.ListComp e [⟨tg,o,af,0⟩] scope pos) (some (.Name x p)) b8.line X.env=pure true:=by rfl) (hs:isSet o=false:=by rfl) (hf:ye X x:=by first|exact .inl rfl|exact .inr rfl|assumption):QS X (.Assign [.Name x p] (.ListComp e [⟨tg,o,af,0⟩] scope pos) b8) (fun Y=>Jh i (uF ix T A F (L Y) Y) Y):=⟨MN Lk hit.h kl.to hT hN hc hi hx GH hs hf⟩
end
section
variable {b:Expr}
theorem bt(hu:X.A.units+1<cLine)(ha:QE X o F)(hb:QE X b G)(hs:sk b:=by exact fun _ _=>rfl):QE X (.Subscript o b pos) (fun Y=>Je jf (F Y) (G Y)):=⟨ZV hu ha.h hb.h hs⟩
theorem o5:QO X none (fun _=>.ok none):=⟨Ra⟩
theorem o6(h:QE X e F):QO X (some e) (fun Y=>M4 (F Y)):=⟨Rb h.h⟩
end
theorem Pk(ha:QE X e F):QE X (.UnaryOp .USub e pos) (fun Y=>(F Y).bind Rf):=⟨VG ha.h⟩
section
variable {f:Expr}{E:bf->Rs Tr}{keys:List (Option Expr)}{P:bf->Rs (List (Tr×Tr))}
theorem Kp(h:QP X pos keys af P)(tY:keys.all (·.isSome)=true:=by rfl) (hl:keys.length=af.length:=by rfl) (h0:keys.isEmpty=false:=by rfl) (My:keys.length<=15:=by decide):QE X (.Dict keys af pos) (fun Y=>VH (P Y)):=⟨Ri h tY hl h0 My⟩
theorem Sv(hu:X.A.units+1<cLine)(ho:QE X o F)(he:QE X e G)(hb:isCall o=false:=by rfl) (bQ:aP [e]=true:=by rfl) (hl:(b8.endLine==p.line)=true:=by rfl):QE X (.Call (.Attribute o "get" b8) [e] [] p) (fun Y=>Jp (F Y) (G Y)):=⟨Rj hu ho.h he.h hb bQ hl⟩
theorem Kq(hu:X.A.units+1<cLine)(ho:QE X o F)(he:QE X e G)(hf:QE X f E)(hb:isCall o=false:=by rfl) (bQ:aP [e,f]=true:=by rfl) (hl:(b8.endLine==p.line)=true:=by rfl):QE X (.Call (.Attribute o "get" b8) [e,f] [] p) (fun Y=>Jq (F Y) (G Y) (E Y)):=⟨Rk hu ho.h he.h hf.h hb bQ hl⟩
end
section
variable {a:Expr}{keys:List (Option Expr)}{P:bf->Rs (List (Tr×Tr))}
theorem Xd(g:zY X.K X.w X.mg x aM)(ha:QE X a F)(hg:Gl X x:=by rfl) (hd:Db x:=by decide) (hs:Mv a:=by exact fun _ _=>rfl):QE X (.Subscript (.Name x p) a pos) (fun Y=>(F Y).bind (Rm aM)):=⟨VI g ha.h hg hd hs⟩
end
theorem Xe(hm:X.mg "zip"=none)(ha:QA X [e,o] L)(hg:Gl X "zip":=by rfl) (hs:aP [e,o]=true:=by rfl):QI X (.Tuple af i b8) (.Call (.Name "zip" p) [e,o] [] pos) (fun Y=>zpW (L Y)):=⟨Wm hm ha.h hg hs⟩
theorem hX(h:QE X e F):QE X (.FormattedValue e (-1) none pos) (fun Y=>(F Y).bind Nm):=⟨RQ h.h⟩
theorem FV(hl:QE X e F):QJ X tg e (fun Y=>JA (F Y)):=⟨V1 hl.h⟩
section
variable {a b:Expr}{es:List Expr}{A:bf->Rs Bool}{scope:Scope}{N':List Str}{ix:List (Option Nat)}{T:nD}
theorem Pl(Lk:fP X N' ix scope)(hi:QJ X tg o L)(kl:Cu X scope N' tg e af T A F)(hT:js T)(hc:X.calm=true:=by rfl) (hs:isSet o=false:=by rfl):QE X (.ListComp e [⟨tg,o,af,0⟩] scope pos) (fun Y=>uF ix T A F (L Y) Y):=⟨V2 Lk hi.h kl.to hT hc hs⟩
theorem Sw{G:bf->Rs Out}(hi:QJ X tg o L)(hg:QG X tg T)(hb:QB X ac G)(hp:PassesOwn (model X.prog X.w) X.A X.env X.xe:=by exact rS) (hc:X.calm=true:=by rfl) (hs:isSet o=false:=by rfl):QS X (.For tg o ac [] pos) (fun Y=>Fc T G (L Y) Y):=⟨RF hi.h hg.h hb.h hp hc hs⟩
end
theorem Xf{id:String}{h:List Tr->Tr->Rs Tr}(slot:Slot "list" x id)(Mq:typeOf (.builtin id)=pure (.type "method_descriptor"))(hm:Qh X id (Wv X h))(ho:QE X o F)(he:QE X e G)(pa:PlainAttrs "list":=by exact rh) (oB:isCall o=false:=by rfl) (bQ:aP [e]=true:=by rfl) (e_:(b8.endLine==pos.line)=true:=by rfl):QE X (.Call (.Attribute o x b8) [e] [] pos) (fun Y=>lmR h (F Y) (G Y)):=⟨aal slot Mq hm ho.h he.h pa oB bQ e_⟩
section
variable {cN:Pos}
theorem Xg(hu:X.A.units+1<cLine)(g:JW X.K X.mg x ts)(he:QE X e G)(hg:Gl X x:=by rfl) (hd:Db x:=by decide) (bQ:aP [e]=true:=by rfl) (e_:(b8.endLine==cN.line)=true:=by rfl):QE X (.Call (.Attribute (.Name x p) "index" b8) [e] [] cN) (fun Y=>(G Y).bind (u6 ts)):=⟨Wx hu g he.h hg hd bQ e_⟩
theorem Xh{x1}(hu:X.A.units+1<cLine)(ht:QA X af L)(he:QE X e G)(bQ:aP [e]=true:=by rfl) (e_:(b8.endLine==cN.line)=true:=by rfl):QE X (.Call (.Attribute (.Tuple af x1 pos) "index" b8) [e] [] cN) (fun Y=>(L Y).bind fun ts=>if ts.length<=ee then(G Y).bind (u6 ts)else .bad):=⟨Wy hu ht.h he.h bQ e_⟩
end
section
variable {cN:Pos}{m:Str}{st:Stmt}{fd:FuncData}{k:Nat}
theorem Sx(D:MethAt X.K x m st ps a fd)(G:dw X.prog X.w X.K X.mg X.base lq k a fd ps (spT X.K h))(hr:cz k X.A)(ho:QE X o F)(ha:QA X (e::af) L){pl:Sem Bool}(bQ:aP (e::af)=true:=by rfl) (ht:eval (.Call (.Attribute o m b8) (e::af) [] pos) X.env=r6 pos b8 o m (e::af) X.env pl:=by rfl):QE X (.Call (.Attribute o m b8) (e::af) [] pos) (fun Y=>uL x m h (F Y) (L Y)):=⟨RY D G hr ho.h ha.h bQ ht⟩
theorem NJ(D:MethAt X.K x m st ps a fd)(G:dw X.prog X.w X.K X.mg X.base lq k a fd ps (spT X.K h))(hr:cz k X.A)(ho:QE X o F){pl:Sem Bool}(ht:eval (.Call (.Attribute o m b8) [] [] pos) X.env=r6 pos b8 o m [] X.env pl:=by rfl):QE X (.Call (.Attribute o m b8) [] [] pos) (fun Y=>uL x m h (F Y) (.ok [])):=⟨Nr D G hr ho.h ht⟩
end
section
variable {p2:Pos}
theorem Sy(hs:X.mg "sorted"=none)(hm:X.mg "set"=none)(hl:QE X e F)(hc:X.calm=true:=by rfl) (hg:Gl X "sorted":=by rfl) (Kb:Gl X "set":=by rfl) (bQ:aP [e]=true:=by rfl):QE X (.Call (.Name "sorted" p) [.Call (.Name "set" p2) [e] [] b8] [] pos) (fun Y=>(F Y).bind oV):=⟨Si hs hm hl.h hc hg Kb bQ⟩
end
theorem Sz(T:Aj X.K X.w X.mg x ps)(hg:Gl X x:=by rfl) (eM:Db x:=by decide):QI X tg (.Name x p) (fun _=>.ok (ps.map .str)):=⟨Sj T hg eM⟩
section
variable {P:bf->Rs Bool}{GZ:bf->Ab->Rz Tr}
theorem av(h:QE X e F):ZE X e (fun Y A=>fQ (F Y) A):=⟨Rq h.h⟩
theorem aI(h:QE X e F):ZE X e (fun Y A=>q_ (F (cQ A Y)) A):=⟨Rr h.h⟩
theorem bK(h:QT X e P):ZT X e (fun Y A=>fQ (P (cQ A Y)) A):=⟨Na h.h⟩
theorem fH(h:NE X e F):ZE X e (fun Y A=>uZ (F (cQ A Y)) A):=⟨VO h.h⟩
end
section
variable {b c:Expr}{G G':bf->Ab->Rz Out}{P:bf->Ab->Rz Bool}{st:Stmt}{Vn:List Stmt}
theorem cM:ZB X [] (fun Y A=>.ok (.nx Y) A):=⟨VP⟩
theorem aJ(h1:ZS X st G)(h2:ZB X ac G'):ZB X (st::ac) (fun Y A=>DT (G Y A) G'):=⟨Rt h1.h h2.h⟩
theorem bo(h1:ZS X st G):ZB X [st] G:=⟨VQ h1.h⟩
theorem uR:ZE X e (fun _ _=>.bad):=⟨VR⟩
theorem gA{i:Nat}(he:ZE X e ah)(hN:X.N.Nodup:=by assumption) (hi:X.N[i]?=some x:=by rfl) (hx:Loc X.env.scope x:=by first|exact Or.inl rfl|exact Or.inr rfl) (hs:qP e=false:=by rfl) (hf:ye X x:=by first|exact .inl rfl|exact .inr rfl|assumption):ZS X (.Assign [.Name x p] e pos) (fun Y A=>zZ i (ah Y A) Y):=⟨VS he.h hN hi hx hs hf⟩
theorem dR(he:ZE X e ah):ZS X (.Return (some e) pos) (fun Y A=>Ju (ah Y A)):=⟨VT he.h⟩
theorem SA:ZS X (.Return none pos) (fun _ A=>.ok (.ret .bO) A):=⟨Rv⟩
theorem b_(he:ZE X e ah)(hs:qP e=false:=by rfl):ZS X (.Expr e pos) (fun Y A=>qe (ah Y A) Y):=⟨Rw he.h hs⟩
theorem eK{ns:List Stmt}(hc:ZT X c P)(h1:ZB X ac G)(h2:ZB X ns G'):ZS X (.If c ac ns pos) (fun Y A=>Yx (P Y A) (G Y) (G' Y)):=⟨Z6 hc.h h1.h h2.h⟩
theorem Pm{T:nD}(hg:QG X tg T)(hT:js T)(he:ZE X e ah)(hs:swapsWithSole [tg] e pos.line X.env=pure false:=by rfl) (hw:swappedStores [tg] e X.env=pure none:=by rfl) (h1:(assignEach [tg] X.env).map (·.2)=[assign tg X.env]:=by rfl):ZS X (.Assign [tg] e pos) (fun Y A=>Jv T (ah Y A) Y):=⟨VU hg.h hT he.h hs hw h1⟩
theorem Cz{T:nD}(hi:QI X tg e L)(hg:QG X tg T)(hT:js T)(hb:ZB X ac G)(hp:PassesOwn (model X.prog X.w) X.A X.env X.xe:=by first|exact rS|exact PassesOwn.leaving) (hc:X.calm=true:=by rfl) (hs:isSet e=false:=by rfl):ZS X (.For tg e ac [] pos) (fun Y A=>Jw T G (fQ (L Y) A) Y):=⟨VW hi.h hg.h hT hb.h hp hc hs⟩
end
section
variable {id:String}
theorem bb:ZL X [] (fun _ A=>.ok [] A):=⟨Jx⟩
theorem ax(h1:ZE X e ah)(hr:ZL X af ag)(hs:isStar e=false:=by rfl):ZL X (e::af) (fun Y A=>FA (ah Y A) (ag Y)):=⟨FC h1.h hr.h hs⟩
end
section
variable {id:String}{r:V->List V->Hp->VK->Prop}{h:Nat->List Tr->Ab->Rz Tr}
theorem zo(slot:Slot "list" x id)(Mq:typeOf (.builtin id)=pure (.type "method_descriptor"))(hm:Zn X id r)(hz:Z7 X r h)(ho:ZE X o ah)(ha:ZL X (e::af) ag)(pa:PlainAttrs "list":=by exact rh) (oB:isCall o=false:=by rfl) (bQ:aP (e::af)=true:=by rfl) (hn:(e::af).length<30:=by decide) (e_:(b8.endLine==p.line)=true:=by rfl):ZE X (.Call (.Attribute o x b8) (e::af) [] p) (fun Y A=>Z8 h (ah Y A) (ag Y)):=⟨VY slot Mq hm hz ho.h ha.h pa oB bQ hn e_⟩
end
section
variable {A:bf->Rs Bool}
theorem zp(h:QA X af L):NE X (.List af pos) (fun Y=>BC (L Y)):=⟨VZ h.h⟩
theorem kU:NE X (.Dict [] [] pos) (fun _=>.ok (.bw [])):=⟨RD⟩
end
section
variable {a b:Expr}{es:List Expr}{A:bf->Rs Bool}{scope:Scope}{N':List Str}{ix:List (Option Nat)}{c0:Expr}{T:nD}{W:bf->Rs (List Tr)}
theorem SD(Lk:fP X N' ix scope)(hi:QI X tg c0 W)(kl:Cu X scope N' tg o af T A F)(hT:js T)(hc:X.calm=true:=by rfl) (hs:isSet c0=false:=by rfl):NE X (.ListComp o [⟨tg,c0,af,0⟩] scope pos) (fun Y=>uF ix T A F (W Y) Y):=⟨Z_ Lk hi.h kl.to hT hc hs⟩
theorem NK{i:Nat}(Lk:fP X N' ix scope)(hit:QI X tg c0 W)(kl:Cu X scope N' tg o af T A F)(hT:js T)(hN:X.N.Nodup:=by assumption) (hc:X.calm=true:=by rfl) (hi:X.N[i]?=some x:=by rfl) (hx:Loc X.env.scope x:=by first|exact Or.inl rfl|exact Or.inr rfl) (GH:swapsWith (.ListComp o [⟨tg,c0,af,0⟩] scope pos) (some (.Name x p)) b8.line X.env=pure true:=by rfl) (hs:isSet c0=false:=by rfl) (hf:ye X x:=by first|exact .inl rfl|exact .inr rfl|assumption):ZS X (.Assign [.Name x p] (.ListComp o [⟨tg,c0,af,0⟩] scope pos) b8) (fun Y A'=>zZ i (uZ (uF ix T A F (W (cQ A' Y)) (cQ A' Y)) A') Y):=⟨Nc Lk hit.h kl.to hT hN hc hi hx GH hs hf⟩
theorem xA{T:String}(hc:fG X (.type T) (rF X h))(hm:X.mg x=none)(ha:QA X (e::es) L)(hv:bootBuiltins x=some (.type T):=by rfl) (hg:Gl X x:=by rfl) (hn:x≠"__name__":=by decide) (eM:Db x:=by decide) (bQ:aP (e::es)=true:=by rfl):NE X (.Call (.Name x p) (e::es) [] pos) (fun Y=>cP h (L Y)):=⟨Jz hc hm ha.h hv hg hn eM bQ⟩
end
section
variable {h:List Tr->Ab->Rz Tr}{st:Stmt}{fd:FuncData}{k:Nat}
theorem Xi(D:yL X.K X.mg x st ps a fd)(G:dw X.prog X.w X.K X.mg X.base (ud X.prog X.w) k a fd ps (uM X.K h))(hr:cz k X.A)(ha:ZL X (e::af) ag)(hx:X.ex=[]:=by rfl) (hg:Gl X x:=by rfl) (eM:Db x:=by decide) (bQ:aP (e::af)=true:=by rfl):ZE X (.Call (.Name x p) (e::af) [] pos) (fun Y A=>(ag Y A).bind h):=⟨WB D G hr ha.h hx hg eM bQ⟩
end
section
variable {h:List Tr->Ab->Rz Tr}{st:Stmt}{fd:FuncData}{k:Nat}{m:Str}
theorem SE(D:MethAt X.K x m st ps a fd)(G:dw X.prog X.w X.K X.mg X.base (ud X.prog X.w) k a fd ps (uM X.K h))(hr:cz k X.A)(ho:ZE X o ah)(ha:ZL X (e::af) ag){pl:Sem Bool}(hx:X.ex=[]:=by rfl) (bQ:aP (e::af)=true:=by rfl) (ht:eval (.Call (.Attribute o m b8) (e::af) [] pos) X.env=r6 pos b8 o m (e::af) X.env pl:=by rfl):ZE X (.Call (.Attribute o m b8) (e::af) [] pos) (fun Y A=>qi x m h (ah Y A) (ag Y)):=⟨RZ D G hr ho.h ha.h hx bQ ht⟩
theorem NL(D:MethAt X.K x m st ps a fd)(G:dw X.prog X.w X.K X.mg X.base (ud X.prog X.w) k a fd ps (uM X.K h))(hr:cz k X.A)(ho:ZE X o ah){pl:Sem Bool}(hx:X.ex=[]:=by rfl) (ht:eval (.Call (.Attribute o m b8) [] [] pos) X.env=r6 pos b8 o m [] X.env pl:=by rfl):ZE X (.Call (.Attribute o m b8) [] [] pos) (fun Y A=>qi x m h (ah Y A) fun A=>.ok [] A):=⟨Nu D G hr ho.h hx ht⟩
end
theorem iE(D:qj X.K X.mg x)(ha:ZL X (e::af) ag)(hx:X.ex=[]:=by rfl) (hc:X.calm=true:=by rfl) (hg:Gl X x:=by rfl) (eM:Db x:=by decide) (bQ:aP (e::af)=true:=by rfl):ZS X (.Raise (some (.Call (.Name x p) (e::af) [] b8)) none pos) (fun Y A=>D9 x (ag Y A)):=⟨Nw D ha.h hx hc hg eM bQ⟩
section
variable {G:bf->Ab->Rz Tr}
theorem cH(T:g7 X.K ps x)(he:QE X e F)(hb:attributeBase e x X.env (eval e X.env)=eval e X.env:=by first|exact fu rfl|rfl):QE X (.Attribute e x pos) (fun Y=>(F Y).bind (jg ps x)):=⟨R0 T he.h hb⟩
theorem mM(T:g7 X.K ps x)(he:ZE X e G)(hb:attributeBase e x X.env (eval e X.env)=eval e X.env:=by first|exact fu rfl|rfl):ZE X (.Attribute e x pos) (fun Y A=>u7 ps x (G Y A)):=⟨R3 T he.h hb⟩
theorem o7(T:g7 X.K ps x)(ho:ZE X o G)(hv:ZE X tg ah):ZS X (.Assign [.Attribute o x p] tg pos) (fun Y A=>WD ps x (ah Y A) (G Y) Y):=⟨WE T ho.h hv.h⟩
end
section
variable {b i:Expr}{G E:bf->Ab->Rz Tr}{h:Tr->Tr->Rs Tr}
theorem sU(hu:X.A.units+1<cLine)(h1:ZE X e ah)(h2:ZE X b G)(hs:sk b:=by exact fun _ _=>rfl):ZE X (.Subscript e b pos) (fun Y A=>Ny jf (ah Y A) (G Y)):=⟨aam hu h1.h h2.h hs⟩
theorem gO(hu:X.A.units+1<cLine)(ho:ZE X o ah)(hi:ZE X i G)(hv:ZE X tg E):ZS X (.Assign [.Subscript o i p] tg pos) (fun Y A=>R4 (E Y A) (ah Y) (G Y) Y):=⟨R5 hu ho.h hi.h hv.h⟩
end
section
variable {G E:bf->Ab->Rz Tr}
theorem Kr(ho:ZE X o ah)(he:ZE X e G)(hb:isCall o=false:=by rfl) (bQ:aP [e]=true:=by rfl) (hl:(b8.endLine==p.line)=true:=by rfl):ZE X (.Call (.Attribute o "pop" b8) [e] [] p) (fun Y A=>JY (ah Y A) (G Y)):=⟨R6 ho.h he.h hb bQ hl⟩
theorem SF(ho:ZE X o ah)(he:ZE X e G)(hf:ZE X tg E)(hb:isCall o=false:=by rfl) (bQ:aP [e,tg]=true:=by rfl) (hl:(b8.endLine==p.line)=true:=by rfl):ZE X (.Call (.Attribute o "pop" b8) [e,tg] [] p) (fun Y A=>J0 (ah Y A) (G Y) (E Y)):=⟨R8 ho.h he.h hf.h hb bQ hl⟩
end
section
variable {G E:bf->Ab->Rz Tr}{c:Str}{h:List Tr->Ab->Rz Tr}{fd:FuncData}{k:Nat}
theorem SG(D:xo X.K X.mg c ps a fd)(G:dw X.prog X.w X.K X.mg X.base (ud X.prog X.w) k a fd ps (uM X.K h))(hr:cz (k+1) X.A)(ha:ZL X (e::af) ag)(hx:X.ex=[]:=by rfl) (hg:Gl X c:=by rfl) (eM:Db c:=by decide) (bQ:aP (e::af)=true:=by rfl):ZE X (.Call (.Name c p) (e::af) [] pos) (fun Y A=>xn c h (ag Y A)):=⟨R9 D G hr ha.h hx hg eM bQ⟩
theorem NM(D:xo X.K X.mg c ps a fd)(G:dw X.prog X.w X.K X.mg X.base (ud X.prog X.w) k a fd ps (uM X.K h))(hr:cz (k+1) X.A)(hx:X.ex=[]:=by rfl) (hg:Gl X c:=by rfl) (eM:Db c:=by decide):ZE X (.Call (.Name c p) [] [] pos) (fun _ A=>xn c h (.ok [] A)):=⟨Nz D G hr hx hg eM⟩
end
section
variable {a b:Expr}{es:List Expr}{A:bf->Rs Bool}{scope:Scope}{N':List Str}{ix:List (Option Nat)}{T:nD}
theorem Ks{i:Nat}(Lk:fP X N' ix scope)(hit:QJ X tg o L)(kl:Cu X scope N' tg e af T A F)(hT:js T)(hN:X.N.Nodup:=by assumption) (hc:X.calm=true:=by rfl) (hi:X.N[i]?=some x:=by rfl) (hx:Loc X.env.scope x:=by first|exact Or.inl rfl|exact Or.inr rfl) (GH:swapsWith (.ListComp e [⟨tg,o,af,0⟩] scope pos) (some (.Name x p)) b8.line X.env=pure true:=by rfl) (hs:isSet o=false:=by rfl) (hf:ye X x:=by first|exact .inl rfl|exact .inr rfl|assumption):ZS X (.Assign [.Name x p] (.ListComp e [⟨tg,o,af,0⟩] scope pos) b8) (fun Y A'=>zZ i (uZ (uF ix T A F (L (cQ A' Y)) (cQ A' Y)) A') Y):=⟨J9 Lk hit.h kl.to hT hN hc hi hx GH hs hf⟩
end
section
variable {P:bf->Ab->Rz Bool}{n:Str}{hp:Pos}{oX:List Stmt}{xp:Stmt}{G G2:bf->Ab->Rz Out}
theorem Kt(h:ZE X e ah)(he:lQ e=true:=by rfl):ZT X e (fun Y A=>Sa (ah Y A)):=⟨Sb h.h he⟩
theorem Ku(h:ZT X e P):ZT X (.UnaryOp .Not e pos) (fun Y A=>Sd (P Y A)):=⟨eq_not h.h⟩
end
section
variable {P:bf->Ab->Rz Bool}{n:Str}{hp:Pos}{oX:List Stmt}{xp:Stmt}{G G2:bf->Ab->Rz Out}{st:Stmt}
theorem Kv:QE X e (fun _=>.bad):=⟨WR⟩
theorem Xj:QS X st (fun _=>.bad):=⟨WS⟩
end
section
variable {p2:Pos}{c:Str}{tab:List (Str×Bool)}{cv:V}
theorem kW(T:g8 X.K (.ref (clsAt X.K c)) tab)(hm:X.mg c=some (.ref (clsAt X.K c)))(hi:X.mg "isinstance"=none)(he:QE X e F)(hg:Gl X c:=by rfl) (Kb:Gl X "isinstance":=by rfl) (eM:Db c:=by decide) (bQ:aP [e,.Name c p2]=true:=by rfl):QE X (.Call (.Name "isinstance" p) [e,.Name c p2] [] pos) (fun Y=>(F Y).bind (Ho tab)):=⟨Sf T hm hi he.h hg Kb eM bQ⟩
theorem SH{n:String}(T:g8 X.K (.type n) tab)(hm:X.mg c=none)(hi:X.mg "isinstance"=none)(he:QE X e F)(hv:bootBuiltins c=some (.type n):=by rfl) (hg:Gl X c:=by rfl) (hn:c≠"__name__":=by decide) (Kb:Gl X "isinstance":=by rfl) (eM:Db c:=by decide) (bQ:aP [e,.Name c p2]=true:=by rfl):QE X (.Call (.Name "isinstance" p) [e,.Name c p2] [] pos) (fun Y=>(F Y).bind (Ho tab)):=⟨Sg T hm hi he.h hv hg hn Kb eM bQ⟩
end
section
variable {G:bf->Ab->Rz Tr}
theorem Xk(ho:ZE X o ah)(he:ZE X e G)(hb:isCall o=false:=by rfl) (bQ:aP [e]=true:=by rfl) (hl:(b8.endLine==p.line)=true:=by rfl):ZE X (.Call (.Attribute o "update" b8) [e] [] p) (fun Y A=>WU (ah Y A) (G Y)):=⟨WV ho.h he.h hb bQ hl⟩
end
section
variable {m:Str}{st:Stmt}{fd:FuncData}{k:Nat}{kp:Pos}{O:bf->Rs Tr}
theorem Kw(D:MethAt X.K x m st ps a fd)(Bn:ze X.K a)(G:dw X.prog X.w X.K X.mg X.base lq k a fd ps (spT X.K h))(hr:cz (k+1) X.A)(hm:X.mg "min"=none)(hl:QE X e F)(ho:QE X o O)(hc:X.calm=true:=by rfl) (hg:Gl X "min":=by rfl) (bQ:aP [e]=true:=by rfl) (hb:isCall o=false:=by rfl) (So:PySem.W.copiedNames.contains m=false:=by decide+kernel):QE X (.Call (.Name "min" p) [e] [⟨some "key",.Attribute o m b8,kp⟩] pos) (fun Y=>FQ x m h (F Y) (O Y)):=⟨Ki D Bn G hr hm hl.h ho.h hc hg bQ hb So⟩
end
section
variable {P1 P2:bf->Rs (Option Int)}{lo hi:Option Expr}
theorem uS(he:QE X e F)(hl:QO X lo P1)(hu:QO X hi P2):QE X (.Subscript e (.Slice lo hi none p) pos) (fun Y=>An (F Y) (P1 Y) (P2 Y)):=⟨W7 he.h hl.h hu.h⟩
end
section
variable {cN:Pos}
theorem Kx(hs:X.mg "sorted"=none)(ho:QE X o F)(hc:X.calm=true:=by rfl) (hg:Gl X "sorted":=by rfl) (hb:isCall o=false:=by rfl) (e_:(b8.endLine==cN.line)=true:=by rfl):QE X (.Call (.Name "sorted" p) [.Call (.Attribute o "items" b8) [] [] cN] [] pos) (fun Y=>(F Y).bind vp):=⟨Km hs ho.h hc hg hb e_⟩
end
theorem Aq{keys:List (Option Expr)}{P:bf->Rs (List (Tr×Tr))}(hk:QE X e F)(hv:QE X o G)(hr:QP X pos keys af P):QP X pos (some e::keys) (o::af) fun Y=>OU (F Y) (G Y) (P Y):=M_ hk.h hv.h hr
theorem yf.okQ {base:Heap}{qual:Str}{st:Stmt}{f:Addr}{fd:FuncData}{N:List Str}{k:Nat}(Fn:yf K x qual st f fd)(S:gc N ps (aW st))(len:∀ts t,h ts=.ok t->ts.length=ps.length)
  (jV:∀(eY:Value) (A:Around) (outer:List Env) (s:Shared) (H:Hp) (E:XK),cz k (A.deeper (envOfC qual (aW st) s.heap.objs.size f eY))->
   ∃G,QB (nz lq P w K mg base N qual (aW st) f eY A outer s H E).HZ (eW st) G/\∀ts t,h ts=.ok t->cX (G (startT N.length ts))=.ok t):dw P w K mg base lq (k+1) f fd ps (spT K h):=
 Fn.okT S len fun eY A outer s H E hr=>let⟨G,h,q⟩:=jV eY A outer s H E hr;⟨G,h.h,q⟩
theorem yf.aar {base:Heap}{qual:Str}{st:Stmt}{f:Addr}{fd:FuncData}{N:List Str}{k:Nat}(Fn:yf K x qual st f fd)(S:gc N ps (aW st))(len:∀ts t,h ts=.ok t->ts.length=ps.length)
  (jV:∀(eY:Value) (A:Around) (outer:List Env) (s:Shared) (H:Hp) (E:XK),cz k (A.deeper (envOfC qual (aW st) s.heap.objs.size f eY))->
   ∃G,ZB (nz lq P w K mg base N qual (aW st) f eY A outer s H E).HZ (eW st) G/\∀ts t,h ts=.ok t->iO ts=true/\wZ (G (startT N.length ts) [])=.ok t):dw P w K mg base lq (k+1) f fd ps (spT K h):=
 Fn.okZ S len fun eY A outer s H E hr=>let⟨G,h,q⟩:=jV eY A outer s H E hr;⟨G,h.h,q⟩
theorem mO{G:bf->Ab->Rz Tr}{keys:List (Option Expr)}{P:bf->Ab->Rz (List (Tr×Tr))}(hk:ZE X e ah)(hv:ZE X o G)(hr:R' X pos keys af P):R' X pos (some e::keys) (o::af) fun Y A=>Pf (ah Y A) (G Y) (P Y):=J8 hk.h hv.h hr
theorem Ky{keys:List (Option Expr)}{P:bf->Ab->Rz (List (Tr×Tr))}(h:R' X pos keys af P)(tY:keys.all (·.isSome)=true:=by rfl) (hl:keys.length=af.length:=by rfl) (h0:keys.isEmpty=false:=by rfl) (My:keys.length<=15:=by decide):ZE X (.Dict keys af pos) (fun Y A=>WO (P Y) A):=⟨NC h tY hl h0 My⟩
structure JQ(X:Cx)(es:List Expr)(J:bf->Str->Rs Tr):Prop where
 h:PJ X es J
theorem qC:JQ X [] fun _ acc=>B9 acc:=⟨Wn⟩
theorem de{J:bf->Str->Rs Tr}(h:QE X e F)(hr:JQ X af J):JQ X (e::af) fun Y acc=>nc (F Y) (J Y) acc:=⟨RR h.h hr.h⟩
theorem kX{J:bf->Str->Rs Tr}(h:JQ X (e::o::af) J):QE X (.JoinedStr (e::o::af) pos) (fun Y=>J Y Str.empty):=⟨Nn h.h⟩
theorem NN{c n:Str}{oX:List Stmt}{xp:Stmt}{G G2:bf->Ab->Rz Out}(Tc:pO X.K X.mg c ps)(hb:∀pn E',ZB (X.jY pn E') ac G)(hs:∀pn e,ZB (X.oW pn e) (xp::oX) G2)(hN:X.N.Nodup)(hi:X.N[i]?=some n:=by rfl) (hl:X.env.scope.names.lookup n=some .local:=by rfl)
  (bQ:X.stack=X.env::X.outer:=by rfl) (hf:X.env.frame=some X.env.locals:=by rfl) (hx:X.ex=[]:=by rfl) (L9:ye X n:=by exact .inl rfl) (hg:Gl X c:=by rfl) (eM:Db c:=by decide):
  ZS X (.Try ac [.ExceptHandler (some (.Name c p)) (some n) (xp::oX) b8] [] [] pos) (fun Y A=>Ea X.N.length i ps (G Y A) G2):=⟨J5 Tc (fun pn E'=>(hb pn E').h) (fun pn e=>(hs pn e).h) hN hi hl bQ hf hx L9 hg eM⟩
theorem yf.aas {base:Heap}{qual:Str}{st:Stmt}{f:Addr}{fd:FuncData}{N:List Str}{k:Nat}{h:List Tr->Ab->Rz Tr}(Fn:yf K x qual st f fd)(S:gc N ps (aW st))(len:∀ts A,h ts A≠ .bad->ts.length=ps.length)
  (jV:∀(eY:Value) (A:Around) (outer:List Env) (s:Shared) (H:Hp) (E:XK),cz k (A.deeper (envOfC qual (aW st) s.heap.objs.size f eY))->
   ∃G,ZB (nz (ud P w) P w K mg base N qual (aW st) f eY A outer s H E) (eW st) G/\∀ts A,h ts A≠ .bad->h ts A=cj (G (startT N.length ts) A)):dw P w K mg base (ud P w) (k+1) f fd ps (uM K h):=
 Fn.okS S len fun eY A outer s H E hr=>let⟨G,h,q⟩:=jV eY A outer s H E hr;⟨G,h.h,q⟩
def Kz(K:Frag)(D:Addr):Bool:=decide (findIn K (.ref D) "__getattribute__"=some (some (.builtin "BaseException.__getattribute__")))&&(decide (findIn K (.ref D) "__getattr__"=some none)&&(decide (findIn K (.ref D) "__class__"=some (some (.builtin "object.__class__")))&&(decide (mroIn K D (.type "object")=some true)&&decide (mroIn K D (.type "BaseException")=some true))))
theorem NO{K:Frag}{D:Addr}(h:Kz K D=true):Ai K D:=by
 unfold Kz at h;rw[bp,bp,bp,bp]at h;exact⟨dE h.1,dE h.2.1,dE h.2.2.1,dE h.2.2.2.1,dE h.2.2.2.2⟩
def Xl(K:Frag)(u:Value)(tab:List (Str×Bool)):Bool:=tab.all fun p=>decide (kitOne K (.ref (clsAt K p.1)) u=some p.2)
def Xm(K:Frag)(xs:List Str):Bool:=xs.all fun x=>Kz K (clsAt K x)&&(clsIn K (clsAt K x)).isSome
theorem hZ{α:Type}{z:Str}:∀{l:List (Str×α)} {a:α},l.lookup z=some a->(z,a)∈l
 |[],_,h=>by cases h
 |(y,b)::l,a,h=>by
  rw[bX]at h;cases e:(z==y)with
  |true=>rw[e]at h;cases h;rw[eq_of_beq e];exact bM ..
  |false=>rw[e]at h;exact bF _ (hZ h)
theorem SI{K:Frag}{tab:List (Str×Bool)}{xs:List Str}(h:Xl K aa tab=true)(q:Xm K xs=true)(e:tab.map (·.1)=xs):g8 K aa tab:=⟨fun x b hx=>by
 have m:=hZ hx;have h1:=dE (cJ.mp h _ m);have mx:x∈xs:=by rw[<-e];exact fk m
 have h2:=cJ.mp q x mx;rw[bp]at h2;exact⟨h1,NO h2.1,h2.2⟩⟩
def Xn(K:Frag)(c:Str)(xs:List Str):Bool:=xs.all fun x=>decide (exmOne K (.ref (clsAt K x)) (.ref (clsAt K c))=some true)
theorem KA{K:Frag}{c:Str}{xs:List Str}(m:mg c=some (.ref (clsAt K c)))(h:Xn K c xs=true):pO K mg c xs:=⟨m,fun x hx=>dE (cJ.mp h x hx)⟩
theorem Xo{P:List Value->Prop}(h:P []):∀us:List Value,us.length=0->P us
 |[],_=>h
theorem Xp{P:List Value->Prop}(h:∀a us,us.length=i->P (a::us)):∀us:List Value,us.length=i+1->P us
 |a::us,e=>h a us (Nat.succ.inj e)
theorem Xq{P:List Value->Prop}(h:∀a,P [a]):∀us:List Value,us.length=1->P us:=Xp fun a=>Xo (P:=fun l=>P (a::l)) (h a)
theorem Xr{P:List Value->Prop}(h:∀a b,P [a,b]):∀us:List Value,us.length=2->P us:=Xp fun a=>Xq (P:=fun l=>P (a::l)) (h a)
theorem Xs{P:List Value->Prop}(h:∀a b c,P [a,b,c]):∀us:List Value,us.length=3->P us:=Xp fun a=>Xr (P:=fun l=>P (a::l)) (h a)
theorem Xt{P:List Value->Prop}(h:∀a b c d,P [a,b,c,d]):∀us:List Value,us.length=4->P us:=Xp fun a=>Xs (P:=fun l=>P (a::l)) (h a)
theorem YO{P:List Value->Prop}(h:∀a b c d e,P [a,b,c,d,e]):∀us:List Value,us.length=5->P us:=Xp fun a=>Xt (P:=fun l=>P (a::l)) (h a)
section
variable {K:Frag}{m f:Str}{C:Addr}
def NP(K:Frag)(C:Addr):Bool:=plainGet K C Str.empty&&(hasDictIn K C&&(plainOver K C&&decide (findIn K (.ref C) "__setattr__"=some (some (.builtin "object.__setattr__")))))
theorem KC(h:NP K C=true):Dt K C:=by
 unfold NP at h;rw[bp,bp,bp]at h;exact⟨h.1,h.2.1,h.2.2.1,dE h.2.2.2⟩
def aat(K:Frag)(C:Addr)(fs:List Str):Bool:=fs.all fun f=>decide (findIn K (.ref C) f=some none)
end
theorem DR.gk {K:Frag}{aM:List (Str×Tr)}{ep:Nat}(h:DR K w es kvs aM)(hm:mg x=some (.ref a))(hl:K.lookup a=some ⟨.type "dict",none,.dict es.toArray ep,#[]⟩) (hs:(a==sysModules)=false) (hn:(kvs.map (·.1)).Nodup) (hz:∀z∈kvs.map (·.1),z.length<=cw):Aj K w mg x (kvs.map (·.1)):=
 ⟨a,kvs,hm,⟨hs,_,_,_,hl,⟨rfl,rfl,rfl⟩,rfl,fun prog=>⟨fun e he=>h.keys prog e (by simpa using he),h.pairs prog,hn⟩⟩,rfl,hz⟩
structure Df where
 c:Option Str
 x:Str
 q:Str
 st:Stmt
 ps:List Str
def mtA(K:Frag)(c m:Str):Addr:=match findIn K (.ref (clsAt K c)) m with
 |some (some (.ref a))=>a
 |_=>0
def fdA(K:Frag)(a:Addr):FuncData:=match K.lookup a with
 |some ⟨_,_,.func d,_⟩=>d
 |_=>default
def isF(K:Frag)(a:Addr):Bool:=match K.lookup a with
 |some ⟨_,_,.func _,_⟩=>true
 |_=>false
theorem SJ{K:Frag}(h:isF K a=true):∃oc od IL,K.lookup a=some ⟨oc,od,.func (fdA K a),IL⟩:=by
 unfold isF at h;unfold fdA;split at h
 ·rename_i e;rw[e];exact⟨_,_,_,rfl⟩
 ·cases h
namespace Df
def adr(K:Frag)(d:Df):Addr:=match d.c with
 |none=>clsAt K d.x
 |some c=>mtA K c d.x
def fd(K:Frag)(d:Df):FuncData:=fdA K (d.adr K)
def re(d:Df)(f:FuncData):FuncData:=fnOf d.x d.q (vi d.st) (eW d.st) (aW d.st) .none f.kwdefaults f.doc f.pyModule f.annotations f.code f.closureTuple
def isAt(K:Frag)(d:Df):Bool:=match d.c with
 |none=>decide (nsIn K mainGlobals d.x=some (some (.ref (d.adr K))))
 |some c=>decide (findIn K (.ref (clsAt K c)) d.x=some (some (.ref (d.adr K))))&&(isFn K (.ref (d.adr K))&&NP K (clsAt K c))
def Pn(K:Frag)(d:Df):Bool:=isF K (d.adr K)&&(codeIn K (d.fd K).code d.q&&(keepIn K (.ref (d.adr K))&&d.isAt K))
structure Ok(K:Frag)(mg:Str->Option Value)(d:Df):Prop where
 fn:yf K d.x d.q d.st (d.adr K) (d.fd K)
 m0:d.c=none->mg d.x=some (.ref (d.adr K))
 m1:∀c,d.c=some c->Meth K (clsAt K c) d.x (d.adr K)/\Dt K (clsAt K c)
theorem of{K:Frag}{d:Df}{h:Heap}(X:K.In h)(G:h.Ns mainGlobals mg)(e:d.fd K=d.re (d.fd K))(k:d.Pn K=true):d.Ok K mg:=by
 unfold Pn at k;rw[bp,bp,bp]at k;obtain⟨k1,k2,k3,k4⟩:=k;obtain⟨oc,od,IL,l⟩:=SJ k1;refine⟨⟨⟨oc,od,_,_,_,_,_,_,IL,e,l,k2⟩,k3⟩,fun z=>?_,fun c z=>?_⟩<;>unfold isAt at k4<;>rw[z]at k4
 ·exact mg_of X G (dE k4)
 ·rw[bp,bp]at k4;exact⟨⟨dE k4.1,k4.2.1,k3⟩,KC k4.2.2⟩
end Df
theorem KD{K:Frag}{h:Heap}(X:K.In h)(G:h.Ns mainGlobals mg):∀{ds:List Df},ds.map (Df.fd K)=ds.map (fun d=>d.re (d.fd K))->ds.all (Df.Pn K)=true->∀d∈ds,d.Ok K mg
 |[],_,_,d,m=>nomatch m
 |a::ds,e,k,d,m=>by
  rw[gG,bp]at k;rw[ba,ba]at e;injection e with e1 e2
  rcases aV.mp m with rfl|m
  ·exact Df.of X G e1 k.1
  ·exact KD X G e2 k.2 d m
section
variable {K:Frag}{base:Heap}{d:Df}{N:List Str}{k:Nat}
structure xB(P:Program)(w:World)(K:Frag)(mg:Str->Option Value)(base:Heap)(CX:Bl)(i:Nat)(d:Df)(sp:Sp):Prop where
 ok:dw P w K mg base CX i (d.adr K) (d.fd K) d.ps sp
 bd:Binds K (d.fd K) d.ps []
 df:d.Ok K mg
abbrev YQ(d:Df):Prop:=∀(kV doc pm:Value) (an:Option Addr) (eY ct:Value) (us:List Value),us.length=d.ps.length->bindArgs (fnOf d.x d.q (vi d.st) (eW d.st) (aW d.st) .none kV doc pm an eY ct) ⟨us,[]⟩=pure (d.ps.zip us)
abbrev cxD(CX:Bl)(P:Program)(w:World)(K:Frag)(mg:Str->Option Value)(base:Heap)(N:List Str)(d:Df):=nz CX P w K mg base N d.q (aW d.st) (d.adr K)
abbrev KG(K:Frag)(d:Df)(k:Nat)(eY:Value)(A:Around)(s:Shared):Prop:=cz k (A.deeper (envOfC d.q (aW d.st) s.heap.objs.size (d.adr K) eY))
theorem gP(N:List Str){a b:Nat}{G:bf->Ab->Rz Out}(D:d.Ok K mg)(hb:N.Nodup->∀eY A outer s H E,KG K d k eY A s->ZB (cxD (ud P w) P w K mg base N d eY A outer s H E) (eW d.st) G)(S:gc N d.ps (aW d.st):=by exact⟨rfl,rfl,rfl,by decide+kernel,rfl,by decide+kernel,by decide+kernel⟩) (B:YQ d:=by exact fun _ _ _ _ _ _=>by first|exact Xo rfl|exact Xq fun _=>rfl|exact Xr fun _ _=>rfl|exact Xs fun _ _ _=>rfl|exact Xt fun _ _ _ _=>rfl|exact YO fun _ _ _ _ _=>rfl) (ha:d.ps.length=a:=by rfl) (hn:N.length=b:=by rfl):
  xB P w K mg base (ud P w) (k+1) d (uM K (eX a b G)):=by
 subst ha;subst hn;exact⟨yf.aas D.fn S (fun ts A e=>Cf e) fun eY A outer s H E hr=>⟨G,hb S.nd eY A outer s H E hr,fun ts A e=>Nt e⟩,D.fn.binds B,D⟩
theorem i_(N:List Str){a b:Nat}{G:bf->Rs Out}(D:d.Ok K mg)(hb:N.Nodup->∀eY A outer s H E,KG K d k eY A s->QB (cxD lq P w K mg base N d eY A outer s H E).HZ (eW d.st) G)(S:gc N d.ps (aW d.st):=by exact⟨rfl,rfl,rfl,by decide+kernel,rfl,by decide+kernel,by decide+kernel⟩) (B:YQ d:=by exact fun _ _ _ _ _ _=>by first|exact Xo rfl|exact Xq fun _=>rfl|exact Xr fun _ _=>rfl|exact Xs fun _ _ _=>rfl|exact Xt fun _ _ _ _=>rfl|exact YO fun _ _ _ _ _=>rfl) (ha:d.ps.length=a:=by rfl) (hn:N.length=b:=by rfl):
  xB P w K mg base lq (k+1) d (spT K (qd a b G)):=by
 subst ha;subst hn;exact⟨yf.okQ D.fn S (fun ts t e=>M8 e) fun eY A outer s H E hr=>⟨G,hb S.nd eY A outer s H E hr,fun ts t e=>Rg e⟩,D.fn.binds B,D⟩
theorem aau(N:List Str){a b:Nat}{G:bf->Ab->Rz Out}(D:d.Ok K mg)(hb:N.Nodup->∀eY A outer s H E,KG K d k eY A s->ZB (cxD lq P w K mg base N d eY A outer s H E).HZ (eW d.st) G)(S:gc N d.ps (aW d.st):=by exact⟨rfl,rfl,rfl,by decide+kernel,rfl,by decide+kernel,by decide+kernel⟩) (B:YQ d:=by exact fun _ _ _ _ _ _=>by first|exact Xo rfl|exact Xq fun _=>rfl|exact Xr fun _ _=>rfl|exact Xs fun _ _ _=>rfl|exact Xt fun _ _ _ _=>rfl|exact YO fun _ _ _ _ _=>rfl) (ha:d.ps.length=a:=by rfl) (hn:N.length=b:=by rfl):
  xB P w K mg base lq (k+1) d (spT K (BR a b G)):=by
 subst ha;subst hn;exact⟨yf.aar D.fn S (fun ts t e=>Jy e) fun eY A outer s H E hr=>⟨G,hb S.nd eY A outer s H E hr,fun ts t e=>Nb e⟩,D.fn.binds B,D⟩
theorem aav(D:d.Ok K mg)(B:YQ d:=by exact fun _ _ _ _ _ _=>by first|exact Xo rfl|exact Xq fun _=>rfl|exact Xr fun _ _=>rfl|exact Xs fun _ _ _=>rfl|exact Xt fun _ _ _ _=>rfl|exact YO fun _ _ _ _ _=>rfl):xB P w K mg base lq k d (spT K fun _=>.bad):=
 ⟨⟨fun vs H Q E ⟨_,ts,_,_,t,e,_⟩=>(nomatch e),fun A outer s H args us vs Q E _ _ _ _ ⟨_,ts,_,_,t,e,_⟩=>(nomatch e)⟩,D.fn.binds B,D⟩
theorem xB.toZ (C:xB P w K mg base lq i d (spT K h)):xB P w K mg base (ud P w) i d (uM K fun ts A=>fQ (h ts) A):=⟨C.ok.toZ,C.bd,C.df⟩
theorem xB.da {CX:Bl}{sp:Sp}(C:xB P w K mg base CX i d sp)(hc:d.c=none)(hx:d.x=x)(hq:d.q=x):yL K mg x d.st d.ps (d.adr K) (d.fd K):=
 ⟨by have f:=C.df.fn;rw[hx,hq]at f;exact f,C.bd,by have m:=C.df.m0 hc;rw[hx]at m;exact m⟩
theorem xB.ma {CX:Bl}{sp:Sp}{c m:Str}(C:xB P w K mg base CX i d sp)(hc:d.c=some c)(hx:d.x=m):MethAt K c m d.st d.ps (d.adr K) (d.fd K):=
 ⟨⟨d.q,by have f:=C.df.fn;rw[hx]at f;exact f⟩,C.bd,by have m:=(C.df.m1 c hc).1;rw[hx]at m;exact m,(C.df.m1 c hc).2⟩
structure Hz(K:Frag)(mg:Str->Option Value)(c:Str):Prop where
 m:makesIn K (clsAt K c)=true
 k:keepIn K (.ref (clsAt K c))=true
 g:mg c=some (.ref (clsAt K c))
theorem xB.mk' {CX:Bl}{sp:Sp}{c:Str}(C:xB P w K mg base CX i d sp)(M:Hz K mg c)(hc:d.c=some c)(hx:d.x="__init__"):xo K mg c d.ps (d.adr K) (d.fd K):=
 ⟨by have m:=(C.df.m1 c hc).1;rw[hx]at m;exact⟨M.m,m.at_,m.fn,M.k⟩,C.bd,M.g⟩
end
section
variable {d:Df}{k:Nat}{kp:Pos}{c m:Str}
section
variable {O:bf->Rs Tr}(C:xB X.prog X.w X.K X.mg X.base lq i d (spT X.K h))
include C
theorem dJ(hr:cz k X.A)(ha:QA X (e::af) L)(hn:i<=k:=by first|decide|omega) (hc:d.c=none:=by rfl) (hx:d.x=x:=by rfl) (hq:d.q=x:=by rfl) (hg:Gl X x:=by rfl) (eM:Db x:=by decide) (bQ:aP (e::af)=true:=by rfl):QE X (.Call (.Name x p) (e::af) [] pos) (fun Y=>cP h (L Y)):=
 Xb (C.da hc hx hq) (C.ok.mono hn) hr ha hg eM bQ
theorem ja(hr:cz k X.A)(ho:QE X o F)(ha:QA X (e::af) L)(hn:i<=k:=by first|decide|omega) (hc:d.c=some c:=by rfl) (hx:d.x=m:=by rfl) {pl:Sem Bool} (bQ:aP (e::af)=true:=by rfl) (ht:eval (.Call (.Attribute o m b8) (e::af) [] pos) X.env=r6 pos b8 o m (e::af) X.env pl:=by rfl):QE X (.Call (.Attribute o m b8) (e::af) [] pos) (fun Y=>uL c m h (F Y) (L Y)):=
 Sx (C.ma hc hx) (C.ok.mono hn) hr ho ha bQ ht
theorem pQ(hr:cz k X.A)(ho:QE X o F)(hn:i<=k:=by first|decide|omega) (hc:d.c=some c:=by rfl) (hx:d.x=m:=by rfl) {pl:Sem Bool} (ht:eval (.Call (.Attribute o m b8) [] [] pos) X.env=r6 pos b8 o m [] X.env pl:=by rfl):QE X (.Call (.Attribute o m b8) [] [] pos) (fun Y=>uL c m h (F Y) (.ok [])):=
 NJ (C.ma hc hx) (C.ok.mono hn) hr ho ht
theorem KH(Bn:ze X.K (d.adr X.K))(hr:cz (k+1) X.A)(hm:X.mg "min"=none)(hl:QE X tg F)(ho:QE X o O)(hn:i<=k:=by first|decide|omega) (hc:d.c=some c:=by rfl) (hx:d.x=m:=by rfl) (ca:X.calm=true:=by rfl) (hg:Gl X "min":=by rfl) (bQ:aP [tg]=true:=by rfl) (hb:isCall o=false:=by rfl) (So:PySem.W.copiedNames.contains m=false:=by decide+kernel):
  QE X (.Call (.Name "min" p) [tg] [⟨some "key",.Attribute o m b8,kp⟩] pos) (fun Y=>FQ c m h (F Y) (O Y)):=
 Kw (C.ma hc hx) Bn (C.ok.mono hn) hr hm hl ho ca hg bQ hb So
end
section
variable {F:bf->Ab->Rz Tr}{L:bf->Ab->Rz (List Tr)}{h:List Tr->Ab->Rz Tr}(C:xB X.prog X.w X.K X.mg X.base (ud X.prog X.w) i d (uM X.K h))
include C
theorem fR(hr:cz k X.A)(ha:ZL X (e::af) L)(hn:i<=k:=by first|decide|omega) (hc:d.c=none:=by rfl) (hx:d.x=x:=by rfl) (hq:d.q=x:=by rfl) (he:X.ex=[]:=by rfl) (hg:Gl X x:=by rfl) (eM:Db x:=by decide) (bQ:aP (e::af)=true:=by rfl):ZE X (.Call (.Name x p) (e::af) [] pos) (fun Y A=>(L Y A).bind h):=
 Xi (C.da hc hx hq) (C.ok.mono hn) hr ha he hg eM bQ
theorem dg(hr:cz k X.A)(ho:ZE X o F)(ha:ZL X (e::af) L)(hn:i<=k:=by first|decide|omega) (hc:d.c=some c:=by rfl) (hx:d.x=m:=by rfl) {pl:Sem Bool} (he:X.ex=[]:=by rfl) (bQ:aP (e::af)=true:=by rfl) (ht:eval (.Call (.Attribute o m b8) (e::af) [] pos) X.env=r6 pos b8 o m (e::af) X.env pl:=by rfl):ZE X (.Call (.Attribute o m b8) (e::af) [] pos) (fun Y A=>qi c m h (F Y A) (L Y)):=
 SE (C.ma hc hx) (C.ok.mono hn) hr ho ha he bQ ht
theorem Ar(hr:cz k X.A)(ho:ZE X o F)(hn:i<=k:=by first|decide|omega) (hc:d.c=some c:=by rfl) (hx:d.x=m:=by rfl) {pl:Sem Bool} (he:X.ex=[]:=by rfl) (ht:eval (.Call (.Attribute o m b8) [] [] pos) X.env=r6 pos b8 o m [] X.env pl:=by rfl):ZE X (.Call (.Attribute o m b8) [] [] pos) (fun Y A=>qi c m h (F Y A) fun A=>.ok [] A):=
 NL (C.ma hc hx) (C.ok.mono hn) hr ho he ht
theorem SK(M:Hz X.K X.mg c)(hr:cz (k+1) X.A)(ha:ZL X (e::af) L)(hn:i<=k:=by first|decide|omega) (hc:d.c=some c:=by rfl) (hx:d.x="__init__":=by rfl) (he:X.ex=[]:=by rfl) (hg:Gl X c:=by rfl) (eM:Db c:=by decide) (bQ:aP (e::af)=true:=by rfl):ZE X (.Call (.Name c p) (e::af) [] pos) (fun Y A=>xn c h (L Y A)):=
 SG (C.mk' M hc hx) (C.ok.mono hn) hr ha he hg eM bQ
theorem NQ(M:Hz X.K X.mg c)(hr:cz (k+1) X.A)(hn:i<=k:=by first|decide|omega) (hc:d.c=some c:=by rfl) (hx:d.x="__init__":=by rfl) (he:X.ex=[]:=by rfl) (hg:Gl X c:=by rfl) (eM:Db c:=by decide):ZE X (.Call (.Name c p) [] [] pos) (fun _ A=>xn c h (.ok [] A)):=
 NM (C.mk' M hc hx) (C.ok.mono hn) hr he hg eM
end
end
theorem SM(nn:Nat){c n:Str}{i:Nat}{oX:List Stmt}{xp:Stmt}{G G2:bf->Ab->Rz Out}(Tc:pO X.K X.mg c ps)(hb:∀pn E',ZB (X.jY pn E') ac G)(hs:∀pn e,ZB (X.oW pn e) (xp::oX) G2)(hN:X.N.Nodup)(hi:X.N[i]?=some n:=by rfl) (hl:X.env.scope.names.lookup n=some .local:=by rfl)
  (bQ:X.stack=X.env::X.outer:=by rfl) (hf:X.env.frame=some X.env.locals:=by rfl) (hx:X.ex=[]:=by rfl) (L9:ye X n:=by exact .inl rfl) (hg:Gl X c:=by rfl) (hnn:X.N.length=nn:=by rfl) (eM:Db c:=by decide):
  ZS X (.Try ac [.ExceptHandler (some (.Name c p)) (some n) (xp::oX) b8] [] [] pos) (fun Y A=>Ea nn i ps (G Y A) G2):=by
 subst hnn;exact NN Tc hb hs hN hi hl bQ hf hx L9 hg eM
section
variable {A A':Ab}{n:Nat}{Y:bf}{t:Tr}
theorem KI:aw n A (.tup ts)=.tup ts:=by cases n<;>rfl
theorem qX{z:Str}:aw n A (.str z)=.str z:=by cases n<;>rfl
theorem KJ{z:Int}:aw n A (.int z)=.int z:=by cases n<;>rfl
theorem KL{z:Bool}:aw n A (.bl z)=.bl z:=by cases n<;>rfl
theorem SN:aw n A .bO=.bO:=by cases n<;>rfl
theorem SO{ns:List Int}:aw n A (.uC ns)=.uC ns:=by cases n<;>rfl
theorem fM(h:A[i]?=some (.ins x aM)):aw (n+1) A (.at i)=.ob x (aM.map fun p=>(p.1,aw n A p.2)):=by simp only[aw,h]
theorem kY(h:A[i]?=some (.lst ts)):aw (n+1) A (.at i)=.lst (ts.map (aw n A)):=by simp only[aw,h]
theorem fg{aM:List (Key×Tr)}(h:A[i]?=some (.bw aM)):aw (n+1) A (.at i)=.bw (aM.map fun p=>(p.1,aw n A p.2)):=by simp only[aw,h]
def jh(ts:List Tr):Prop:=∀t∈ts,∃us,t=.tup us
theorem vq(h:jh ts):ts.map (aw n A)=ts:=by
 conv=>rhs;rw[<-jT ts]
 exact fY fun t ht=>by obtain⟨us,rfl⟩:=h t ht;exact KI
def fI(aM:List (Key×Tr)):Prop:=∀p∈aM,∀n A,aw n A p.2=p.2
theorem gQ{aM:List (Key×Tr)}(h:fI aM):(aM.map fun p=>(p.1,aw n A p.2))=aM:=by
 conv=>rhs;rw[<-jT aM]
 exact fY fun p hp=>by rw[h p hp];rfl
structure Ext(A A':Ab)(pins:List (Nat×Ao)):Prop where
 le:A.length<=A'.length
 at':∀k o,A[k]?=some o->A'[k]?=some ((pins.lookup k).getD o)
theorem Ext.refl:Ext A A []:=⟨aQ _,fun k o e=>e⟩
theorem Ext.trans {A2:Ab}{pins V:List (Nat×Ao)}(a:Ext A A' pins)(b:Ext A' A2 V):Ext A A2 (V++pins):=⟨bP a.le b.le,fun k o e=>by
 rw[b.at' k _ (a.at' k o e),List.lookup_append];cases V.lookup k<;>rfl⟩
theorem Ext.put {o o':Ao}(h:A[i]?=some o'):Ext A (A.set i o) [(i,o)]:=⟨by rw[jP];exact aQ _,fun k x e=>by
 by_cases hk:k=i
 ·subst hk;rw[nG (fi.mp e).1];simp only[List.lookup,bB,Option.getD]
 ·rw[lr (Ne.symm hk),e];have:(k==i)=false:=by simpa using hk
  simp only[List.lookup,this,Option.getD]⟩
theorem Ext.push {o:Ao}:Ext A (A++[o]) []:=⟨by simp,fun k x e=>by rw[nE (fi.mp e).1,e];rfl⟩
theorem mP{o:Ao}:(A++[o])[A.length]?=some o:=by simp
end
section
variable {α β:Type}{A:Ab}{Y:bf}{x y t u:Tr}{c:Tr}{a:α}
theorem cB:(∀(a:α) (f:α->Rs β),(Rs.ok a).bind f=f a)/\(∀(a:α) (A:Ab) (f:α->Ab->Rz β),(Rz.ok a A).bind f=f a A)/\(∀(c:Tr) (A:Ab) (f:α->Ab->Rz β),(Rz.exc c A:Rz α).bind f=.exc c A):=⟨fun _ _=>rfl,fun _ _ _=>rfl,fun _ _ _=>rfl⟩
theorem gE(a:α)(A:Ab):fQ (.ok a) A=.ok a A:=rfl
theorem ev:(∀Y A G,DT (.ok (.nx Y) A) G=G Y A)/\(∀t A G,DT (.ok (.ret t) A) G=.ok (.ret t) A)/\(∀c A G,DT (.exc c A) G=.exc c A)
  /\(∀i t A Y,zZ i (.ok t A) Y=.ok (.nx (Y.set i (.sh t))) A)/\(∀i c A Y,zZ i (.exc c A) Y=.exc c A)
  /\(∀t A Y,qe (.ok t A) Y=.ok (.nx Y) A)/\(∀c A Y,qe (.exc c A) Y=.exc c A)/\(∀t A,Ju (.ok t A)=.ok (.ret t) A)/\(∀c A,Ju (.exc c A)=.exc c A)
  /\(∀Y A,cj (.ok (.nx Y) A)=.ok .bO A)/\(∀t A,cj (.ok (.ret t) A)=.ok t A)/\(∀c A,cj (.exc c A)=.exc c A)
  /\(∀x A l,FA (.ok x A) l=(l A).bind fun xs A=>.ok (x::xs) A)/\(∀x l,wO (.ok x) l=l.bind fun xs=>.ok (x::xs))
  /\(∀h x y,Je h (.ok x) (.ok y)=h x y)/\(∀h l,cP h (.ok l)=h l)/\(∀b,Yt (.ok (.bl b))=.ok b)
  /\(∀A a b,Yx (.ok true A) a b=a A)/\(∀A a b,Yx (.ok false A) a b=b A)/\(∀a b,TR (.ok true) a b=a)/\(∀a b,TR (.ok false) a b=b)
  /\(∀c Y n,wL (c::Y) (n+1)=wL Y n)/\(∀t Y,wL (.sh t::Y) 0=.ok t)/\(∀A t Y,cQ A (.sh t::Y)=.sh (aw 5 A t)::cQ A Y)/\(∀A Y,cQ A (.no::Y)=.no::cQ A Y)/\(∀A,cQ A []=[])
  /\(zT (.ok [])=.ok (.tup []))/\(∀a,zT (.ok [a])=.ok (.tup [a]))/\(∀a b,zT (.ok [a,b])=.ok (.tup [a,b]))/\(∀a b c,zT (.ok [a,b,c])=.ok (.tup [a,b,c]))/\(∀a b c d,zT (.ok [a,b,c,d])=.ok (.tup [a,b,c,d]))/\(∀a b c d e,zT (.ok [a,b,c,d,e])=.ok (.tup [a,b,c,d,e]))
  /\(∀ts,zc [.lst ts]=.ok (.int ts.length))/\(∀ts,zc [.tup ts]=.ok (.int ts.length))/\(∀ts,zc [.bw ts]=.ok (.int ts.length))
  /\(∀i j,yp (.int i) (.int j)=.ok (.int (i+j)))/\(∀x t A,D9 x (.ok [t] A)=.exc (.str x) A)/\(∀i,Rf (.int i)=.ok (.int (-i)))
  /\(∀i A,q_ (.ok (.int i)) A=.ok (.int i) A)/\(∀z A,q_ (.ok (.str z)) A=.ok (.str z) A)/\(∀b A,q_ (.ok (.bl b)) A=.ok (.bl b) A)/\(∀A,q_ (.ok .bO) A=.ok .bO A)/\(∀i A,q_ (.ok (.at i)) A=.ok (.at i) A)
  /\(∀b,GL (.ok true) b=b)/\(∀b,GL (.ok false) b=.ok false)/\(∀b,Vf (.ok true) b=.ok true)/\(∀b,Vf (.ok false) b=b)/\(∀b,GK (.ok b)=.ok (!b))/\(∀a b,Jf (.ok true) a b=a)/\(∀a b,Jf (.ok false) a b=b)
  /\(∀z aM,GV (.str z) (.bw aM)=.ok (.bl (dS aM (.inr z)).isSome))/\(∀z aM,MY (.str z) (.bw aM)=.ok (.bl (!(dS aM (.inr z)).isSome)))/\(∀z,Nm (.str z)=.ok (.str z))/\(∀z y,ZN (.str z) (.str y)=.ok (.bl (z==y)))/\(∀i j,ZN (.int i) (.int j)=.ok (.bl (i==j)))/\(∀i j,ZQ (.int i) (.int j)=.ok (.bl (decide (j<i))))
  /\(∀Y,cX (.ok (.nx Y))=.ok .bO)/\(∀t,cX (.ok (.ret t))=.ok t)/\(∀t,Ji (.ok t)=.ok (.ret t))/\(∀Y G,BD (.ok (.nx Y)) G=G Y)/\(∀t G,BD (.ok (.ret t)) G=.ok (.ret t))/\(∀i t Y,Jh i (.ok t) Y=.ok (.nx (Y.set i (.sh t)))):=by
 refine⟨?_,?_,?_,?_,?_,?_,?_,?_,?_,?_,?_,?_,?_,?_,?_,?_,?_,?_,?_,?_,?_,?_,?_,?_,?_,?_,?_,?_,?_,?_,?_,?_,?_,?_,?_,?_,?_,?_,?_,?_,?_,?_,?_,?_,?_,?_,?_,?_,?_,?_,?_,?_,?_,?_,?_,?_,?_,?_,?_,?_,?_,?_⟩<;>intros<;>rfl
theorem g0:(∀n A ts,aw n A (.tup ts)=.tup ts)/\(∀n A z,aw n A (.str z)=.str z)/\(∀n A i,aw n A (.int i)=.int i)/\(∀n A b,aw n A (.bl b)=.bl b)/\(∀n A,aw n A .bO=.bO)/\(∀n A ns,aw n A (.uC ns)=.uC ns):=⟨fun _ _ _=>KI,fun _ _ _=>qX,fun _ _ _=>KJ,fun _ _ _=>KL,fun _ _=>SN,fun _ _ _=>SO⟩
variable {z:Str}{aM:List (Key×Tr)}
theorem Em{F:Nat->List Tr->Ab->Rz Tr}{l:Ab->Rz (List Tr)}(h:A[i]?=some (.lst ts)):Z8 F (.ok (.at i) A) l=(l A).bind fun us A=>F i us A:=by
 show(if VX A i=true then(l A).bind fun us A=>F i us A else .bad)=_;exact au (by unfold VX;rw[h])
theorem En(h:A[i]?=some (.lst ts))(hl:ts.length<ee):RC i [t] A=.ok .bO (A.set i (.lst (ts++[t]))):=by
 show(match A[i]? with|some (.lst ts)=>if ts.length<ee then Rz.ok Tr.bO (A.set i (.lst (ts++[t])))else .bad|_=>.bad)=_;rw[h];exact au hl
def putD(A:Ab)(t tk tv:Tr)(Y:bf):Rz Out:=match Ci A t tk tv with
 |some A'=>.ok (.nx Y) A'
 |none=>.bad
theorem qY{o k:Ab->Rz Tr}:R4 (.ok t A) o k Y=(o A).bind fun u A=>(k A).bind fun tk A=>putD A u tk t Y:=rfl
theorem o8(h:A[i]?=some (.bw aM))(hl:aM.length<ee):putD A (.at i) (.str z) t Y=.ok (.nx Y) (A.set i (.bw (kP aM (.inr z) t))):=by
 have:Ci A (.at i) (.str z) t=some (A.set i (.bw (kP aM (.inr z) t))):=by
  show(match A[i]? with|some (.bw aM)=>if aM.length<ee then some (A.set i (.bw (kP aM (.inr z) t)))else none|_=>none)=_;rw[h];exact au hl
 unfold putD;rw[this]
def FW(i:Nat)(tk:Tr)(A:Ab):Rz Tr:=match jt tk with
 |some key=>if lW A i=true then match dS (nA A i) key with
  |some v=>.ok v (A.set i (.bw (gM (nA A i) key)))
  |none=>.bad
  else .bad
 |none=>.bad
theorem FX{k:Ab->Rz Tr}(h:A[i]?=some (.bw aM)):JY (.ok (.at i) A) k=(k A).bind fun tk A=>FW i tk A:=by
 have e:lW A i=true:=by unfold lW;rw[h]
 show(if lW A i=true then(k A).bind fun tk A=>FW i tk A else .bad)=_;exact au e
theorem FY{v:Tr}(h:A[i]?=some (.bw aM))(hv:dS aM (.inr z)=some v):FW i (.str z) A=.ok v (A.set i (.bw (gM aM (.inr z)))):=by
 have e:lW A i=true:=by unfold lW;rw[h]
 have g:nA A i=aM:=by unfold nA;rw[h]
 unfold FW;simp only[e,bT,jt,g,hv]
def FZ(x:Ab->Rz Tr)(i:Nat)(tk:Tr)(A:Ab):Rz Tr:=match jt tk with
 |some key=>(x A).bind fun tx A=>if lW A i=true then match dS (nA A i) key with
  |some v=>.ok v (A.set i (.bw (gM (nA A i) key)))
  |none=>.ok tx A
  else .bad
 |none=>.bad
theorem NR{k x:Ab->Rz Tr}(h:A[i]?=some (.bw aM)):J0 (.ok (.at i) A) k x=(k A).bind fun tk A=>FZ x i tk A:=by
 have e:lW A i=true:=by unfold lW;rw[h]
 show(if lW A i=true then(k A).bind fun tk A=>FZ x i tk A else .bad)=_;exact au e
theorem HC(hv:dS aM (.inr z)=none):gM aM (.inr z)=aM:=nM.mpr fun p hp=>by
 unfold dS at hv;rw[Option.map_eq_none_iff,List.find?_eq_none]at hv;simpa using hv p hp
theorem SQ{o:Ao}(h:A[i]?=some o):A.set i o=A:=by
 apply nP;intro k;by_cases hk:i=k
 ·subst hk;rw[nG (fi.mp h).1,h]
 ·rw[lr hk]
theorem NS{x:Ab->Rz Tr}(hx:x A=.ok .bO A)(h:A[i]?=some (.bw aM)):FZ x i (.str z) A=.ok ((dS aM (.inr z)).getD .bO) (A.set i (.bw (gM aM (.inr z)))):=by
 have e:lW A i=true:=by unfold lW;rw[h]
 have g:nA A i=aM:=by unfold nA;rw[h]
 unfold FZ;simp only[jt,hx,Rz.bind,e,bT,g];cases hv:dS aM (.inr z)with
 |some v=>rfl
 |none=>rw[HC hv,SQ h];rfl
theorem Eo{y:Str}(h:z.length<=1000)(hy:y.length<=1000):(fun acc=>nc (.ok (.str z)) (fun acc=>nc (.ok (.str y)) (fun acc=>B9 acc) acc) acc) Str.empty=.ok (.str (Str.empty++z++y)):=by
 have l1:(Str.empty++z).length<=cw:=by rw[nF];show 0+z.length<=1000000;omega
 have l2:(Str.empty++z++y).length<=cw:=by rw[nF,nF];show 0+z.length+y.length<=1000000;omega
 show(if(Str.empty++z).length<=cw then nc (.ok (.str y)) (fun acc=>B9 acc) (Str.empty++z)else .bad)=_;rw[au l1];show(if(Str.empty++z++y).length<=cw then B9 (Str.empty++z++y)else .bad)=_;rw[au l2];exact au l2
end
def roomF(i:Nat):List (Str×Tr):=[("log",.at (i+1)),("ranks",.at (i+2)),("entries",.at (i+3)),("chosen",.at (i+4)),("banned",.at (i+5)),("invited",.at (i+6)),("read_marks",.at (i+7)),("said_by_key",.at (i+8))]
structure aS(A:Ab)(i:Nat)(rows:List Tr)(rk en ch bn iv:List (Key×Tr)):Prop where
 o:A[i]?=some (.ins "Room" (roomF i))
 lg:A[i+1]?=some (.lst rows)
 rk:A[i+2]?=some (.bw rk)
 en:A[i+3]?=some (.bw en)
 ch:A[i+4]?=some (.bw ch)
 bn:A[i+5]?=some (.bw bn)
 iv:A[i+6]?=some (.bw iv)
structure du(rows:List Tr)(rk en ch bn iv:List (Key×Tr)):Prop where
 lg:jh rows
 rk:fI rk
 en:fI en
 ch:fI ch
 bn:fI bn
 iv:fI iv
section
variable {A:Ab}{rows:List Tr}{rk en ch bn iv:List (Key×Tr)}
theorem aS.aaw (h:aS A i rows rk en ch bn iv)(f:du rows rk en ch bn iv):jg ["Room"] "log" (aw 5 A (.at i))=.ok (.lst rows):=by
 rw[fM h.o];show Rs.ok (aw 4 A (.at (i+1)))=_;rw[kY h.lg,vq f.lg]
theorem aS.sV (h:aS A i rows rk en ch bn iv)(f:du rows rk en ch bn iv):jg ["Room"] "ranks" (aw 5 A (.at i))=.ok (.bw rk):=by
 rw[fM h.o];show Rs.ok (aw 4 A (.at (i+2)))=_;rw[fg h.rk,gQ f.rk]
theorem aS.aax (h:aS A i rows rk en ch bn iv)(f:du rows rk en ch bn iv):jg ["Room"] "entries" (aw 5 A (.at i))=.ok (.bw en):=by
 rw[fM h.o];show Rs.ok (aw 4 A (.at (i+3)))=_;rw[fg h.en,gQ f.en]
theorem aS.Xu (h:aS A i rows rk en ch bn iv)(f:du rows rk en ch bn iv):jg ["Room"] "chosen" (aw 5 A (.at i))=.ok (.bw ch):=by
 rw[fM h.o];show Rs.ok (aw 4 A (.at (i+4)))=_;rw[fg h.ch,gQ f.ch]
theorem aS.SR (h:aS A i rows rk en ch bn iv)(f:du rows rk en ch bn iv):jg ["Room"] "banned" (aw 5 A (.at i))=.ok (.bw bn):=by
 rw[fM h.o];show Rs.ok (aw 4 A (.at (i+5)))=_;rw[fg h.bn,gQ f.bn]
theorem aS.Xv (h:aS A i rows rk en ch bn iv)(f:du rows rk en ch bn iv):jg ["Room"] "invited" (aw 5 A (.at i))=.ok (.bw iv):=by
 rw[fM h.o];show Rs.ok (aw 4 A (.at (i+6)))=_;rw[fg h.iv,gQ f.iv]
theorem aS.aay (h:aS A i rows rk en ch bn iv):u7 ["Room"] "log" (.ok (.at i) A)=.ok (.at (i+1)) A:=by unfold u7 Rz.bind;simp only[h.o];rfl
theorem aS.SS (h:aS A i rows rk en ch bn iv):u7 ["Room"] "ranks" (.ok (.at i) A)=.ok (.at (i+2)) A:=by unfold u7 Rz.bind;simp only[h.o];rfl
theorem aS.aaz (h:aS A i rows rk en ch bn iv):u7 ["Room"] "entries" (.ok (.at i) A)=.ok (.at (i+3)) A:=by unfold u7 Rz.bind;simp only[h.o];rfl
theorem aS.aaA (h:aS A i rows rk en ch bn iv):u7 ["Room"] "invited" (.ok (.at i) A)=.ok (.at (i+6)) A:=by unfold u7 Rz.bind;simp only[h.o];rfl
theorem aS.call (h:aS A i rows rk en ch bn iv){m:Str}(hm:Dh (roomF i) m=true)(F:List Tr->Ab->Rz Tr)(l:Ab->Rz (List Tr)):qi "Room" m F (.ok (.at i) A) l=(l A).bind fun ts A=>F (.at i::ts) A:=by
 show(match A[i]? with|some (.ins x fs)=>if x="Room"/\Dh fs m=true then(l A).bind fun ts A=>F (.at i::ts) A else .bad|_=>.bad)=_;rw[h.o];exact au ⟨rfl,hm⟩
theorem Ext.same {A':Ab}{pins:List (Nat×Ao)}{k:Nat}{o:Ao}(e:Ext A A' pins)(h:A[k]?=some o)(n:pins.lookup k=none):A'[k]?=some o:=by rw[e.at' k o h,n];rfl
theorem Ext.new {A':Ab}{pins:List (Nat×Ao)}{k:Nat}{o o':Ao}(e:Ext A A' pins)(h:A[k]?=some o)(n:pins.lookup k=some o'):A'[k]?=some o':=by rw[e.at' k o h,n];rfl
variable {A':Ab}{bW:List Tr}{d':List (Key×Tr)}
theorem i7{j:Nat}{o:Ao}(h:i≠j):[(j,o)].lookup i=none:=by
 have:(i==j)=false:=by simpa using h
 simp only[List.lookup,this]
theorem NT{o:Ao}:[(i,o)].lookup i=some o:=by simp only[List.lookup,bB]
theorem aS.e_0 (h:aS A i rows rk en ch bn iv)(e:Ext A A' []):aS A' i rows rk en ch bn iv:=⟨e.same h.o rfl,e.same h.lg rfl,e.same h.rk rfl,e.same h.en rfl,e.same h.ch rfl,e.same h.bn rfl,e.same h.iv rfl⟩
theorem aS.SU (h:aS A i rows rk en ch bn iv)(e:Ext A A' [(i+1,.lst bW)]):aS A' i bW rk en ch bn iv:=⟨e.same h.o (i7 (by omega)),e.new h.lg NT,e.same h.rk (i7 (by omega)),e.same h.en (i7 (by omega)),e.same h.ch (i7 (by omega)),e.same h.bn (i7 (by omega)),e.same h.iv (i7 (by omega))⟩
theorem aS.SV (h:aS A i rows rk en ch bn iv)(e:Ext A A' [(i+2,.bw d')]):aS A' i rows d' en ch bn iv:=⟨e.same h.o (i7 (by omega)),e.same h.lg (i7 (by omega)),e.new h.rk NT,e.same h.en (i7 (by omega)),e.same h.ch (i7 (by omega)),e.same h.bn (i7 (by omega)),e.same h.iv (i7 (by omega))⟩
theorem aS.aaB (h:aS A i rows rk en ch bn iv)(e:Ext A A' [(i+3,.bw d')]):aS A' i rows rk d' ch bn iv:=⟨e.same h.o (i7 (by omega)),e.same h.lg (i7 (by omega)),e.same h.rk (i7 (by omega)),e.new h.en NT,e.same h.ch (i7 (by omega)),e.same h.bn (i7 (by omega)),e.same h.iv (i7 (by omega))⟩
theorem aS.aaC (h:aS A i rows rk en ch bn iv)(e:Ext A A' [(i+6,.bw d')]):aS A' i rows rk en ch bn d':=⟨e.same h.o (i7 (by omega)),e.same h.lg (i7 (by omega)),e.same h.rk (i7 (by omega)),e.same h.en (i7 (by omega)),e.same h.ch (i7 (by omega)),e.same h.bn (i7 (by omega)),e.new h.iv NT⟩
theorem l0(h:jh rows):jh (rows++[.tup ts]):=fun t ht=>by
 rcases cR.mp ht with ht|ht
 ·exact h t ht
 ·exact⟨ts,cE.mp ht⟩
theorem HD{aM:List (Key×Tr)}{k:Key}(h:fI aM):fI (gM aM k):=fun p hp=>h p ((fm.mp hp).1)
end
section
variable {α:Type}{f:α->Tr}{l:List (Str×α)}{z:Str}{a:α}
def dP(f:α->Tr)(l:List (Str×α)):List (Key×Tr):=l.map fun p=>(Sum.inr p.1,f p.2)
def eQ(l:List (Str×α))(z:Str)(a:α):List (Str×α):=if(l.any fun p=>decide (p.1=z))=true then l.map (fun p=>if p.1=z then(p.1,a)else p)else l++[(z,a)]
def jZ(l:List (Str×α))(z:Str):List (Str×α):=l.filter fun p=>decide (p.1≠z)
theorem F0:((Sum.inr x:Key)=.inr z)↔x=z:=⟨fun h=>by injection h,fun h=>by rw[h]⟩
theorem F1:(decide ((Sum.inr x:Key)=.inr z))=decide (x=z):=vZ.mpr F0
theorem dC:∀{l:List (Str×α)},dS (dP f l) (.inr z)=(l.lookup z).map f
 |[]=>rfl
 |(y,b)::l=>by
  have ih:=dC (l:=l);unfold dS at ih⊢;show Option.map _ (List.find? _ ((Sum.inr y,f b)::dP f l))=_;rw[jn,bX];by_cases h:y=z
  ·subst h;simp
  ·have h2:(z==y)=false:=by simpa using Ne.symm h
   simp only[F1,h,decide_false,h2];exact ih
theorem mQ:kP (dP f l) (.inr z) (f a)=dP f (eQ l z a):=by
 unfold kP eQ;have e:((dP f l).any fun kv=>decide (kv.1=(.inr z:Key)))=l.any fun p=>decide (p.1=z):=by
  unfold dP;rw[List.any_map];congr 1;funext p;exact F1
 rw[e];split
 ·unfold dP;rw[bY,bY];apply fY;intro p hp;by_cases h:p.1=z
  ·simp[h]
  ·simp[h]
 ·unfold dP;rw[jq];rfl
theorem As:gM (dP f l) (.inr z)=dP f (jZ l z):=by
 unfold gM jZ dP;rw[nY];congr 1;apply rJ;intro p hp;show decide ((Sum.inr p.1:Key)≠ .inr z)=decide (p.1≠z);simp[F0]
theorem kZ:(dP f l).length=l.length:=aK _
theorem sW(h:∀a n A,aw n A (f a)=f a):fI (dP f l):=fun p hp n A=>by
 obtain⟨q,_,rfl⟩:=bS.mp hp;exact h q.2 n A
theorem F2(h:∀p∈l,p.1.length<=cw):BS (dP f l)=.ok (l.map fun p=>.str p.1):=by
 unfold BS;rw[au]
 ·unfold dP;rw[bY];rfl
 ·unfold dP;rw[og,cJ];intro p hp;exact iz (h p hp)
end
section
variable {o:Tr}{k:Str->Int×Int}
theorem zq:∀{ns:List Str},(∀z∈ns,h [o,.str z]=.ok (.tup [.int (k z).1,.int (k z).2]))->keysOf h o (ns.map .str)=some (ns.map k)
 |[],_=>rfl
 |z::ns,q=>by
  show((keyOf (h [o,.str z])).bind fun k=>(keysOf h o (ns.map .str)).map fun ks=>k::ks)=_;rw[q z (bM ..),zq fun y hy=>q y (bF _ hy)]
  rfl
theorem um{kf:Nat->Int×Int}:∀j,cD kf j<=j
 |0=>aQ _
 |j+1=>by
  unfold cD;split
  ·exact aQ _
  ·exact Nat.le_succ_of_le (um j)
theorem sX{kf:Nat->Int×Int}:∀j,(∀a b,a<b->b<=j->(kf a).2<(kf b).2)->(∀a,a<=j->(kf (cD kf j)).1<=(kf a).1)/\(∀a,a<cD kf j->(kf (cD kf j)).1<(kf a).1)
 |0,_=>⟨fun a ha=>by cases Nat.le_zero.mp ha;exact Int.le_refl _,fun a ha=>absurd ha (v7 _)⟩
 |j+1,hk=>by
  obtain⟨h1,h2⟩:=sX (kf:=kf) j fun a b DM hb=>hk a b DM (Nat.le_succ_of_le hb);have hb:=um (kf:=kf) j;have gn:=hk (cD kf j) (j+1) (Nat.lt_succ_of_le hb) (aQ _);have e:i9 (kf (j+1)) (kf (cD kf j))=decide ((kf (j+1)).1<(kf (cD kf j)).1):=by
   unfold i9;by_cases q:(kf (j+1)).1<(kf (cD kf j)).1
   ·simp[q]
   ·simp[q];intros;omega
  unfold cD;rw[e];by_cases q:(kf (j+1)).1<(kf (cD kf j)).1
  ·rw[au (iz q)];refine⟨fun a ha=>?_,fun a ha=>Int.lt_of_lt_of_le q (h1 a (vX ha))⟩;rcases Nat.lt_or_eq_of_le ha with ha|rfl
   ·exact Int.le_of_lt (Int.lt_of_lt_of_le q (h1 a (vX ha)))
   ·exact Int.le_refl _
  ·rw[ay (by simpa using q)];refine⟨fun a ha=>?_,h2⟩;rcases Nat.lt_or_eq_of_le ha with ha|rfl
   ·exact h1 a (vX ha)
   ·exact Int.not_lt.mp q
end
section
variable {α:Type}{f:α->Tr}{l:List (Str×α)}{z:Str}{A:Ab}{n:Nat}
theorem dk:jf (.bw (dP f l)) (.str z)=kh ((l.lookup z).map f):=by
 show(kh (jt (.str z))).bind (fun k=>kh (dS (dP f l) k))=_;show kh (dS (dP f l) (.inr z))=_;rw[dC]
theorem pR:∀{ns:List Str},mJ (ns.map .str)=true
 |[]=>rfl
 |z::ns=>by rw[ba,mJ,Ia,n_];exact pR
theorem pS:(ps.map Tr.str).map (aw n A)=ps.map .str:=by
 rw[bY];exact fY fun z _=>qX
theorem CA{C:bf->Rs Bool}{Y:bf}{P:Str->Bool}(hF:∀z,F (.sh (.str z)::Y)=.ok (.str z)):∀{ns:List Str} {c:Cell},(∀z∈ns,C (.sh (.str z)::Y)=.ok (P z))->DI (gN 0) C F (ns.map .str) (c::Y)=.ok ((ns.filter P).map .str)
 |[],_,_=>rfl
 |z::ns,c,hC=>by
  have ih:=CA (Y:=Y) hF (ns:=ns) (c:=.sh (.str z)) fun y hy=>hC y (bF _ hy);show(MK (C (.sh (.str z)::Y))).bind (fun k=>if k then(MK (F (.sh (.str z)::Y))).bind fun y=>(DI (gN 0) C F (ns.map .str) (.sh (.str z)::Y)).bind fun ys=>.ok (y::ys)else DI (gN 0) C F (ns.map .str) (.sh (.str z)::Y))=_;rw[hC z (bM ..),hF z,ih];show(if P z then _ else _)=_;cases e:P z with
  |true=>rw[kn e];rfl
  |false=>rw[jj (by rw[e];exact eR)];rfl
theorem KN{m:Str}{ks:List (Int×Int)}{t:Tr}(hn:Dh aM m=true)(Sq:0<ts.length)(hs:keysOf h (.ob x aM) ts=some ks)(ht:ts[cD (fun i=>ks.getD i (0,0)) (ts.length - 1)]?=some t):uN x m h (.lst ts) (.ob x aM)=.ok t:=by
 unfold uN;simp only[hn,Sq,and_self,bT,hs,ht]
 rfl
theorem pT{C:bf->Rs Bool}{r:Rs (List Tr)}{ix:List (Option Nat)}{Y Au:bf}{c:Cell}(P:Str->Bool){ns:List Str}(hr:r=.ok (ns.map .str))(hl:ns.length<=ee)(hρ:sJ ix Y=c::Au)(hF:∀z,F (.sh (.str z)::Au)=.ok (.str z))(hC:∀z∈ns,C (.sh (.str z)::Au)=.ok (P z)):uF ix (gN 0) C F r Y=.ok (.lst ((ns.filter P).map .str)):=by
 unfold uF;rw[hr,hρ];show(if(ns.map Tr.str).length<=ee then _ else _)=_;rw[au (by rw[aK];exact hl),CA hF hC]
 rfl
theorem vt(h:mJ ts=true):uZ (.ok (.lst ts)) A=.ok (.at A.length) (A++[.lst ts]):=au h
theorem vv(h:∀p∈l,p.1.length<=1000):JA (.ok (.bw (dP f l)))=.ok (l.map fun p=>.str p.1):=F2 fun p hp=>bP (h p hp) (by decide)
theorem map_fst:(l.map fun p=>Tr.str p.1)=(l.map (·.1)).map .str:=by rw[bY];rfl
theorem Ext.idem {A':Ab}{pins:List (Nat×Ao)}{k:Nat}{o:Ao}(e:Ext A A' pins)(h:A[k]?=some o)(hu:pins.lookup k=none):Ext A A' ((k,o)::pins):=⟨e.le,fun j x q=>by
 rw[bX];by_cases hj:j=k
 ·subst hj;rw[h]at q;cases q;rw[e.at' j o h,hu];simp
 ·have:(j==k)=false:=by simpa using hj
  rw[this];exact e.at' j x q⟩
theorem Ext.cons {A' A2:Ab}{pins:List (Nat×Ao)}{k:Nat}{o:Ao}(a:Ext A A' pins)(b:Ext A' A2 [(k,o)]):Ext A A2 ((k,o)::pins):=a.trans b
theorem Ext.past {A' A2:Ab}{pins:List (Nat×Ao)}(a:Ext A A' [])(b:Ext A' A2 pins):Ext A A2 pins:=by have:=a.trans b;rwa[jm]at this
end
structure bR(A:Ab)(aH:List (Str×Bool))(a9:List (Str×Nat)):Prop where
 o:A[0]?=some (.ins "Hall" [("persons",.at 1),("places",.at 2),("hands",.at 3)])
 ps:A[1]?=some (.bw (dP .bl aH))
 pl:A[2]?=some (.bw (dP .at a9))
section
variable {A A':Ab}{aH:List (Str×Bool)}{a9:List (Str×Nat)}
theorem flB{l:List (Str×Bool)}:fI (dP .bl l):=sW fun _ _ _=>KL
theorem bR.NU (h:bR A aH a9):jg ["Hall"] "persons" (aw 5 A (.at 0))=.ok (.bw (dP .bl aH)):=by
 rw[fM h.o];show Rs.ok (aw 4 A (.at 1))=_;rw[fg h.ps,gQ flB]
theorem bR.SW (h:bR A aH a9):jg ["Hall"] "places" (aw 5 A (.at 0))=.ok (.bw (dP (fun j=>aw 3 A (.at j)) a9)):=by
 rw[fM h.o];show Rs.ok (aw 4 A (.at 2))=_;rw[fg h.pl];unfold dP;rw[bY];rfl
theorem bR.aaD (h:bR A aH a9):u7 ["Hall"] "places" (.ok (.at 0) A)=.ok (.at 2) A:=by unfold u7 Rz.bind;simp only[h.o];rfl
theorem bR.call (h:bR A aH a9){m:Str}(hm:Dh [("persons",.at 1),("places",.at 2),("hands",.at 3)] m=true)(F:List Tr->Ab->Rz Tr)(l:Ab->Rz (List Tr)):qi "Hall" m F (.ok (.at 0) A) l=(l A).bind fun ts A=>F (.at 0::ts) A:=by
 show(match A[0]? with|some (.ins x fs)=>if x="Hall"/\Dh fs m=true then(l A).bind fun ts A=>F (.at 0::ts) A else .bad|_=>.bad)=_;rw[h.o];exact au ⟨rfl,hm⟩
theorem jv{h:Tr->Tr->Rs Tr}{x:Tr}{b:Ab->Rz Tr}:Ny h (.ok x A) b=(b A).bind fun y A=>q_ (h (aw 1 A x) (aw 1 A y)) A:=rfl
theorem vx{α:Type}{f:α->Tr}{l:List (Str×α)}(h:A[i]?=some (.bw (dP f l))):aw 1 A (.at i)=.bw (dP f l):=by
 rw[fg h];unfold dP;rw[bY];rfl
theorem F3:(∀T G Y A,ue T G [] Y A=.ok (.nx Y) A)/\(∀T G t ts Y A,ue T G (t::ts) Y A=(fQ (T t Y) A).bind fun qZ A=>(G qZ A).bind fun o A=>match o with
  |.nx iZ=>ue T G ts iZ A
  |.ct iZ=>ue T G ts iZ A
  |.bk iZ=>.ok (.nx iZ) A
  |.ret t=>.ok (.ret t) A)/\(∀T G ts A Y,Jw T G (.ok ts A) Y=ue T G ts Y A)/\(∀i t Y,gN i t Y=.ok (Y.set i (.sh t)))/\(∀ts,DG (.ok (.tup ts))=.ok ts)/\(∀ts,DG (.ok (.lst ts))=.ok ts):=by
 refine⟨?_,?_,?_,?_,?_,?_⟩<;>intros<;>rfl
end
def CB(j ks kb ka:Nat)(d v p:Str):List (Str×Tr):=[("rows",.at (j+1)),("roles",.at (j+2)),("stays",.at ks),("barred",.at kb),("asked",.at ka),("door",.str d),("voice",.str v),("past",.str p)]
abbrev jb:=Str×Int×Int×Option Int
def Ep:Option Int->Tr
 |none=>.bO
 |some n=>.int n
def u_(s:jb):Tr:=.tup [.str s.1,.int s.2.1,.int s.2.2.1,Ep s.2.2.2]
structure bx(A:Ab)(j ks kb ka:Nat)(rows:List Tr)(aN:List (Str×Str))(stays:List jb)(bN asked:List Str)(d v p:Str):Prop where
 o:A[j]?=some (.bw (dP id (CB j ks kb ka d v p)))
 rw:A[j+1]?=some (.lst rows)
 rl:A[j+2]?=some (.bw (dP .str aN))
 st:A[ks]?=some (.lst (stays.map u_))
 br:A[kb]?=some (.lst (bN.map .str))
 as:A[ka]?=some (.lst (asked.map .str))
 nd:[j,j+1,j+2,ks,kb,ka].Nodup
section
variable {A A':Ab}{j ks kb ka n:Nat}{aN:List (Str×Str)}{stays:List jb}{asked:List Str}{d v p:Str}
theorem gg(h:A[j]?=some (.bw (dP id aM))):aw (n+1) A (.at j)=.bw (dP (aw n A) aM):=by
 rw[fg h];unfold dP;rw[bY];rfl
theorem Av(h:A[j]?=some (.bw (dP id aM))):aw 1 A (.at j)=.bw (dP id aM):=by
 rw[fg h];unfold dP;rw[bY];rfl
theorem KO:(stays.map u_).map (aw n A)=stays.map u_:=vq fun t ht=>by obtain⟨s,_,rfl⟩:=bS.mp ht;exact⟨_,rfl⟩
theorem bx.SX (h:bx A j ks kb ka ts aN stays ps asked d v p)(f:jh ts):jf (aw (n+2) A (.at j)) (.str "rows")=.ok (.lst ts):=by
 rw[gg h.o,dk];show Rs.ok (aw (n+1) A (.at (j+1)))=_;rw[kY h.rw,vq f]
theorem bx.CC (h:bx A j ks kb ka ts aN stays ps asked d v p):jf (aw (n+2) A (.at j)) (.str "roles")=.ok (.bw (dP .str aN)):=by
 rw[gg h.o,dk];show Rs.ok (aw (n+1) A (.at (j+2)))=_;rw[fg h.rl,gQ (sW fun _ _ _=>qX)]
theorem bx.Xw (h:bx A j ks kb ka ts aN stays ps asked d v p):jf (aw (n+2) A (.at j)) (.str "stays")=.ok (.lst (stays.map u_)):=by
 rw[gg h.o,dk];show Rs.ok (aw (n+1) A (.at ks))=_;rw[kY h.st,KO]
theorem bx.Xx (h:bx A j ks kb ka ts aN stays ps asked d v p):jf (aw (n+2) A (.at j)) (.str "barred")=.ok (.lst (ps.map .str)):=by
 rw[gg h.o,dk];show Rs.ok (aw (n+1) A (.at kb))=_;rw[kY h.br,pS]
theorem bx.SY (h:bx A j ks kb ka ts aN stays ps asked d v p):jf (aw (n+2) A (.at j)) (.str "asked")=.ok (.lst (asked.map .str)):=by
 rw[gg h.o,dk];show Rs.ok (aw (n+1) A (.at ka))=_;rw[kY h.as,pS]
theorem bx.a_d (h:bx A j ks kb ka ts aN stays ps asked d v p):jf (aw (n+1) A (.at j)) (.str "door")=.ok (.str d):=by
 rw[gg h.o,dk];show Rs.ok (aw n A (.str d))=_;rw[qX]
theorem bx.a_v (h:bx A j ks kb ka ts aN stays ps asked d v p):jf (aw (n+1) A (.at j)) (.str "voice")=.ok (.str v):=by
 rw[gg h.o,dk];show Rs.ok (aw n A (.str v))=_;rw[qX]
theorem bx.a_p (h:bx A j ks kb ka ts aN stays ps asked d v p):jf (aw (n+1) A (.at j)) (.str "past")=.ok (.str p):=by
 rw[gg h.o,dk];show Rs.ok (aw n A (.str p))=_;rw[qX]
theorem bx.aaE (h:bx A j ks kb ka ts aN stays ps asked d v p):jf (aw 1 A (.at j)) (.str "rows")=.ok (.at (j+1)):=by rw[Av h.o,dk];rfl
theorem bx.NV (h:bx A j ks kb ka ts aN stays ps asked d v p):jf (aw 1 A (.at j)) (.str "roles")=.ok (.at (j+2)):=by rw[Av h.o,dk];rfl
theorem bx.aaF (h:bx A j ks kb ka ts aN stays ps asked d v p):jf (aw 1 A (.at j)) (.str "stays")=.ok (.at ks):=by rw[Av h.o,dk];rfl
theorem bx.ext {pins:List (Nat×Ao)}(h:bx A j ks kb ka ts aN stays ps asked d v p)(e:Ext A A' pins)(q:∀k∈[j,j+1,j+2,ks,kb,ka],pins.lookup k=none):bx A' j ks kb ka ts aN stays ps asked d v p:=
 ⟨e.same h.o (q _ (by simp)),e.same h.rw (q _ (by simp)),e.same h.rl (q _ (by simp)),e.same h.st (q _ (by simp)),e.same h.br (q _ (by simp)),e.same h.as (q _ (by simp)),h.nd⟩
variable {bW:List Tr}{k_:List (Str×Str)}{o9:List jb}{xC:List Str}
theorem bx.ne (h:bx A j ks kb ka ts aN stays ps asked d v p):j≠ks/\j≠kb/\j≠ka/\j+1≠ks/\j+1≠kb/\j+1≠ka/\j+2≠ks/\j+2≠kb/\j+2≠ka/\ks≠kb/\ks≠ka/\kb≠ka:=by
 have:=h.nd;simp only[f9,aV,cc,cf,not_or]at this;obtain⟨⟨_,_,a,b,c⟩,⟨_,d,e,f⟩,⟨g,i,k⟩,⟨l,m⟩,n,_⟩:=this;exact⟨a,b,c,d,e,f,g,i,k,l,m,n⟩
theorem bx.Xy:j+2≠j+1/\j+2≠j:=⟨lC _,cU (Nat.lt_add_of_pos_right (Nat.succ_pos 1))⟩
theorem bx.KQ (h:bx A j ks kb ka ts aN stays ps asked d v p)(e:Ext A A' [(j+1,.lst bW)]):bx A' j ks kb ka bW aN stays ps asked d v p:=by
 obtain⟨_,_,_,b1,b2,b3,_⟩:=h.ne;exact⟨e.same h.o (i7 (lC j).symm),e.new h.rw NT,e.same h.rl (i7 bx.Xy.1),e.same h.st (i7 b1.symm),e.same h.br (i7 b2.symm),e.same h.as (i7 b3.symm),h.nd⟩
theorem bx.NW (h:bx A j ks kb ka ts aN stays ps asked d v p)(e:Ext A A' [(j+2,.bw (dP .str k_))]):bx A' j ks kb ka ts k_ stays ps asked d v p:=by
 obtain⟨_,_,_,_,_,_,b1,b2,b3,_⟩:=h.ne;exact⟨e.same h.o (i7 bx.Xy.2.symm),e.same h.rw (i7 bx.Xy.1.symm),e.new h.rl NT,e.same h.st (i7 b1.symm),e.same h.br (i7 b2.symm),e.same h.as (i7 b3.symm),h.nd⟩
theorem bx.aaG (h:bx A j ks kb ka ts aN stays ps asked d v p)(e:Ext A A' [(ks,.lst (o9.map u_))]):bx A' j ks kb ka ts aN o9 ps asked d v p:=by
 obtain⟨a,_,_,b,_,_,c,_,_,d1,d2,_⟩:=h.ne;exact⟨e.same h.o (i7 a),e.same h.rw (i7 b),e.same h.rl (i7 c),e.new h.st NT,e.same h.br (i7 d1.symm),e.same h.as (i7 d2.symm),h.nd⟩
theorem gR{o:Ao}(h:A[i]?=some o):i<A.length:=(fi.mp h).1
theorem KR{l1 l2:List Nat}{y:Nat}(h:(l1++i::l2).Nodup)(hy:∀k∈l1++l2,k<y):(l1++y::l2).Nodup:=
 List.perm_middle.nodup_iff.mpr (f9.mpr ⟨fun m=>dH _ (hy _ m),(f9.mp (List.perm_middle.nodup_iff.mp h)).2⟩)
theorem bx.aaH (h:bx A j ks kb ka ts aN stays ps asked d v p):bx ((A++[Ao.lst (xC.map .str)]).set j (.bw (dP id (CB j ks kb A.length d v p)))) j ks kb A.length ts aN stays ps xC d v p:=by
 obtain⟨a,b,_⟩:=h.ne;have e1:Ext A (A++[Ao.lst (xC.map .str)]) []:=Ext.push;have e2:Ext (A++[Ao.lst (xC.map .str)]) _ _:=Ext.put (o:=.bw (dP id (CB j ks kb A.length d v p))) (e1.same h.o rfl);refine⟨e2.new (e1.same h.o rfl) NT,e2.same (e1.same h.rw rfl) (i7 (lC j)),e2.same (e1.same h.rl rfl) (i7 bx.Xy.2),e2.same (e1.same h.st rfl) (i7 a.symm),e2.same (e1.same h.br rfl) (i7 b.symm),e2.same mP (i7 (cU (gR h.o))),KR (l1:=[j,j+1,j+2,ks,kb]) (l2:=[]) h.nd fun k m=>?_⟩;simp only[cR,aV,cc,cf]at m;rcases m with rfl|rfl|rfl|rfl|rfl
 ·exact gR h.o
 ·exact gR h.rw
 ·exact gR h.rl
 ·exact gR h.st
 ·exact gR h.br
theorem bx.aaI (h:bx A j ks kb ka ts aN stays ps asked d v p):bx ((A++[Ao.lst (o9.map u_)]).set j (.bw (dP id (CB j A.length kb ka d v p)))) j A.length kb ka ts aN o9 ps asked d v p:=by
 obtain⟨_,b,c,_⟩:=h.ne;have e1:Ext A (A++[Ao.lst (o9.map u_)]) []:=Ext.push;have e2:Ext (A++[Ao.lst (o9.map u_)]) _ _:=Ext.put (o:=.bw (dP id (CB j A.length kb ka d v p))) (e1.same h.o rfl);refine⟨e2.new (e1.same h.o rfl) NT,e2.same (e1.same h.rw rfl) (i7 (lC j)),e2.same (e1.same h.rl rfl) (i7 bx.Xy.2),e2.same mP (i7 (cU (gR h.o))),e2.same (e1.same h.br rfl) (i7 b.symm),e2.same (e1.same h.as rfl) (i7 c.symm),KR (l1:=[j,j+1,j+2]) (l2:=[kb,ka]) h.nd fun k m=>?_⟩;simp only[cR,aV,cc,cf,or_assoc]at m;rcases m with rfl|rfl|rfl|rfl|rfl
 ·exact gR h.o
 ·exact gR h.rw
 ·exact gR h.rl
 ·exact gR h.br
 ·exact gR h.as
theorem NX{b:Str}:L8 (.str x) (.str b)=.ok (.bl (!(x==b))):=rfl
theorem xD:∀{stays:List jb},mJ (stays.map u_)=true
 |[]=>rfl
 |s::stays=>by
  rw[ba,mJ,xD,Bool.and_true];obtain⟨a,b,c,e⟩:=s;cases e<;>rfl
theorem KU{α:Type}{C:bf->Rs Bool}{F:bf->Rs Tr}{Y:bf}{P:α->Bool}{g h:α->Tr}:∀{xs:List α} {c:Cell},(∀x∈xs,C (.sh (g x)::Y)=.ok (P x))->(∀x∈xs,P x=true->F (.sh (g x)::Y)=.ok (h x))->DI (gN 0) C F (xs.map g) (c::Y)=.ok ((xs.filter P).map h)
 |[],_,_,_=>rfl
 |x::xs,c,hC,hF=>by
  have ih:=KU (Y:=Y) (C:=C) (F:=F) (P:=P) (g:=g) (h:=h) (xs:=xs) (c:=.sh (g x)) (fun y hy=>hC y (bF _ hy)) fun y hy=>hF y (bF _ hy);show(MK (C (.sh (g x)::Y))).bind (fun k=>if k then(MK (F (.sh (g x)::Y))).bind fun y=>(DI (gN 0) C F (xs.map g) (.sh (g x)::Y)).bind fun ys=>.ok (y::ys)else DI (gN 0) C F (xs.map g) (.sh (g x)::Y))=_;rw[hC x (bM ..),ih];show(if P x then _ else _)=_;cases e:P x with
  |true=>rw[kn e,hF x (bM ..) e];rfl
  |false=>rw[jj (by rw[e];exact eR)];rfl
theorem kF{α:Type}{C:bf->Rs Bool}{r:Rs (List Tr)}{ix:List (Option Nat)}{Y Au:bf}{c:Cell}(P:α->Bool)(g h:α->Tr){xs:List α}(hr:r=.ok (xs.map g))(hl:xs.length<=ee)(hρ:sJ ix Y=c::Au)(hC:∀x∈xs,C (.sh (g x)::Au)=.ok (P x))(hF:∀x∈xs,P x=true->F (.sh (g x)::Au)=.ok (h x)):uF ix (gN 0) C F r Y=.ok (.lst ((xs.filter P).map h)):=by
 unfold uF;rw[hr,hρ];show(if(xs.map g).length<=ee then _ else _)=_;rw[au (by rw[aK];exact hl),KU hC hF]
 rfl
theorem HE:kP (dP id (CB j ks kb ka d v p)) (.inr "asked") (.at n)=dP id (CB j ks kb n d v p):=mQ (f:=id) (a:=.at n)
theorem HF:kP (dP id (CB j ks kb ka d v p)) (.inr "stays") (.at n)=dP id (CB j n kb ka d v p):=mQ (f:=id) (a:=.at n)
theorem bx.aaJ {x:Ao}{Y:bf}(h:bx A j ks kb ka ts aN stays ps asked d v p):putD (A++[x]) (.at j) (.str "asked") (.at A.length) Y=.ok (.nx Y) ((A++[x]).set j (.bw (dP id (CB j ks kb A.length d v p)))):=by
 rw[o8 (Ext.push.same h.o rfl) (by rw[kZ];show 8<ee;decide),HE]
theorem bx.aaK {x:Ao}{Y:bf}(h:bx A j ks kb ka ts aN stays ps asked d v p):putD (A++[x]) (.at j) (.str "stays") (.at A.length) Y=.ok (.nx Y) ((A++[x]).set j (.bw (dP id (CB j A.length kb ka d v p)))):=by
 rw[o8 (Ext.push.same h.o rfl) (by rw[kZ];show 8<ee;decide),HF]
end
open PyProof
section
variable {A:Ab}
theorem Er{ns:List Int}(h:0<ns.length):qv ns∈ns/\∀x∈ns,x<=qv ns:=by
 obtain⟨h1,h2⟩:=argBest_gt (fun i=>ns.getD i 0) (ns.length - 1);have hl:argBest (fun i j=>decide (ns.getD i 0>ns.getD j 0)) (ns.length - 1)<ns.length:=by omega
 constructor
 ·unfold qv;rw[dD,bq hl];exact jO _
 ·intro x hx;obtain⟨a,ha,e⟩:=List.getElem_of_mem hx;have:=h2 a (by omega);have e2:ns.getD a 0=x:=by rw[dD,bq ha,e];rfl
  rw[<-e2];exact this
theorem ints_map{α:Type}{f:α->Int}:∀{l:List α},qm (l.map fun x=>.int (f x))=some (l.map f)
 |[]=>rfl
 |x::l=>by show(qm (l.map fun x=>.int (f x))).map (fun r=>f x::r)=_;rw[ints_map];rfl
theorem max_map{α:Type}{f:α->Int}{l:List α}(h:l≠[]):Kc [.lst (l.map fun x=>.int (f x))]=.ok (.int (qv (l.map f))):=by
 show(match qm (l.map fun x=>Tr.int (f x))with|some ns=>if 0<ns.length then Rs.ok (Tr.int (qv ns))else .bad|none=>.bad)=_;rw[ints_map];exact au (by rw[aK];exact rB.mpr h)
theorem Aw:GV (.str x) (.lst (ps.map .str))=.ok (.bl (ps.contains x)):=by
 show QX (Jo (.str x) (ps.map .str))=_;have:((ps.map Tr.str).all yg)=true:=by rw[og];exact cJ.mpr fun _ _=>rfl
 unfold Jo;rw[au ⟨rfl,this⟩,List.any_map];show Rs.ok (Tr.bl _)=_;congr 2;rw[List.contains_eq_any_beq];congr 1;funext y;show(y==x)=(x==y);exact Bool.beq_comm
theorem xE:MY (.str x) (.lst (ps.map .str))=.ok (.bl (!ps.contains x)):=by
 show QX (GK (Jo (.str x) (ps.map .str)))=_;have:QX (Jo (.str x) (ps.map .str))=.ok (.bl (ps.contains x)):=Aw;unfold Jo at*;have h:((ps.map Tr.str).all yg)=true:=by rw[og];exact cJ.mpr fun _ _=>rfl
 rw[au ⟨rfl,h⟩]at*;have e:Rs.ok (Tr.bl ((ps.map Tr.str).any fun y=>eqT y (.str x)))=.ok (.bl (ps.contains x)):=this;injection e with e;injection e with e
 show Rs.ok (Tr.bl (!_))=_;rw[e]
theorem S0{α:Type}{f:α->Tr}{l:List (Str×α)}:oH (.bw (dP f l))=.ok (!l.isEmpty):=by cases l<;>rfl
end
def nS(l:List Str):List (Key×Tr):=dP .bl (l.map fun z=>(z,true))
theorem F4{z:Str}:∀{l:List Str},(l.map fun z=>(z,true)).lookup z=if l.contains z=true then some true else none
 |[]=>rfl
 |y::l=>by
  rw[ba,bX,List.contains_cons];cases e:(z==y)with
  |true=>rfl
  |false=>rw[F4,jQ]
theorem Es:dS (nS ps) (.inr x)=if ps.contains x=true then some (.bl true)else none:=by
 unfold nS;rw[dC,F4];cases ps.contains x<;>rfl
theorem NY:gM (nS ps) (.inr x)=nS (ps.filter fun y=>!(y==x)):=by
 unfold nS;rw[As];congr 1;unfold jZ;rw[nY];congr 1;apply rJ;intro y _;show decide (y≠x)=!(y==x);by_cases h:y=x
 ·subst h;simp
 ·simp[h]
theorem vy:fI (nS ps):=sW fun _ _ _=>KL
structure fJ(A:Ab)(aR:List Str)(c7:List (Str×Nat)):Prop where
 o:A[4]?=some (.bw (dP id [("people",.at 5),("rooms",.at 6)]))
 pe:A[5]?=some (.lst (aR.map .str))
 rs:A[6]?=some (.bw (dP .at c7))
section
variable {A A':Ab}{c7:List (Str×Nat)}{n:Nat}
theorem fJ.S1 (h:fJ A ps c7):jf (aw (n+2) A (.at 4)) (.str "people")=.ok (.lst (ps.map .str)):=by
 rw[gg h.o,dk];show Rs.ok (aw (n+1) A (.at 5))=_;rw[kY h.pe,pS]
theorem fJ.KW (h:fJ A ps c7):jf (aw (n+2) A (.at 4)) (.str "rooms")=.ok (.bw (dP (fun j=>aw n A (.at j)) c7)):=by
 rw[gg h.o,dk];show Rs.ok (aw (n+1) A (.at 6))=_;rw[fg h.rs];unfold dP;rw[bY];rfl
theorem fJ.S2 (h:fJ A ps c7):jf (aw 1 A (.at 4)) (.str "rooms")=.ok (.at 6):=by rw[Av h.o,dk];rfl
theorem CD{α:Type}{f:α->Tr}{l:List (Str×α)}:Jp (.ok (.bw (dP f l))) (.ok (.str x))=.ok (((l.lookup x).map f).getD .bO):=by
 show(kh (jt (.str x))).bind (fun k=>Rs.ok ((dS (dP f l) k).getD .bO))=_;show Rs.ok ((dS (dP f l) (.inr x)).getD .bO)=_;rw[dC]
theorem NZ{k:List (Key×Tr)}:Fo (.bw k) .bO=.ok (.bl false):=rfl
end
def arr:Nat->List Str->List (List Str)
 |0,_=>[[]]
 |n+1,l=>[]::l.flatMap fun z=>(arr n (l.filter fun y=>!(y==z))).map (z::·)
theorem F5:∀{n:Nat} {l ss:List Str},ss.length<=n->ss.Nodup->(∀z∈ss,z∈l)->ss∈arr n l
 |0,l,[],_,_,_=>cE.mpr rfl
 |n+1,l,[],_,_,_=>bM ..
 |n+1,l,z::ss,hl,hn,hs=>by
  rw[f9]at hn;refine bF _ (List.mem_flatMap.mpr ⟨z,hs z (bM ..),bS.mpr ⟨ss,F5 (vK hl) hn.2 fun y hy=>fm.mpr ⟨hs y (bF _ hy),?_⟩,rfl⟩⟩);have:y≠z:=fun e=>hn.1 (e▸hy);simpa using this
def N0(ss:List Str):Bool:=match gs ss with
 |some p=>(p.map fun i=>ss.getD i ("":Str)).isPerm ss&&sortedS (p.map fun i=>ss.getD i ("":Str))
 |none=>false
abbrev six:List Str:=["ann","bo","cy","dee","ed","zed"]
def ch5(z y:Str):Bool:=y==z||(((arr 4 ((six.filter fun x=>!(x==z)).filter fun x=>!(x==y))).map (y::·)).map (z::·)).all N0
set_option maxHeartbeats 4000000 in
theorem aaL:∀z∈six,∀y∈six,ch5 z y=true:=by
 intro z hz y hy;simp only[aV,cc,cf]at hz hy;rcases hz with rfl|rfl|rfl|rfl|rfl|rfl<;>rcases hy with rfl|rfl|rfl|rfl|rfl|rfl<;>decide+kernel
theorem aaM:(arr 6 six).all N0=true:=by
 rw[arr,gG,List.all_flatMap,bp,cJ];refine⟨rfl,fun z hz=>?_⟩;rw[arr,ba,gG,List.map_flatMap,List.all_flatMap,bp,cJ];refine⟨(by decide+kernel:∀z∈six,N0 [z]=true) z hz,fun y hy=>?_⟩;have n:=fm.mp hy;have h:=aaL z hz y n.1;rw[ch5,show(y==z)=false by simpa using n.2,jQ]at h;exact h
theorem uo:∀{ss l:List Str},ss.Nodup->(∀z∈ss,z∈l)->ss.length<=l.length
 |[],_,_,_=>dF _
 |z::ss,l,hn,hs=>by
  rw[f9]at hn;have hz:=hs z (bM ..);have ih:=uo (l:=l.erase z) hn.2 fun y hy=>(List.mem_erase_of_ne (fun e:y=z=>hn.1 (by rw[<-e];exact hy))).mpr (hs y (bF _ hy));rw[List.length_erase_of_mem hz]at ih;have:=List.length_pos_of_mem hz;rw[cG];omega
theorem Et{ss:List Str}(hn:ss.Nodup)(hs:∀z∈ss,z∈(["ann","bo","cy","dee","ed","zed"]:List Str)):∃p,gs ss=some p/\p.map (fun i=>ss.getD i ("":Str))=cx ss:=by
 have h:=cJ.mp aaM ss (F5 (uo hn hs) hn hs);unfold N0 at h;cases e:gs ss with
 |none=>rw[e]at h;cases h
 |some p=>
  rw[e]at h;rw[bp]at h;exact⟨p,rfl,sS (List.isPerm_iff.mp h.1) h.2⟩
theorem CF{α:Type}{f:α->Tr}:∀{l:List (Str×α)},qA (dP f l)=some (l.map (·.1))
 |[]=>rfl
 |p::l=>by show(qA (dP f l)).map (fun s=>p.1::s)=_;rw[CF];rfl
theorem Eu{aq:List (Str×Str)}(hn:(aq.map (·.1)).Nodup)(hs:∀z∈aq.map (·.1),z∈(["ann","bo","cy","dee","ed","zed"]:List Str))(hl:∀p∈aq,aq.lookup p.1=some p.2):
  vp (.bw (dP .str aq))=.ok (.lst ((cx (aq.map (·.1))).map fun z=>.tup [.str z,.str ((aq.lookup z).getD "")])):=by
 obtain⟨p,e1,e2⟩:=Et hn hs;have b9:=uo hn hs;have YT:((aq.map (·.1)).all fun z=>decide (z.length<=cw))=true:=cJ.mpr fun z hz=>iz (bP ((by decide+kernel:∀z∈(["ann","bo","cy","dee","ed","zed"]:List Str),z.length<=10) z (hs z hz)) (by decide));show kh ((qA (dP .str aq)).bind fun ss=>if ss.length<64/\(ss.all fun z=>decide (z.length<=cw))=true then(gs ss).map fun p=>Tr.lst (p.map fun i=>.tup [.str (ss.getD i ("":Str)),((dP .str aq).map (·.2)).getD i .bO])else none)=_;rw[CF];show kh (if(aq.map (·.1)).length<64/\_ then _ else none)=_;rw[au ⟨rD b9 (by decide),YT⟩,e1];show Rs.ok (Tr.lst _)=_;congr 2;rw[<-e2,bY];apply fY;intro i hi;have gn:=zk e1 i hi;rw[aK]at gn;have g1:(aq.map (·.1)).getD i ("":Str)=aq[i].1:=by rw[dD,bA,bq gn];rfl
 have g2:((dP .str aq).map (·.2)).getD i .bO=.str aq[i].2:=by
  unfold dP;rw[bY,dD,bA,bq gn];rfl
 show Tr.tup [.str ((aq.map (·.1)).getD i ("":Str)),((dP .str aq).map (·.2)).getD i .bO]=Tr.tup [.str ((aq.map (·.1)).getD i ("":Str)),.str ((aq.lookup ((aq.map (·.1)).getD i ("":Str))).getD "")];rw[g1,g2,hl aq[i] (jO _)]
 rfl
section
variable {A:Ab}{n:Nat}{rows:List Tr}{rk en ch bn iv:List (Key×Tr)}
theorem aS.aaN (h:aS A i rows rk en ch bn iv)(f:jh rows):jg ["Room"] "log" (aw (n+2) A (.at i))=.ok (.lst rows):=by
 rw[fM h.o];show Rs.ok (aw (n+1) A (.at (i+1)))=_;rw[kY h.lg,vq f]
theorem aS.aaO (h:aS A i rows rk en ch bn iv)(f:fI rk):jg ["Room"] "ranks" (aw (n+2) A (.at i))=.ok (.bw rk):=by
 rw[fM h.o];show Rs.ok (aw (n+1) A (.at (i+2)))=_;rw[fg h.rk,gQ f]
theorem aS.aaP (h:aS A i rows rk en ch bn iv)(f:fI ch):jg ["Room"] "chosen" (aw (n+2) A (.at i))=.ok (.bw ch):=by
 rw[fM h.o];show Rs.ok (aw (n+1) A (.at (i+4)))=_;rw[fg h.ch,gQ f]
theorem aS.aaQ (h:aS A i rows rk en ch bn iv)(f:fI bn):jg ["Room"] "banned" (aw (n+2) A (.at i))=.ok (.bw bn):=by
 rw[fM h.o];show Rs.ok (aw (n+1) A (.at (i+5)))=_;rw[fg h.bn,gQ f]
theorem aS.aaR (h:aS A i rows rk en ch bn iv)(f:fI iv):jg ["Room"] "invited" (aw (n+2) A (.at i))=.ok (.bw iv):=by
 rw[fM h.o];show Rs.ok (aw (n+1) A (.at (i+6)))=_;rw[fg h.iv,gQ f]
theorem aS.cP (h:aS A i rows rk en ch bn iv){m:Str}(hm:Dh ((roomF i).map fun p=>(p.1,aw n A p.2)) m=true)(F:List Tr->Rs Tr)(l:Rs (List Tr)):uL "Room" m F (.ok (aw (n+1) A (.at i))) l=l.bind fun ts=>F (aw (n+1) A (.at i)::ts):=by
 rw[fM h.o];exact au ⟨rfl,hm⟩
variable {aH:List (Str×Bool)}{a9:List (Str×Nat)}
theorem bR.cP (h:bR A aH a9){m:Str}(hm:Dh (([("persons",.at 1),("places",.at 2),("hands",.at 3)]:List (Str×Tr)).map fun p=>(p.1,aw n A p.2)) m=true)(F:List Tr->Rs Tr)(l:Rs (List Tr)):uL "Hall" m F (.ok (aw (n+1) A (.at 0))) l=l.bind fun ts=>F (aw (n+1) A (.at 0)::ts):=by
 rw[fM h.o];exact au ⟨rfl,hm⟩
theorem CG{α:Type}{f:α->Tr}:∀{l:List (Str×α)},(∀p∈l,p.1.length<=1000)->uK (dP f l)=some (l.map (·.1))
 |[],_=>rfl
 |p::l,h=>by
  show(if p.1.length<=cw then(uK (dP f l)).map (fun r=>p.1::r)else none)=_;rw[au (bP (h p (bM ..)) (by decide)),CG fun q hq=>h q (bF _ hq)]
  rfl
theorem uq:∀{ss:List Str},ng (ss.map .str)=some ss
 |[]=>rfl
 |z::ss=>by show(ng (ss.map .str)).map (fun r=>z::r)=_;rw[uq];rfl
theorem pU{α:Type}{f:α->Tr}{l:List (Str×α)}(h:∀p∈l,p.1.length<=1000)(hl:l.length<64):mK [.bw (dP f l)]=.ok (.lst ((cx (l.map (·.1))).map .str)):=by
 show y9 (uK (dP f l))=_;rw[CG h];exact au (by rw[aK];exact hl)
theorem zr{ss:List Str}(hl:ss.length<64):mK [.lst (ss.map .str)]=.ok (.lst ((cx ss).map .str)):=by
 show y9 (ng (ss.map .str))=_;rw[uq];exact au hl
theorem N1:(∀T G Y,yo T G [] Y=.ok (.nx Y))/\(∀T G t ts Y,yo T G (t::ts) Y=(T t Y).bind fun qZ=>(G qZ).bind fun o=>match o with
  |.nx iZ=>yo T G ts iZ
  |.ct iZ=>yo T G ts iZ
  |.bk iZ=>.ok (.nx iZ)
  |.ret t=>.ok (.ret t))/\(∀T G ts Y,Fc T G (.ok ts) Y=yo T G ts Y)/\(∀ts,DP [.lst ts]=.ok (.tup ts)):=by
 refine⟨?_,?_,?_,?_⟩<;>intros<;>rfl
theorem KY:∀{ts:List Tr},(∀t∈ts,t=.bl true)->M' [.lst ts]=.ok (.bl true):=fun{ts} h=>by
 have:GW ts=.ok (ts.map fun _=>true):=by
  induction ts with
  |nil=>rfl
  |cons t ts ih=>
   rw[h t (bM ..)];show(GW ts).bind (fun zs=>Rs.ok (true::zs))=_;rw[ih fun u hu=>h u (bF _ hu)]
   rfl
 show(GW ts).bind (fun bs=>Rs.ok (Tr.bl (bs.all id)))=_;rw[this];show Rs.ok (Tr.bl ((ts.map fun _=>true).all id))=_;congr 2;rw[og];exact cJ.mpr fun _ _=>rfl
theorem CH:∀{ts:List Tr},Pd ts ts=ts.map fun t=>.tup [t,t]
 |[]=>rfl
 |t::ts=>by show Tr.tup [t,t]::Pd ts ts=_;rw[CH];rfl
end
structure T_ where
 bl:List Str
 own:List Str
 WJ:List Str
 fl:List (Str×List Str)
 kd:List Df
 er:List Str
 xs:List (Str⊕String)
 cs:List Str
 rs:List Str
namespace T_
def val(K:Frag):Str⊕String->Value
 |.inl c=>.ref (clsAt K c)
 |.inr c=>.type c
def tab(er:List Str):Str⊕String->List (Str×Bool)
 |.inl c=>er.map fun x=>(x,x==c)
 |.inr _=>er.map fun x=>(x,true)
def Pn(K:Frag)(o:T_):Bool:=o.bl.all (fun x=>decide (nsIn K mainGlobals x=some none))&&(o.own.all (fun c=>decide (nsIn K mainGlobals c=some (some (.ref (clsAt K c)))))&&(o.WJ.all (fun c=>makesIn K (clsAt K c)&&(keepIn K (.ref (clsAt K c))&&decide (nsIn K mainGlobals c=some (some (.ref (clsAt K c))))))&&
 (o.fl.all (fun p=>NP K (clsAt K p.1)&&aat K (clsAt K p.1) p.2)&&(o.kd.all (fun d=>decide (specialIn K (.ref (d.adr K)) "__get__"=some (some (.builtin "function.__get__")))&&decide (takesIn K (.ref (d.adr K))=some false))&&
 (Xm K o.er&&(o.xs.all (fun c=>Xl K (val K c) (tab o.er c))&&(o.cs.all (fun c=>Xn K c o.er)&&o.rs.all (fun c=>excIn K (clsAt K c) bmV "ValueError.__new__"))))))))
structure Ok(o:T_)(K:Frag)(mg:Str->Option Value):Prop where
 bl:∀{x},o.bl.contains x=true->mg x=none
 F6:∀{c},o.own.contains c=true->mg c=some (.ref (clsAt K c))
 mk_:∀{c},o.WJ.contains c=true->Hz K mg c
 fl:∀{c f fs},o.fl.lookup c=some fs->fs.contains f=true->g7 K [c] f
 bn:∀(i:Nat) {d:Df},o.kd[i]?=some d->ze K (d.adr K)
 xc:∀(i:Nat) {c},o.xs[i]?=some c->g8 K (val K c) (tab o.er c)
 ca:∀{c},o.cs.contains c=true->o.own.contains c=true->pO K mg c o.er
 er:∀{c},o.rs.contains c=true->o.own.contains c=true->qj K mg c
theorem ok{o:T_}{K:Frag}{h:Heap}(X:K.In h)(G:h.Ns mainGlobals mg)(k:o.Pn K=true):o.Ok K mg:=by
 unfold Pn at k;simp only[bp,cJ,gF]at k;obtain⟨k1,k2,k3,k4,k5,k6,k7,k8,k9⟩:=k;have F6:∀{c},o.own.contains c=true->mg c=some (.ref (clsAt K c)):=fun m=>mg_of X G (k2 _ (dU.mp m));refine⟨fun m=>mg_none_of X G (k1 _ (dU.mp m)),F6,fun m=>?_,fun{c f fs} l m=>?_,fun i d e=>?_,fun i c e=>?_,fun m n=>KA (F6 n) (k8 _ (dU.mp m)),fun m n=>⟨F6 n,k9 _ (dU.mp m)⟩⟩
 ·have q:=k3 _ (dU.mp m);exact⟨q.1,q.2.1,mg_of X G q.2.2⟩
 ·have q:=k4 _ (hZ l);refine⟨fun x hx=>?_⟩;cases cE.mp hx;exact⟨KC q.1,(dE (cJ.mp q.2 f (dU.mp m)):findIn K (.ref (clsAt K c)) f=some none)⟩
 ·have q:=k5 _ (dm e);exact⟨q.1,q.2⟩
 ·refine SI (k7 _ (dm e)) k6 ?_
  cases c<;>simp[tab,Function.comp_def]
end T_
end L2
namespace M06
open PySem.W (Frag)
open PySem L2
variable {aq aN:List (Str×Str)}{aH:List (Str×Bool)}{rows:List Tr}{ents:List (Str×Int)}{a9 c7:List (Str×Nat)}{aB:Str}{cs:List (Bool×Str×Str)}{aR:List Str}{A:Ab}
def top(i:Nat):Stmt:=PySem.Challenge.pw_talkhall_k06_owners.main.body.getD i (.Pass ⟨0,0,0,0⟩)
def N2:Stmt->List Stmt
 |.ClassDef _ _ _ b _ _ _ _ _ _ _=>b
 |_=>[]
def fS(i j:Nat):Stmt:=(N2 (top i)).getD j (.Pass ⟨0,0,0,0⟩)
def Ax:Df:=⟨none,"level","level",top 23,["role"]⟩
def gS:Df:=⟨some "Room","claim","Room.claim",fS 24 4,["self","who"]⟩
def h8:Df:=⟨some "Room","write_row","Room.write_row",fS 24 1,["self","who","word","parts"]⟩
def lh:Df:=⟨some "Room","let_in","Room.let_in",fS 24 2,["self","who","word","role"]⟩
def h_:Df:=⟨some "Room","give_role","Room.give_role",fS 24 3,["self","who","whom","role"]⟩
def j6:Df:=⟨some "Room","need_in","Room.need_in",fS 24 6,["self","who"]⟩
def gu:Df:=⟨some "Hall","need_people","Hall.need_people",fS 26 1,["self","names"]⟩
def gU:Df:=⟨some "Hall","place","Hall.place",fS 26 2,["self","room"]⟩
def ib:Df:=⟨some "Hall","place_for","Hall.place_for",fS 26 3,["self","names","room"]⟩
def o_:Df:=⟨some "Hall","come","Hall.come",fS 26 5,["self","who"]⟩
def gi:Df:=⟨some "Room","__init__","Room.__init__",fS 24 0,["self","who"]⟩
def jc:Df:=⟨some "Hall","__init__","Hall.__init__",fS 26 0,["self"]⟩
def mR:Df:=⟨some "Hall","found","Hall.found",fS 26 8,["self","who","room"]⟩
def d4:Df:=⟨some "Room","see_to_owner","Room.see_to_owner",fS 24 5,["self"]⟩
def jd:Df:=⟨some "Room","may_give","Room.may_give",fS 24 9,["self","who","whom","role"]⟩
def pb:Df:=⟨some "Room","role","Room.role",fS 24 18,["self","who","whom","role"]⟩
def mS:Df:=⟨some "Room","enter","Room.enter",fS 24 14,["self","who"]⟩
def mT:Df:=⟨some "Room","leave","Room.leave",fS 24 15,["self","who"]⟩
def mU:Df:=⟨some "Hall","enter","Hall.enter",fS 26 9,["self","who","room"]⟩
def mV:Df:=⟨some "Hall","leave","Hall.leave",fS 26 10,["self","who","room"]⟩
def pd:Df:=⟨some "Hall","role","Hall.role",fS 26 13,["self","who","room","whom","role"]⟩
def lj:Df:=⟨some "Hall","people","Hall.people",fS 26 6,["self"]⟩
def mW:Df:=⟨some "Hall","rooms","Hall.rooms",fS 26 7,["self"]⟩
def mX:Df:=⟨some "Room","roles","Room.roles",fS 24 26,["self"]⟩
def pf:Df:=⟨some "Room","rows","Room.rows",fS 24 30,["self"]⟩
def ll:Df:=⟨some "Room","barred","Room.barred",fS 24 28,["self"]⟩
def mY:Df:=⟨some "Room","asked","Room.asked",fS 24 29,["self"]⟩
def j7:Df:=⟨some "Room","setting","Room.setting",fS 24 27,["self","what"]⟩
def mZ:Df:=⟨some "Hall","roles","Hall.roles",fS 26 21,["self","room"]⟩
def ph:Df:=⟨some "Hall","rows","Hall.rows",fS 26 25,["self","room"]⟩
def lp:Df:=⟨some "Hall","barred","Hall.barred",fS 26 23,["self","room"]⟩
def m3:Df:=⟨some "Hall","asked","Hall.asked",fS 26 24,["self","room"]⟩
def j8:Df:=⟨some "Hall","setting","Hall.setting",fS 26 22,["self","room","what"]⟩
def xF:Df:=⟨none,"_law_rank","_law_rank",top 36,["_law_room","_law_who"]⟩
def xG:Df:=⟨none,"_law_word","_law_word",top 32,["_law_kept"]⟩
def ur:Df:=⟨none,"_law_begin","_law_begin",top 35,["_law_people"]⟩
def Ay:Df:=⟨none,"_law_row","_law_row",top 42,["_law_room","_law_who","_law_parts"]⟩
def pV:Df:=⟨none,"_law_enter","_law_enter",top 43,["_law_room","_law_who","_law_word_here"]⟩
def sY:Df:=⟨none,"_law_quit","_law_quit",top 44,["_law_room","_law_who","_law_number"]⟩
def Az:Df:=⟨none,"_law_mix","_law_mix",top 29,["_law_cell_here","_law_prime","_law_many"]⟩
def xH:Df:=⟨none,"_law_cell","_law_cell",top 28,["_law_script","_law_k"]⟩
def jI:Df:=⟨none,"_law_owned","_law_owned",top 45,["_law_room"]⟩
def kG:Df:=⟨none,"_law_changed","_law_changed",top 47,["_law_room","_law_deed_here"]⟩
def xI:Df:=⟨none,"_law_done","_law_done",top 46,["_law_model","_law_deed_here"]⟩
def ig:Df:=⟨none,"_law_refused_deed","_law_refused_deed",top 41,["_law_room","_law_deed_here"]⟩
def iT:Df:=⟨none,"_law_refused","_law_refused",top 39,["_law_model","_law_deed_here"]⟩
def sZ:Df:=⟨none,"_law_deed","_law_deed",top 49,["_law_cell_here","_law_model","_law_words_here"]⟩
def xJ:Df:=⟨none,"_law_call","_law_call",top 33,["_law_hall_here","_law_deed_here"]⟩
def xK:Df:=⟨none,"_law_told","_law_told",top 34,["_law_hall_here","_law_deed_here"]⟩
def s_:Df:=⟨none,"_law_same","_law_same",top 30,["_law_found","_law_due"]⟩
def xM:Df:=⟨none,"_law_both","_law_both",top 48,["_law_hall_here","_law_model","_law_deed_here"]⟩
def xN:Df:=⟨none,"_law_hall","_law_hall",top 50,["_law_hall_here","_law_model"]⟩
def l6:Df:=⟨none,"_law_is_as","_law_is_as",top 51,["_law_hall_here","_law_model"]⟩
def CI:Df:=⟨none,"law","law",top 52,["_law_script"]⟩
def DS:List Df:=[Ax,gS,h8,lh,h_,j6,gu,gU,ib,o_,gi,jc,mR,d4,jd,pb,mS,mT,mU,mV,pd,lj,mW,mX,pf,ll,mY,j7,mZ,ph,lp,m3,j8,xF,xG,ur,Ay,pV,sY,Az,xH,jI,kG,xI,ig,iT,sZ,xJ,xK,s_,xM,xN,l6,CI]
structure Po(K:Frag)(w:World)(mg:Str->Option Value):Prop where
 d:∀(i:Nat) {e:Df},DS[i]?=some e->e.Ok K mg
 ValueError:mg "ValueError"=none
 all:mg "all"=none
 bool:mg "bool"=none
 dict:mg "dict"=none
 int:mg "int"=none
 isinstance:mg "isinstance"=none
 len:mg "len"=none
 list:mg "list"=none
 max:mg "max"=none
 min:mg "min"=none
 range:mg "range"=none
 set:mg "set"=none
 sorted:mg "sorted"=none
 str:mg "str"=none
 tuple:mg "tuple"=none
 zip:mg "zip"=none
 AA:ze K (gS.adr K)
 S3:Hz K mg "Hall"
 S4:Hz K mg "Room"
 N3:JW K mg "ROLES" [.str "guest",.str "speaker",.str "keeper",.str "owner"]
 xO:g7 K ["Room"] "banned"
 xQ:g7 K ["Room"] "chosen"
 uu:g7 K ["Room"] "entries"
 N4:g7 K ["Hall"] "hands"
 pW:g7 K ["Room"] "invited"
 F7:g7 K ["Room"] "log"
 l7:g7 K ["Hall"] "persons"
 iU:g7 K ["Hall"] "places"
 d5:g7 K ["Room"] "ranks"
 AB:g7 K ["Room"] "read_marks"
 yw:g7 K ["Room"] "said_by_key"
 KZ:zY K w mg "SETTINGS" [("door",.tup [.str "open",.str "asked"]),("voice",.tup [.str "all",.str "some"]),("past",.tup [.str "shown",.str "hidden"])]
 Ew:Aj K w mg "SETTINGS" ["door","voice","past"]
 K0:g8 K (.ref (clsAt K "Barred")) [("Known",false),("NoPerson",false),("NoRoom",false),("NotIn",false),("NotAsked",false),("Barred",true),("NoRight",false),("NoRow",false),("NoHand",false),("NoLine",false)]
 N5:g8 K (.ref (clsAt K "Known")) [("Known",true),("NoPerson",false),("NoRoom",false),("NotIn",false),("NotAsked",false),("Barred",false),("NoRight",false),("NoRow",false),("NoHand",false),("NoLine",false)]
 K1:g8 K (.ref (clsAt K "NoHand")) [("Known",false),("NoPerson",false),("NoRoom",false),("NotIn",false),("NotAsked",false),("Barred",false),("NoRight",false),("NoRow",false),("NoHand",true),("NoLine",false)]
 K2:g8 K (.ref (clsAt K "NoLine")) [("Known",false),("NoPerson",false),("NoRoom",false),("NotIn",false),("NotAsked",false),("Barred",false),("NoRight",false),("NoRow",false),("NoHand",false),("NoLine",true)]
 Ex:g8 K (.ref (clsAt K "NoPerson")) [("Known",false),("NoPerson",true),("NoRoom",false),("NotIn",false),("NotAsked",false),("Barred",false),("NoRight",false),("NoRow",false),("NoHand",false),("NoLine",false)]
 HG:g8 K (.ref (clsAt K "NoRight")) [("Known",false),("NoPerson",false),("NoRoom",false),("NotIn",false),("NotAsked",false),("Barred",false),("NoRight",true),("NoRow",false),("NoHand",false),("NoLine",false)]
 K3:g8 K (.ref (clsAt K "NoRoom")) [("Known",false),("NoPerson",false),("NoRoom",true),("NotIn",false),("NotAsked",false),("Barred",false),("NoRight",false),("NoRow",false),("NoHand",false),("NoLine",false)]
 N6:g8 K (.ref (clsAt K "NoRow")) [("Known",false),("NoPerson",false),("NoRoom",false),("NotIn",false),("NotAsked",false),("Barred",false),("NoRight",false),("NoRow",true),("NoHand",false),("NoLine",false)]
 Ey:g8 K (.ref (clsAt K "NotAsked")) [("Known",false),("NoPerson",false),("NoRoom",false),("NotIn",false),("NotAsked",true),("Barred",false),("NoRight",false),("NoRow",false),("NoHand",false),("NoLine",false)]
 N7:g8 K (.ref (clsAt K "NotIn")) [("Known",false),("NoPerson",false),("NoRoom",false),("NotIn",true),("NotAsked",false),("Barred",false),("NoRight",false),("NoRow",false),("NoHand",false),("NoLine",false)]
 AD:g8 K (.type "ValueError") [("Known",true),("NoPerson",true),("NoRoom",true),("NotIn",true),("NotAsked",true),("Barred",true),("NoRight",true),("NoRow",true),("NoHand",true),("NoLine",true)]
 HH:mg "Barred"=some (.ref (clsAt K "Barred"))
 K4:mg "Known"=some (.ref (clsAt K "Known"))
 HI:mg "NoHand"=some (.ref (clsAt K "NoHand"))
 HJ:mg "NoLine"=some (.ref (clsAt K "NoLine"))
 CJ:mg "NoPerson"=some (.ref (clsAt K "NoPerson"))
 Ez:mg "NoRight"=some (.ref (clsAt K "NoRight"))
 HK:mg "NoRoom"=some (.ref (clsAt K "NoRoom"))
 K5:mg "NoRow"=some (.ref (clsAt K "NoRow"))
 CK:mg "NotAsked"=some (.ref (clsAt K "NotAsked"))
 K6:mg "NotIn"=some (.ref (clsAt K "NotIn"))
 CL:pO K mg "TalkError" ["Known","NoPerson","NoRoom","NotIn","NotAsked","Barred","NoRight","NoRow","NoHand","NoLine"]
 K7:qj K mg "Barred"
 vz:qj K mg "Known"
 EA:qj K mg "NoPerson"
 HL:qj K mg "NoRight"
 K8:qj K mg "NoRoom"
 EB:qj K mg "NotAsked"
 N8:qj K mg "NotIn"
abbrev CS(n:Nat)(d:Df)(a b:Nat):={F:bf->Ab->Rz Out//∀{P:Program} {w:World} {K:Frag} {mg:Str->Option Value} {base:Heap},Po K w mg->xB P w K mg base (ud P w) n d (uM K (eX a b F))}
abbrev CP(n:Nat)(d:Df)(a b:Nat):={F:bf->Rs Out//∀{P:Program} {w:World} {K:Frag} {mg:Str->Option Value} {base:Heap},Po K w mg->xB P w K mg base lq n d (spT K (qd a b F))}
abbrev CZ(n:Nat)(d:Df)(a b:Nat):={F:bf->Ab->Rz Out//∀{P:Program} {w:World} {K:Frag} {mg:Str->Option Value} {base:Heap},Po K w mg->xB P w K mg base lq n d (spT K (BR a b F))}
abbrev CR(n:Nat)(d:Df)(a b:Nat)(r:List Tr->Rs Tr):={F:bf->Rs Out//∀{P:Program} {w:World} {K:Frag} {mg:Str->Option Value} {base:Heap} {k:Nat},Po K w mg->n<=k->xB P w K mg base lq k d (spT K r)->xB P w K mg base lq (k+1) d (spT K (qd a b F))}
abbrev KS(n:Nat)(d:Df)(m:List Tr->Ab->Rz Tr):Prop:=∀{P:Program} {w:World} {K:Frag} {mg:Str->Option Value} {base:Heap},Po K w mg->xB P w K mg base (ud P w) n d (uM K m)
abbrev KP(n:Nat)(d:Df)(m:List Tr->Rs Tr):Prop:=∀{P:Program} {w:World} {K:Frag} {mg:Str->Option Value} {base:Heap},Po K w mg->xB P w K mg base lq n d (spT K m)
def F8:CP 1 Ax 1 1:=⟨_,fun T=>i_ ["role"] (T.d 0 rfl) fun _ _ _ _ _ _ _ hr=>(bL (bU (Xg (aA hr) T.N3 (ai 0))))⟩
def AE:=qd 1 1 F8.1
theorem vA:KP 1 Ax AE:=F8.2
def jw:CP 2 gS 2 2:=⟨_,fun T=>i_ ["self","who"] (T.d 1 rfl) fun _ _ _ _ _ _ _ hr=>(bL (bU (bD (aj (Pk (dJ (vA T) hr (aj (bt (aA hr) (cH T.d5 (ai 0)) (ai 1)) az))) (aj (bt (aA hr) (cH T.uu (ai 0)) (ai 1)) az)))))⟩
def gV:=qd 2 2 jw.1
theorem AF:KP 2 gS gV:=jw.2
def fA:CS 1 h8 4 5:=⟨_,fun T=>gP ["self","who","word","parts","number"] (T.d 2 rfl) fun nd _ _ _ _ _ _ hr=>(aJ (gA (i:=4) (aI (d8 gJ (bZ hV T.len (aj (cH T.F7 (ai 0)) az)) aT)) nd) (aJ (b_ (zo mn pA g_ uf (mM T.F7 (av (ai 0))) (ax (aI (d8 gJ (bD (aj (ai 4) (aj (ai 1) (aj (ai 2) az)))) (ai 3))) bb))) (bo (dR (av (ai 4))))))⟩
def l8:=eX 4 5 fA.1
theorem ij:KS 1 h8 l8:=fA.2
def iF:CS 2 lh 4 4:=⟨_,fun T=>gP ["self","who","word","role"] (T.d 3 rfl) fun _ _ _ _ _ _ _ hr=>(aJ (gO (aA hr) (mM T.uu (av (ai 0))) (av (ai 1)) (dg (ij T) hr (av (ai 0)) (ax (av (ai 1)) (ax (av (ai 2)) (ax (aI (bD az)) bb))))) (aJ (gO (aA hr) (mM T.d5 (av (ai 0))) (av (ai 1)) (av (ai 3))) (bo (b_ (SF (mM T.pW (av (ai 0))) (av (ai 1)) (aI fc))))))⟩
def qD:=eX 4 4 iF.1
theorem qE:KS 2 lh qD:=iF.2
def fB:CS 2 h_ 4 4:=⟨_,fun T=>gP ["self","who","whom","role"] (T.d 4 rfl) fun _ _ _ _ _ _ _ hr=>(aJ (b_ (dg (ij T) hr (av (ai 0)) (ax (av (ai 1)) (ax (aI ar) (ax (aI (bD (aj (ai 2) (aj (ai 3) az)))) bb))))) (bo (gO (aA hr) (mM T.d5 (av (ai 0))) (av (ai 2)) (av (ai 3)))))⟩
def l9:=eX 4 4 fB.1
theorem l_:KS 2 h_ l9:=fB.2
def gW:CS 1 j6 2 2:=⟨_,fun T=>gP ["self","who"] (T.d 5 rfl) fun _ _ _ _ _ _ _ hr=>(bo (eK (bK (aU (sN (aA hr)) (ai 1) (cH T.d5 (ai 0)))) (bo (iE T.N8 (ax (aI (kX (de (hX (ai 1)) (de ar qC)))) bb))) cM))⟩
def j9:=eX 2 2 gW.1
theorem j_:KS 1 j6 j9:=gW.2
def cO:CS 1 gu 2 3:=⟨_,fun T=>gP ["self","names","name"] (T.d 6 rfl) fun nd _ _ _ _ _ _ hr=>(bo (Cz (lZ (ai 1)) (eJ 2 nd) (eP 2) (bo (eK (bK (aU (sN (aA hr)) (ai 2) (cH T.l7 (ai 0)))) (bo (iE T.EA (ax (aI (kX (de ar (de (hX (ai 2)) qC)))) bb))) cM))))⟩
def gv:=eX 2 3 cO.1
theorem kc:KS 1 gu gv:=cO.2
def jx:CS 1 gU 2 2:=⟨_,fun T=>gP ["self","room"] (T.d 7 rfl) fun _ _ _ _ _ _ _ hr=>(aJ (eK (bK (aU (sN (aA hr)) (ai 1) (cH T.iU (ai 0)))) (bo (iE T.K8 (ax (aI (kX (de ar (de (hX (ai 1)) qC)))) bb))) cM) (bo (dR (sU (aA hr) (mM T.iU (av (ai 0))) (av (ai 1))))))⟩
def tm:=eX 2 2 jx.1
theorem AG:KS 1 gU tm:=jx.2
def dz:CS 2 ib 3 3:=⟨_,fun T=>gP ["self","names","room"] (T.d 8 rfl) fun _ _ _ _ _ _ _ hr=>(aJ (b_ (dg (kc T) hr (av (ai 0)) (ax (av (ai 1)) bb))) (bo (dR (dg (AG T) hr (av (ai 0)) (ax (av (ai 2)) bb)))))⟩
def ik:=eX 3 3 dz.1
theorem il:KS 2 ib ik:=dz.2
def uT:CS 1 o_ 2 2:=⟨_,fun T=>gP ["self","who"] (T.d 9 rfl) fun _ _ _ _ _ _ _ hr=>(aJ (eK (bK (aU (mH (aA hr)) (ai 1) (cH T.l7 (ai 0)))) (bo (iE T.vz (ax (aI (kX (de (hX (ai 1)) (de ar qC)))) bb))) cM) (bo (gO (aA hr) (mM T.l7 (av (ai 0))) (av (ai 1)) (aI yv))))⟩
def CM:=eX 2 2 uT.1
theorem uU:KS 1 o_ CM:=uT.2
def nh:CS 3 gi 2 2:=⟨_,fun T=>gP ["self","who"] (T.d 10 rfl) fun _ _ _ _ _ _ _ hr=>(aJ (o7 T.F7 (av (ai 0)) (fH (zp az))) (aJ (o7 T.d5 (av (ai 0)) (fH kU)) (aJ (o7 T.uu (av (ai 0)) (fH kU)) (aJ (o7 T.xQ (av (ai 0)) (fH (xA (FO rfl) T.dict (aj (Hy (N':=["what"]) (ix:=[none]) (fP.of (N:=["self","who"]) (sc:=aW gi.st) rfl rfl (by decide+kernel)) (Sz T.Ew) ⟨fun s H ex=>⟨(eJ 0 (by show List.Nodup (["what"]:List Str);decide+kernel)),zm,(bD (aj (ai 0) (aj (bt (aA hr) (Xd T.KZ (ai 0)) aT) az)))⟩⟩ (eP 0)) az)))) (aJ (o7 T.xO (av (ai 0)) (fH kU)) (aJ (o7 T.pW (av (ai 0)) (fH kU)) (aJ (o7 T.AB (av (ai 0)) (fH kU)) (aJ (o7 T.yw (av (ai 0)) (fH kU)) (bo (b_ (dg (qE T) hr (av (ai 0)) (ax (av (ai 1)) (ax (aI ar) (ax (aI ar) bb))))))))))))))⟩
def vc:=eX 2 2 nh.1
theorem vd:KS 3 gi vc:=nh.2
def nj:CS 1 jc 1 1:=⟨_,fun T=>gP ["self"] (T.d 11 rfl) fun _ _ _ _ _ _ _ hr=>(aJ (o7 T.l7 (av (ai 0)) (fH kU)) (aJ (o7 T.iU (av (ai 0)) (fH kU)) (bo (o7 T.N4 (av (ai 0)) (fH (zp az))))))⟩
def nr:=eX 1 1 nj.1
theorem ve:KS 1 jc nr:=nj.2
def tq:CS 5 mR 3 3:=⟨_,fun T=>gP ["self","who","room"] (T.d 12 rfl) fun _ _ _ _ _ _ _ hr=>(aJ (b_ (dg (kc T) hr (av (ai 0)) (ax (aI (bD (aj (ai 1) az))) bb))) (aJ (eK (bK (aU (mH (aA hr)) (ai 2) (cH T.iU (ai 0)))) (bo (iE T.vz (ax (aI (kX (de ar (de (hX (ai 2)) (de ar qC))))) bb))) cM) (bo (gO (aA hr) (mM T.iU (av (ai 0))) (av (ai 2)) (SK (vd T) T.S4 hr (ax (av (ai 1)) bb))))))⟩
def AH:=eX 3 3 tq.1
theorem AI:KS 5 mR AH:=tq.2
def d6:CS 4 d4 1 3:=⟨_,fun T=>gP ["self","owners","heir"] (T.d 13 rfl) fun nd _ _ _ _ _ _ hr=>(aJ (Ks (i:=1) (N':=["name","self"]) (ix:=[none,some 0]) (fP.of (N:=["self","owners","heir"]) (sc:=aW d4.st) rfl rfl (by decide+kernel)) (FV (cH T.d5 (ai 0))) ⟨fun s H ex=>⟨(eJ 0 (by show List.Nodup (["name","self"]:List Str);decide+kernel)),(uQ (aU (dh (cL hr)) (bt (aA hr) (cH T.d5 (ai 1)) (ai 0)) ar)),(ai 0)⟩⟩ (eP 0) nd) (bo (eK (bK (dO (lY (aU Q_ (bZ hV T.len (aj (cH T.d5 (ai 0)) az)) aT) (hW (aU (dh (cL hr)) (bZ hV T.len (aj (ai 1) az)) aT))))) (aJ (gA (i:=2) (aI (KH (AF T) T.AA hr T.min (dI (Np rfl) T.list (aj (cH T.d5 (ai 0)) az)) (ai 0))) nd) (bo (b_ (dg (l_ T) hr (av (ai 0)) (ax (av (ai 2)) (ax (av (ai 2)) (ax (aI ar) bb))))))) cM)))⟩
def ji:=eX 1 3 d6.1
theorem fN:KS 4 d4 ji:=d6.2
def gj:CP 2 jd 4 4:=⟨_,fun T=>i_ ["self","who","whom","role"] (T.d 14 rfl) fun _ _ _ _ _ _ _ hr=>(bg (ff (aU (dh (cL hr)) (bt (aA hr) (cH T.d5 (ai 0)) (ai 1)) ar) (bL (bU (zl ZU (bZ (Pg rfl) T.max (aj (dJ (vA T) hr (aj (bt (aA hr) (cH T.d5 (ai 0)) (ai 2)) az)) (aj (dJ (vA T) hr (aj (ai 3) az)) az))) (dJ (vA T) hr (aj ar az))))) cY) (bL (bU (zl (dh (cL hr)) (bt (aA hr) (cH T.d5 (ai 0)) (ai 1)) ar))))⟩
def nu:=qd 4 4 gj.1
theorem vf:KP 2 jd nu:=gj.2
def gB:CS 5 pb 4 4:=⟨_,fun T=>gP ["self","who","whom","role"] (T.d 15 rfl) fun _ _ _ _ _ _ _ hr=>(aJ (b_ (dg (j_ T) hr (av (ai 0)) (ax (av (ai 1)) bb))) (aJ (b_ (dg (j_ T) hr (av (ai 0)) (ax (av (ai 2)) bb))) (aJ (eK (bK (xy (lX (ja (vf T) hr (ai 0) (aj (ai 1) (aj (ai 2) (aj (ai 3) az))))))) (bo (iE T.HL (ax (aI (kX (de (hX (ai 1)) (de ar (de (hX (ai 2)) (de ar (de (hX (ai 3)) qC))))))) bb))) cM) (aJ (eK (bK (aU (dh (cL hr)) (bt (aA hr) (cH T.d5 (ai 0)) (ai 2)) (ai 3))) (bo (iE T.vz (ax (aI (kX (de (hX (ai 2)) (de ar (de (hX (ai 3)) qC))))) bb))) cM) (aJ (b_ (dg (l_ T) hr (av (ai 0)) (ax (av (ai 1)) (ax (av (ai 2)) (ax (av (ai 3)) bb))))) (bo (b_ (Ar (fN T) hr (av (ai 0))))))))))⟩
def fh:=eX 4 4 gB.1
theorem CN:KS 5 pb fh:=gB.2
def cV:CS 5 mS 2 2:=⟨_,fun T=>gP ["self","who"] (T.d 16 rfl) fun _ _ _ _ _ _ _ hr=>(aJ (eK (bK (aU (mH (aA hr)) (ai 1) (cH T.d5 (ai 0)))) (bo (iE T.vz (ax (aI (kX (de (hX (ai 1)) (de ar qC)))) bb))) cM) (aJ (eK (bK (aU (mH (aA hr)) (ai 1) (cH T.xO (ai 0)))) (bo (iE T.K7 (ax (aI (kX (de (hX (ai 1)) (de ar qC)))) bb))) cM) (aJ (eK (bK (dO (lY (aU (dh (cL hr)) (bt (aA hr) (cH T.xQ (ai 0)) ar) ar) (hW (aU (sN (aA hr)) (ai 1) (cH T.pW (ai 0))))))) (bo (iE T.EB (ax (aI (kX (de (hX (ai 1)) (de ar qC)))) bb))) cM) (aJ (b_ (dg (qE T) hr (av (ai 0)) (ax (av (ai 1)) (ax (aI ar) (ax (aI ar) bb))))) (bo (b_ (Ar (fN T) hr (av (ai 0)))))))))⟩
def dM:=eX 2 2 cV.1
theorem AJ:KS 5 mS dM:=cV.2
def fD:CS 5 mT 2 2:=⟨_,fun T=>gP ["self","who"] (T.d 17 rfl) fun _ _ _ _ _ _ _ hr=>(aJ (b_ (dg (j_ T) hr (av (ai 0)) (ax (av (ai 1)) bb))) (aJ (b_ (dg (ij T) hr (av (ai 0)) (ax (av (ai 1)) (ax (aI ar) (ax (aI (bD az)) bb))))) (aJ (b_ (Kr (mM T.d5 (av (ai 0))) (av (ai 1)))) (bo (b_ (Ar (fN T) hr (av (ai 0))))))))⟩
def fE:=eX 2 2 fD.1
theorem AK:KS 5 mT fE:=fD.2
def jy:CS 6 mU 3 3:=⟨_,fun T=>gP ["self","who","room"] (T.d 18 rfl) fun _ _ _ _ _ _ _ hr=>(bo (b_ (dg (AJ T) hr (dg (il T) hr (av (ai 0)) (ax (aI (bD (aj (ai 1) az))) (ax (av (ai 2)) bb))) (ax (av (ai 1)) bb))))⟩
def m4:=eX 3 3 jy.1
theorem AL:KS 6 mU m4:=jy.2
def jz:CS 6 mV 3 3:=⟨_,fun T=>gP ["self","who","room"] (T.d 19 rfl) fun _ _ _ _ _ _ _ hr=>(bo (b_ (dg (AK T) hr (dg (il T) hr (av (ai 0)) (ax (aI (bD (aj (ai 1) az))) (ax (av (ai 2)) bb))) (ax (av (ai 1)) bb))))⟩
def m5:=eX 3 3 jz.1
theorem AM:KS 6 mV m5:=jz.2
def kH:CS 6 pd 5 5:=⟨_,fun T=>gP ["self","who","room","whom","role"] (T.d 20 rfl) fun _ _ _ _ _ _ _ hr=>(bo (b_ (dg (CN T) hr (dg (il T) hr (av (ai 0)) (ax (aI (bD (aj (ai 1) (aj (ai 3) az)))) (ax (av (ai 2)) bb))) (ax (av (ai 1)) (ax (av (ai 3)) (ax (av (ai 4)) bb))))))⟩
def CO:=eX 5 5 kH.1
theorem CQ:KS 6 pd CO:=kH.2
def iG:CP 1 lj 1 1:=⟨_,fun T=>i_ ["self"] (T.d 21 rfl) fun _ _ _ _ _ _ _ hr=>(bL (bU (dI gf T.tuple (aj (bZ (iQ rfl) T.sorted (aj (cH T.l7 (ai 0)) az)) az))))⟩
def qF:=qd 1 1 iG.1
theorem yx:KP 1 lj qF:=iG.2
def jA:CP 1 mW 1 1:=⟨_,fun T=>i_ ["self"] (T.d 22 rfl) fun _ _ _ _ _ _ _ hr=>(bL (bU (dI gf T.tuple (aj (bZ (iQ rfl) T.sorted (aj (cH T.iU (ai 0)) az)) az))))⟩
def tB:=qd 1 1 jA.1
theorem AN:KP 1 mW tB:=jA.2
def gm:CP 1 gU 2 2:=⟨_,fun T=>i_ ["self","room"] (T.d 7 rfl) fun _ _ _ _ _ _ _ hr=>(bg (ff (aU (sN (aA hr)) (ai 1) (cH T.iU (ai 0))) (bL Xj) cY) (bL (bU (bt (aA hr) (cH T.iU (ai 0)) (ai 1)))))⟩
def nv:=qd 2 2 gm.1
theorem eN:KP 1 gU nv:=gm.2
def jB:CP 1 mX 1 1:=⟨_,fun T=>i_ ["self"] (T.d 23 rfl) fun _ _ _ _ _ _ _ hr=>(bL (bU (dI gf T.tuple (aj (Kx T.sorted (cH T.d5 (ai 0))) az))))⟩
def tD:=qd 1 1 jB.1
theorem AO:KP 1 mX tD:=jB.2
def kI:CP 1 pf 1 1:=⟨_,fun T=>i_ ["self"] (T.d 24 rfl) fun _ _ _ _ _ _ _ hr=>(bL (bU (dI gf T.tuple (aj (cH T.F7 (ai 0)) az))))⟩
def uV:=qd 1 1 kI.1
theorem CT:KP 1 pf uV:=kI.2
def iH:CP 1 ll 1 1:=⟨_,fun T=>i_ ["self"] (T.d 25 rfl) fun _ _ _ _ _ _ _ hr=>(bL (bU (dI gf T.tuple (aj (bZ (iQ rfl) T.sorted (aj (cH T.xO (ai 0)) az)) az))))⟩
def qG:=qd 1 1 iH.1
theorem yy:KP 1 ll qG:=iH.2
def jD:CP 1 mY 1 1:=⟨_,fun T=>i_ ["self"] (T.d 26 rfl) fun _ _ _ _ _ _ _ hr=>(bL (bU (dI gf T.tuple (aj (bZ (iQ rfl) T.sorted (aj (cH T.pW (ai 0)) az)) az))))⟩
def tH:=qd 1 1 jD.1
theorem AQ:KP 1 mY tH:=jD.2
def gX:CP 1 j7 2 2:=⟨_,fun T=>i_ ["self","what"] (T.d 27 rfl) fun _ _ _ _ _ _ _ hr=>(bL (bU (bt (aA hr) (cH T.xQ (ai 0)) (ai 1))))⟩
def pj:=qd 2 2 gX.1
theorem xR:KP 1 j7 pj:=gX.2
def jE:CP 2 mZ 2 2:=⟨_,fun T=>i_ ["self","room"] (T.d 28 rfl) fun _ _ _ _ _ _ _ hr=>(bL (bU (pQ (AO T) hr (ja (eN T) hr (ai 0) (aj (ai 1) az)))))⟩
def tK:=qd 2 2 jE.1
theorem AR:KP 2 mZ tK:=jE.2
def kJ:CP 2 ph 2 2:=⟨_,fun T=>i_ ["self","room"] (T.d 29 rfl) fun _ _ _ _ _ _ _ hr=>(bL (bU (pQ (CT T) hr (ja (eN T) hr (ai 0) (aj (ai 1) az)))))⟩
def uW:=qd 2 2 kJ.1
theorem CU:KP 2 ph uW:=kJ.2
def iI:CP 2 lp 2 2:=⟨_,fun T=>i_ ["self","room"] (T.d 30 rfl) fun _ _ _ _ _ _ _ hr=>(bL (bU (pQ (yy T) hr (ja (eN T) hr (ai 0) (aj (ai 1) az)))))⟩
def qH:=qd 2 2 iI.1
theorem yz:KP 2 lp qH:=iI.2
def jF:CP 2 m3 2 2:=⟨_,fun T=>i_ ["self","room"] (T.d 31 rfl) fun _ _ _ _ _ _ _ hr=>(bL (bU (pQ (AQ T) hr (ja (eN T) hr (ai 0) (aj (ai 1) az)))))⟩
def tL:=qd 2 2 jF.1
theorem AS:KP 2 m3 tL:=jF.2
def gY:CP 2 j8 3 3:=⟨_,fun T=>i_ ["self","room","what"] (T.d 32 rfl) fun _ _ _ _ _ _ _ hr=>(bL (bU (ja (xR T) hr (ja (eN T) hr (ai 0) (aj (ai 1) az)) (aj (ai 2) az))))⟩
def pq:=qd 3 3 gY.1
theorem xT:KP 2 j8 pq:=gY.2
def md:CP 1 xF 2 2:=⟨_,fun T=>i_ ["_law_room","_law_who"] (T.d 33 rfl) fun _ _ _ _ _ _ _ hr=>(bL (bU (Cy (aU (mH (aA hr)) (ai 1) (bt (aA hr) (ai 0) ar)) (Xh (aA hr) (aj ar (aj ar (aj ar (aj ar az)))) (bt (aA hr) (bt (aA hr) (ai 0) ar) (ai 1))) (Pk aT))))⟩
def xU:=qd 2 2 md.1
theorem tM:KP 1 xF xU:=md.2
def CV:CP 1 xG 1 3:=⟨_,fun T=>i_ ["_law_kept","_law_kinds","_law_words_here"] (T.d 34 rfl) fun nd _ _ _ _ _ _ hr=>(bg (d9 (i:=1) (qB (aj (kW T.N5 T.K4 T.isinstance (ai 0)) (aj (kW T.Ex T.CJ T.isinstance (ai 0)) az))) nd) (bg (d9 (i:=1) (d8 gJ (ai 1) (qB (aj (kW T.K3 T.HK T.isinstance (ai 0)) (aj (kW T.N7 T.K6 T.isinstance (ai 0)) az)))) nd) (bg (d9 (i:=1) (d8 gJ (ai 1) (qB (aj (kW T.Ey T.CK T.isinstance (ai 0)) (aj (kW T.K0 T.HH T.isinstance (ai 0)) az)))) nd) (bg (d9 (i:=1) (d8 gJ (ai 1) (qB (aj (kW T.HG T.Ez T.isinstance (ai 0)) az))) nd) (bg (d9 (i:=1) (d8 gJ (ai 1) (qB (aj (kW T.N6 T.K5 T.isinstance (ai 0)) (aj (kW T.K1 T.HI T.isinstance (ai 0)) (aj (kW T.K2 T.HJ T.isinstance (ai 0)) az))))) nd) (bg (d9 (i:=2) (bD (aj ar (aj ar (aj ar (aj ar (aj ar (aj ar az))))))) nd) (bg (d9 (i:=2) (d8 gJ (ai 2) (bD (aj ar (aj ar (aj ar (aj ar az)))))) nd) (bg (ff (dO (Cw (aU (GU (cL hr)) (Xf PySem.F.slot_list_count PySem.F.type_list_count (RX (aA hr)) (ai 1) yv) aT) (uP (xy (lX (SH T.AD T.ValueError T.isinstance (ai 0))))))) (bL (bU ar)) cY) (bL (bU (bt (aA hr) (ai 2) (Xf PySem.F.slot_list_index PySem.F.type_list_index (RW (aA hr)) (ai 1) yv))))))))))))⟩
def xV:=qd 1 3 CV.1
theorem K9:KP 1 xG xV:=CV.2
def zt:CS 1 ur 1 1:=⟨_,fun T=>gP ["_law_people"] (T.d 35 rfl) fun _ _ _ _ _ _ _ hr=>(bo (dR (Ky (mO (av ar) (fH (xA Nd T.list (aj (ai 0) az))) (mO (av ar) (fH kU) J7)))))⟩
def zu:=eX 1 1 zt.1
theorem HM:KS 1 ur zu:=zt.2
def vB:CS 1 Ay 3 3:=⟨_,fun T=>gP ["_law_room","_law_who","_law_parts"] (T.d 36 rfl) fun _ _ _ _ _ _ _ hr=>(aJ (b_ (zo mn pA g_ uf (sU (aA hr) (av (ai 0)) (aI ar)) (ax (aI (d8 gJ (bD (aj (d8 gJ (bZ hV T.len (aj (bt (aA hr) (ai 0) ar) az)) aT) (aj (ai 1) az))) (ai 2))) bb))) (bo (dR (aI (bZ hV T.len (aj (bt (aA hr) (ai 0) ar) az))))))⟩
def AU:=eX 3 3 vB.1
theorem tN:KS 1 Ay AU:=vB.2
def pX:CS 2 pV 3 5:=⟨_,fun T=>gP ["_law_room","_law_who","_law_word_here","_law_number","_law_first"] (T.d 37 rfl) fun nd _ _ _ _ _ _ hr=>(aJ (gA (i:=3) (fR (tN T) hr (ax (av (ai 0)) (ax (av (ai 1)) (ax (aI (bD (aj (ai 2) az))) bb)))) nd) (aJ (gA (i:=4) (aI (Cy (aU (dh (cL hr)) (bt (aA hr) (ai 0) ar) ar) aT (ai 3))) nd) (aJ (b_ (zo mn pA g_ uf (sU (aA hr) (av (ai 0)) (aI ar)) (ax (aI (bD (aj (ai 1) (aj (ai 4) (aj (ai 3) (aj fc az)))))) bb))) (aJ (gO (aA hr) (sU (aA hr) (av (ai 0)) (aI ar)) (av (ai 1)) (aI ar)) (bo (gO (aA hr) (av (ai 0)) (aI ar) (fH (SD (N':=["_law_one","_law_who"]) (ix:=[none,some 1]) (fP.of (N:=["_law_room","_law_who","_law_word_here","_law_number","_law_first"]) (sc:=aW pV.st) rfl rfl (by decide+kernel)) (lZ (bt (aA hr) (ai 0) ar)) ⟨fun s H ex=>⟨(eJ 0 (by show List.Nodup (["_law_one","_law_who"]:List Str);decide+kernel)),(uQ (aU (GU (cL hr)) (ai 0) (ai 1))),(ai 0)⟩⟩ (eP 0)))))))))⟩
def uv:=eX 3 5 pX.1
theorem zv:KS 2 pV uv:=pX.2
def tR:CS 1 sY 3 3:=⟨_,fun T=>gP ["_law_room","_law_who","_law_number"] (T.d 38 rfl) fun _ _ _ _ _ _ _ hr=>(aJ (b_ (Kr (sU (aA hr) (av (ai 0)) (aI ar)) (av (ai 1)))) (bo (gO (aA hr) (av (ai 0)) (aI ar) (fH (SD (N':=["_law_stay","_law_who","_law_number"]) (ix:=[none,some 1,some 2]) (fP.of (N:=["_law_room","_law_who","_law_number"]) (sc:=aW sY.st) rfl rfl (by decide+kernel)) (lZ (bt (aA hr) (ai 0) ar)) ⟨fun s H ex=>⟨(eJ 0 (by show List.Nodup (["_law_stay","_law_who","_law_number"]:List Str);decide+kernel)),zm,(Cy (dO (lY (aU (dh (cL hr)) (bt (aA hr) (ai 0) aT) (ai 1)) (hW (aU BN (bt (aA hr) (ai 0) aT) fc)))) (d8 gJ (uS (ai 0) o5 (o6 aT)) (bD (aj (ai 2) az))) (ai 0))⟩⟩ (eP 0))))))⟩
def xW:=eX 3 3 tR.1
theorem CW:KS 1 sY xW:=tR.2
def vC:CP 1 Az 3 4:=⟨_,fun T=>i_ ["_law_cell_here","_law_prime","_law_many","_law_blend"] (T.d 39 rfl) fun nd _ _ _ _ _ _ hr=>(bg (d9 (i:=3) (d8 BJ (d8 Jm (ai 0) aT) (ai 1)) nd) (bL (bU (d8 BJ (d8 BJ (d8 Jm (ai 3) (d8 gJ (ai 3) aT)) (ai 1)) (ai 2)))))⟩
def F9:=qd 3 4 vC.1
theorem iJ:KP 1 Az F9:=vC.2
def CY:CP 1 xH 2 2:=⟨_,fun T=>i_ ["_law_script","_law_k"] (T.d 40 rfl) fun _ _ _ _ _ _ _ hr=>(bg (ff (aU MV (ai 1) (bZ hV T.len (aj (ai 0) az))) (bL (bU (bt (aA hr) (ai 0) (ai 1)))) cY) (bL (bU aT)))⟩
def C0:=qd 2 2 CY.1
theorem K_:KP 1 xH C0:=CY.2
def pY:CS 2 jI 1 3:=⟨_,fun T=>gP ["_law_room","_law_most","_law_there"] (T.d 41 rfl) fun nd _ _ _ _ _ _ hr=>(aJ (eK (bK (dO (Cw (xy (lX (bt (aA hr) (ai 0) ar))) (uP (aU (mH (aA hr)) ar (Pl (N':=["_law_who","_law_room"]) (ix:=[none,some 0]) (fP.of (N:=["_law_room","_law_most","_law_there"]) (sc:=aW jI.st) rfl rfl (by decide+kernel)) (FV (bt (aA hr) (ai 0) ar)) ⟨fun s H ex=>⟨(eJ 0 (by show List.Nodup (["_law_who","_law_room"]:List Str);decide+kernel)),zm,(bt (aA hr) (bt (aA hr) (ai 1) ar) (ai 0))⟩⟩ (eP 0))))))) (bo SA) cM) (aJ (gA (i:=1) (aI (bZ (Pg rfl) T.max (aj (Pl (N':=["_law_who","_law_room"]) (ix:=[none,some 0]) (fP.of (N:=["_law_room","_law_most","_law_there"]) (sc:=aW jI.st) rfl rfl (by decide+kernel)) (FV (bt (aA hr) (ai 0) ar)) ⟨fun s H ex=>⟨(eJ 0 (by show List.Nodup (["_law_who","_law_room"]:List Str);decide+kernel)),zm,(dJ (tM T) hr (aj (ai 1) (aj (ai 0) az)))⟩⟩ (eP 0)) az))) nd) (aJ (NK (i:=2) (N':=["_law_stay","_law_most","_law_room"]) (ix:=[none,some 1,some 0]) (fP.of (N:=["_law_room","_law_most","_law_there"]) (sc:=aW jI.st) rfl rfl (by decide+kernel)) (lZ (bt (aA hr) (ai 0) ar)) ⟨fun s H ex=>⟨(eJ 0 (by show List.Nodup (["_law_stay","_law_most","_law_room"]:List Str);decide+kernel)),(uQ (dO (lY (aU BN (bt (aA hr) (ai 0) aT) fc) (hW (aU (dh (cL hr)) (dJ (tM T) hr (aj (ai 2) (aj (bt (aA hr) (ai 0) aT) az))) (ai 1)))))),(bt (aA hr) (ai 0) aT)⟩⟩ (eP 0) nd) (aJ (gO (aA hr) (sU (aA hr) (av (ai 0)) (aI ar)) (aI (bt (aA hr) (ai 2) aT)) (aI ar)) (bo (b_ (fR (tN T) hr (ax (av (ai 0)) (ax (aI (bt (aA hr) (ai 2) aT)) (ax (aI (bD (aj ar (aj (bt (aA hr) (ai 2) aT) (aj ar az))))) bb))))))))))⟩
def me:=eX 1 3 pY.1
theorem HN:KS 2 jI me:=pY.2
def kK:CS 2 kG 2 6:=⟨_,fun T=>gP ["_law_room","_law_deed_here","_law_word_here","_law_who","_law_names","_law_number"] (T.d 42 rfl) fun nd _ _ _ _ _ _ hr=>(aJ (Pm (FU (is:=[2,3]) (o4 (i:=2) (o4 (i:=3) FT nd) nd)) (DJ [2,3]) (aI (uS (ai 1) o5 (o6 aT)))) (aJ (gA (i:=4) (fH (xA (FO rfl) T.dict (aj (qB (aj (bD (aj ar (aj ar az))) (aj (bD (aj ar (aj ar az))) az))) az))) nd) (aJ (gA (i:=5) (fR (tN T) hr (ax (av (ai 0)) (ax (av (ai 3)) (ax (aI (d8 gJ (bD (aj (Kq (aA hr) (ai 4) (ai 2) (ai 2)) az)) (uS (ai 1) (o6 aT) o5))) bb)))) nd) (aJ (eK (bK (aU (dh (cL hr)) (ai 2) ar)) (bo (gO (aA hr) (av (ai 0)) (aI (bt (aA hr) (ai 1) aT)) (aI (bt (aA hr) (ai 1) aT)))) cM) (aJ (eK (bK (aU (dh (cL hr)) (ai 2) ar)) (bo (b_ (zo mn pA g_ uf (sU (aA hr) (av (ai 0)) (aI ar)) (ax (aI (bt (aA hr) (ai 1) aT)) bb)))) cM) (aJ (eK (bK (aU (dh (cL hr)) (ai 2) ar)) (bo (gO (aA hr) (sU (aA hr) (av (ai 0)) (aI ar)) (aI (bt (aA hr) (ai 1) aT)) (aI (bt (aA hr) (ai 1) aT)))) cM) (aJ (eK (bK (aU (dh (cL hr)) (ai 2) ar)) (bo (b_ (zo mn pA g_ uf (sU (aA hr) (av (ai 0)) (aI ar)) (ax (aI (bt (aA hr) (ai 1) aT)) bb)))) cM) (aJ (eK (bK (aU (dh (cL hr)) (ai 2) ar)) (bo (gO (aA hr) (av (ai 0)) (aI ar) (fH (SD (N':=["_law_one","_law_deed_here"]) (ix:=[none,some 1]) (fP.of (N:=["_law_room","_law_deed_here","_law_word_here","_law_who","_law_names","_law_number"]) (sc:=aW kG.st) rfl rfl (by decide+kernel)) (lZ (bt (aA hr) (ai 0) ar)) ⟨fun s H ex=>⟨(eJ 0 (by show List.Nodup (["_law_one","_law_deed_here"]:List Str);decide+kernel)),(uQ (aU (GU (cL hr)) (ai 0) (bt (aA hr) (ai 1) aT))),(ai 0)⟩⟩ (eP 0))))) cM) (bo (eK (bK (dO (lY (aU (mH (aA hr)) (ai 2) (bD (aj ar (aj ar az)))) (hW (aU (mH (aA hr)) (bt (aA hr) (ai 1) aT) (bt (aA hr) (ai 0) ar)))))) (bo (b_ (fR (CW T) hr (ax (av (ai 0)) (ax (aI (bt (aA hr) (ai 1) aT)) (ax (av (ai 5)) bb)))))) cM))))))))))⟩
def pv:=eX 2 6 kK.1
theorem C1:KS 2 kG pv:=kK.2
def iV:CS 3 xI 2 5:=⟨_,fun T=>gP ["_law_model","_law_deed_here","_law_word_here","_law_who","_law_room"] (T.d 43 rfl) fun nd _ _ _ _ _ _ hr=>(aJ (Pm (FU (is:=[2,3]) (o4 (i:=2) (o4 (i:=3) FT nd) nd)) (DJ [2,3]) (aI (uS (ai 1) o5 (o6 aT)))) (aJ (eK (bK (aU (dh (cL hr)) (ai 2) ar)) (aJ (b_ (zo mn pA g_ uf (sU (aA hr) (av (ai 0)) (aI ar)) (ax (av (ai 3)) bb))) (bo (dR (aI fc)))) cM) (aJ (eK (bK (aU (dh (cL hr)) (ai 2) ar)) (aJ (gA (i:=4) (Ky (mO (av ar) (fH (zp az)) (mO (av ar) (fH kU) (mO (av ar) (fH (zp az)) (mO (av ar) (fH (zp az)) (mO (av ar) (fH (zp az)) J7)))))) nd) (aJ (b_ (Xk (av (ai 4)) (av (Kp (Aq ar ar (Aq ar ar (Aq ar ar OV))))))) (aJ (gO (aA hr) (sU (aA hr) (av (ai 0)) (aI ar)) (aI (bt (aA hr) (ai 1) aT)) (av (ai 4))) (aJ (b_ (fR (zv T) hr (ax (av (ai 4)) (ax (av (ai 3)) (ax (aI ar) bb))))) (aJ (gO (aA hr) (sU (aA hr) (av (ai 4)) (aI ar)) (av (ai 3)) (aI ar)) (bo (dR (aI fc)))))))) cM) (aJ (gA (i:=4) (sU (aA hr) (sU (aA hr) (av (ai 0)) (aI ar)) (aI (bt (aA hr) (ai 1) aT))) nd) (aJ (eK (bK (aU (dh (cL hr)) (ai 2) ar)) (bo (dR (fR (tN T) hr (ax (av (ai 4)) (ax (av (ai 3)) (ax (aI (d8 gJ (uS (ai 1) o5 (o6 aT)) (uS (ai 1) (o6 aT) o5))) bb)))))) cM) (aJ (eK (bK (aU (dh (cL hr)) (ai 2) ar)) (bo (b_ (fR (zv T) hr (ax (av (ai 4)) (ax (av (ai 3)) (ax (aI ar) bb)))))) (bo (eK (bK (aU (dh (cL hr)) (ai 2) ar)) (bo (b_ (fR (CW T) hr (ax (av (ai 4)) (ax (av (ai 3)) (ax (fR (tN T) hr (ax (av (ai 4)) (ax (av (ai 3)) (ax (aI (bD (aj ar az))) bb)))) bb)))))) (bo (b_ (fR (C1 T) hr (ax (av (ai 4)) (ax (av (ai 1)) bb)))))))) (aJ (b_ (fR (HN T) hr (ax (av (ai 4)) bb))) (bo (dR (aI fc))))))))))⟩
def mf:=eX 2 5 iV.1
theorem C5:KS 3 xI mf:=iV.2
def fF:CP 2 ig 2 6:=⟨_,fun T=>i_ ["_law_room","_law_deed_here","_law_word_here","_law_who","_law_mine","_law_yours"] (T.d 44 rfl) fun nd _ _ _ _ _ _ hr=>(bg (Xc (FU (is:=[2,3]) (o4 (i:=2) (o4 (i:=3) FT nd) nd)) (uS (ai 1) o5 (o6 aT))) (bg (d9 (i:=4) (dJ (tM T) hr (aj (ai 0) (aj (ai 3) az))) nd) (bg (d9 (i:=5) (dJ (tM T) hr (aj (ai 0) (aj (bt (aA hr) (ai 1) aT) az))) nd) (bg (ff (dO (lY (aU (mH (aA hr)) (ai 2) (bD (aj ar (aj ar az)))) (hW (aU MV (ai 5) aT)))) (bL (bU ar)) cY) (bg (ff (aU (dh (cL hr)) (ai 2) ar) (bg (ff (dO (Cw (aU MV (ai 4) aT) (uP (dO (lY (aU (dh (cL hr)) (ai 4) aT) (hW (dO (Cw (aU Q_ (ai 5) aT) (uP (aU (mH (aA hr)) (bt (aA hr) (ai 1) aT) (bD (aj ar (aj ar az))))))))))))) (bL (bU ar)) cY) (bL (bU (Cy (aU (dh (cL hr)) (bt (aA hr) (bt (aA hr) (ai 0) ar) (bt (aA hr) (ai 1) aT)) (bt (aA hr) (ai 1) aT)) ar fc)))) cY) (bg (ff (dO (Cw (aU MV (ai 4) aT) (uP (dO (lY (aU (mH (aA hr)) (ai 2) (bD (aj ar (aj ar az)))) (hW (aU VC (ai 5) (ai 4)))))))) (bL (bU ar)) cY) (bg (ff (dO (Cw (dO (lY (aU (dh (cL hr)) (ai 2) ar) (hW (aU VC (ai 5) aT)))) (uP (dO (lY (aU (dh (cL hr)) (ai 2) ar) (hW (aU (mH (aA hr)) (bt (aA hr) (ai 1) aT) (bt (aA hr) (ai 0) ar)))))))) (bL (bU ar)) cY) (bg (ff (dO (lY (aU (dh (cL hr)) (ai 2) ar) (hW (aU (sN (aA hr)) (bt (aA hr) (ai 1) aT) (bt (aA hr) (ai 0) ar))))) (bL (bU ar)) cY) (bL (bU fc))))))))))⟩
def ip:=qd 2 6 fF.1
theorem uw:KP 2 ig ip:=fF.2
def gC:CP 3 iT 2 5:=⟨_,fun T=>i_ ["_law_model","_law_deed_here","_law_word_here","_law_some","_law_room"] (T.d 45 rfl) fun nd _ _ _ _ _ _ hr=>(bg (d9 (i:=2) (bt (aA hr) (ai 1) aT) nd) (bg (ff (aU (dh (cL hr)) (ai 2) ar) (bL (bU (Cy (aU (mH (aA hr)) (bt (aA hr) (ai 1) aT) (bt (aA hr) (ai 0) ar)) ar fc))) cY) (bg (d9 (i:=3) (d8 gJ (qB (aj (bt (aA hr) (ai 1) aT) az)) (Hy (N':=["_law_k","_law_deed_here","_law_word_here"]) (ix:=[none,some 1,some 2]) (fP.of (N:=["_law_model","_law_deed_here","_law_word_here","_law_some","_law_room"]) (sc:=aW iT.st) rfl rfl (by decide+kernel)) (lZ (bD (aj aT az))) ⟨fun s H ex=>⟨(eJ 0 (by show List.Nodup (["_law_k","_law_deed_here","_law_word_here"]:List Str);decide+kernel)),(uQ (aU (mH (aA hr)) (ai 2) (bD (aj ar (aj ar (aj ar (aj ar (aj ar az)))))))),(bt (aA hr) (ai 1) (ai 0))⟩⟩ (eP 0))) nd) (bg (ff (lX (Hy (N':=["_law_who","_law_model"]) (ix:=[none,some 0]) (fP.of (N:=["_law_model","_law_deed_here","_law_word_here","_law_some","_law_room"]) (sc:=aW iT.st) rfl rfl (by decide+kernel)) (lZ (ai 3)) ⟨fun s H ex=>⟨(eJ 0 (by show List.Nodup (["_law_who","_law_model"]:List Str);decide+kernel)),(uQ (aU (sN (aA hr)) (ai 0) (bt (aA hr) (ai 1) ar))),(ai 0)⟩⟩ (eP 0))) (bL (bU ar)) cY) (bg (d9 (i:=4) (Sv (aA hr) (bt (aA hr) (ai 0) ar) (bt (aA hr) (ai 1) aT)) nd) (bg (ff (aU (dh (cL hr)) (ai 2) ar) (bL (bU (Cy (aU BN (ai 4) fc) fc ar))) cY) (bg (ff (aU BN (ai 4) fc) (bL (bU ar)) cY) (bg (ff (aU (dh (cL hr)) (ai 2) ar) (bg (ff (aU (mH (aA hr)) (bt (aA hr) (ai 1) aT) (bt (aA hr) (ai 4) ar)) (bL (bU ar)) cY) (bg (ff (aU (mH (aA hr)) (bt (aA hr) (ai 1) aT) (bt (aA hr) (ai 4) ar)) (bL (bU ar)) cY) (bL (bU (Cy (dO (lY (aU (dh (cL hr)) (bt (aA hr) (ai 4) ar) ar) (hW (aU (sN (aA hr)) (bt (aA hr) (ai 1) aT) (bt (aA hr) (ai 4) ar))))) ar fc))))) cY) (bg (ff (aU (sN (aA hr)) (bt (aA hr) (ai 1) aT) (bt (aA hr) (ai 4) ar)) (bL (bU ar)) cY) (bg (ff (aU (mH (aA hr)) (ai 2) (bD (aj ar (aj ar (aj ar az))))) (bL (bU Kv)) cY) (bL (bU (Cy (aU (dh (cL hr)) (ai 2) ar) fc (dJ (uw T) hr (aj (ai 4) (aj (ai 1) az))))))))))))))))⟩
def eB:=qd 2 5 gC.1
theorem C6:KP 3 iT eB:=gC.2
def tT:CP 2 sZ 3 12:=⟨_,fun T=>i_ ["_law_cell_here","_law_model","_law_words_here","_law_names","_law_who","_law_whom","_law_room","_law_word_here","_law_some","_law_there","_law_number","_law_said_here"] (T.d 46 rfl) fun nd _ _ _ _ _ _ hr=>(bg (d9 (i:=3) (bD (aj ar (aj ar (aj ar (aj ar (aj ar az)))))) nd) (bg (ff (aU (dh (cL hr)) (dJ (iJ T) hr (aj (ai 0) (aj aT (aj aT az)))) aT) (bL (d9 (i:=3) (bD (aj ar (aj ar (aj ar az)))) nd)) cY) (bg (d9 (i:=4) (bt (aA hr) (ai 3) (dJ (iJ T) hr (aj (ai 0) (aj aT (aj (bZ hV T.len (aj (ai 3) az)) az))))) nd) (bg (d9 (i:=5) (bt (aA hr) (ai 3) (dJ (iJ T) hr (aj (ai 0) (aj aT (aj (bZ hV T.len (aj (ai 3) az)) az))))) nd) (bg (d9 (i:=6) (bt (aA hr) (bD (aj ar (aj ar (aj ar (aj ar az))))) (dJ (iJ T) hr (aj (ai 0) (aj aT (aj aT az))))) nd) (bg (d9 (i:=7) (bt (aA hr) (ai 2) (dJ (iJ T) hr (aj (ai 0) (aj aT (aj (bZ hV T.len (aj (ai 2) az)) az))))) nd) (bg (ff (aU (mH (aA hr)) (ai 7) (bD (aj ar (aj ar (aj ar (aj ar az)))))) (bL (bU (uS (bD (aj (ai 7) (aj (ai 4) (aj (ai 6) az)))) o5 (o6 (d8 gJ aT (dI WA T.int (aj (zl (GU (cL hr)) (ai 7) ar) az))))))) cY) (bg (ff (aU (dh (cL hr)) (ai 7) ar) (bg (d9 (i:=8) (qB (aj (bD (aj ar (aj ar az))) (aj (bD (aj ar (aj ar az))) (aj (bD (aj ar (aj ar az))) az)))) nd) (bg (d9 (i:=8) (d8 gJ (ai 8) (qB (aj (bD (aj ar (aj ar az))) (aj (bD (aj ar (aj ar az))) (aj (bD (aj ar (aj ar az))) az))))) nd) (bL (bU (d8 gJ (bD (aj (ai 7) (aj (ai 4) (aj (ai 6) az)))) (bt (aA hr) (ai 8) (dJ (iJ T) hr (aj (ai 0) (aj aT (aj aT az)))))))))) cY) (bg (ff (aU (dh (cL hr)) (ai 7) ar) (bL (bU (bD (aj (ai 7) (aj (ai 4) (aj (ai 6) (aj (ai 5) (aj (bt (aA hr) (bD (aj ar (aj ar (aj ar (aj ar az))))) (dJ (iJ T) hr (aj (ai 0) (aj aT (aj aT az))))) az)))))))) cY) (bg (ff (aU (mH (aA hr)) (ai 7) (bD (aj ar (aj ar (aj ar (aj ar az)))))) (bL (bU (bD (aj (ai 7) (aj (ai 4) (aj (ai 6) (aj (ai 5) az))))))) cY) (bg (d9 (i:=9) (bt (aA hr) (Kq (aA hr) (bt (aA hr) (ai 1) ar) (ai 6) (Kp (Aq ar (qB az) OV))) ar) nd) (bg (d9 (i:=10) (dJ (iJ T) hr (aj (ai 0) (aj aT (aj (d8 gJ (bZ hV T.len (aj (ai 9) az)) aT) az)))) nd) (bg (NI (i:=11) (N':=["_law_row_here"]) (ix:=[none]) (fP.of (N:=["_law_cell_here","_law_model","_law_words_here","_law_names","_law_who","_law_whom","_law_room","_law_word_here","_law_some","_law_there","_law_number","_law_said_here"]) (sc:=aW sZ.st) rfl rfl (by decide+kernel)) (lZ (ai 9)) ⟨fun s H ex=>⟨(eJ 0 (by show List.Nodup (["_law_row_here"]:List Str);decide+kernel)),(uQ (aU (dh (cL hr)) (bt (aA hr) (ai 0) aT) ar)),(bt (aA hr) (ai 0) aT)⟩⟩ (eP 0) nd) (bg (ff (dO (lY (lX (ai 11)) (hW (aU Q_ (d8 BJ (ai 0) aT) aT)))) (bL (d9 (i:=10) (bt (aA hr) (ai 11) (dJ (iJ T) hr (aj (ai 0) (aj aT (aj (bZ hV T.len (aj (ai 11) az)) az))))) nd)) cY) (bg (ff (aU (dh (cL hr)) (ai 7) ar) (bL (bU (bD (aj (ai 7) (aj (ai 4) (aj (ai 6) (aj Kv (aj (bt (aA hr) (bD (aj fc (aj fc (aj (ai 10) az)))) (dJ (iJ T) hr (aj (ai 0) (aj aT (aj aT az))))) az)))))))) cY) (bg (ff (aU (dh (cL hr)) (ai 7) ar) (bL (bU (bD (aj (ai 7) (aj (ai 4) (aj (ai 6) (aj (ai 10) (aj Kv az)))))))) cY) (bL (bU (bD (aj (ai 7) (aj (ai 4) (aj (ai 6) (aj (ai 10) az)))))))))))))))))))))))⟩
def C7:=qd 3 12 tT.1
theorem K':KP 2 sZ C7:=tT.2
def iW:CS 7 xJ 2 3:=⟨_,fun T=>gP ["_law_hall_here","_law_deed_here","_law_word_here"] (T.d 47 rfl) fun nd _ _ _ _ _ _ hr=>(aJ (gA (i:=2) (aI (bt (aA hr) (ai 1) aT)) nd) (aJ (eK (bK (aU (dh (cL hr)) (ai 2) ar)) (bo (dR (dg (uU T) hr (av (ai 0)) (ax (aI (bt (aA hr) (ai 1) aT)) bb)))) cM) (aJ (eK (bK (aU (dh (cL hr)) (ai 2) ar)) (bo (dR (dg (AI T) hr (av (ai 0)) (ax (aI (bt (aA hr) (ai 1) aT)) (ax (aI (bt (aA hr) (ai 1) aT)) bb))))) cM) (aJ (eK (bK (aU (dh (cL hr)) (ai 2) ar)) (bo (dR (dg (AL T) hr (av (ai 0)) (ax (aI (bt (aA hr) (ai 1) aT)) (ax (aI (bt (aA hr) (ai 1) aT)) bb))))) cM) (aJ (eK (bK (aU (dh (cL hr)) (ai 2) ar)) (bo (dR (dg (AM T) hr (av (ai 0)) (ax (aI (bt (aA hr) (ai 1) aT)) (ax (aI (bt (aA hr) (ai 1) aT)) bb))))) cM) (aJ (eK (bK (aU (dh (cL hr)) (ai 2) ar)) (bo (dR uR)) cM) (aJ (eK (bK (aU (dh (cL hr)) (ai 2) ar)) (bo (dR uR)) cM) (aJ (eK (bK (aU (dh (cL hr)) (ai 2) ar)) (bo (dR (dg (CQ T) hr (av (ai 0)) (ax (aI (bt (aA hr) (ai 1) aT)) (ax (aI (bt (aA hr) (ai 1) aT)) (ax (aI (bt (aA hr) (ai 1) aT)) (ax (aI (bt (aA hr) (ai 1) aT)) bb))))))) cM) (aJ (eK (bK (aU (dh (cL hr)) (ai 2) ar)) (bo (dR uR)) cM) (aJ (eK (bK (aU (dh (cL hr)) (ai 2) ar)) (bo (dR uR)) cM) (aJ (eK (bK (aU (dh (cL hr)) (ai 2) ar)) (bo (dR uR)) cM) (aJ (eK (bK (aU (dh (cL hr)) (ai 2) ar)) (bo (dR uR)) cM) (aJ (eK (bK (aU (dh (cL hr)) (ai 2) ar)) (bo (dR uR)) cM) (bo (dR uR)))))))))))))))⟩
def fT:=eX 2 3 iW.1
theorem C8:KS 7 xJ fT:=iW.2
def mh:CS 8 xK 2 5:=⟨_,fun T=>gP ["_law_hall_here","_law_deed_here","_law_kept","_law_answer","e"] (T.d 48 rfl) fun nd _ _ _ _ _ _ hr=>(aJ (gA (i:=2) (aI fc) nd) (aJ (gA (i:=3) (aI fc) nd) (aJ (SM 5 (i:=4) T.CL (fun pn E'=>(bo (gA (i:=3) (fR (C8 T) hr (ax (av (ai 0)) (ax (av (ai 1)) bb))) nd))) (fun pn e=>(bo (gA (i:=2) (av (ai 4)) nd))) nd) (aJ (eK (bK (aU BN (ai 2) fc)) (bo (dR (av (ai 3)))) cM) (bo (dR (aI (dJ (K9 T) hr (aj (ai 2) az)))))))))⟩
def pw:=eX 2 5 mh.1
theorem La:KS 8 xK pw:=mh.2
def tU(r:List Tr->Rs Tr):CR 0 s_ 2 2 r:=⟨_,fun T hk G=>i_ ["_law_found","_law_due"] (T.d 49 rfl) fun _ _ _ _ _ _ _ hr=>(bg (ff (lX (bZ yT T.isinstance (aj (ai 1) (aj (Cv T.tuple) az)))) (bg (ff (dO (Cw (xy (lX (bZ yT T.isinstance (aj (ai 0) (aj (Cv T.tuple) az))))) (uP (aU (GU (cL hr)) (bZ hV T.len (aj (ai 0) az)) (bZ hV T.len (aj (ai 1) az)))))) (bL (bU yv)) cY) (bL (bU (bZ (VJ rfl) T.all (aj (Hy (N':=["_law_one","_law_other"]) (ix:=[none,none]) (fP.of (N:=["_law_found","_law_due"]) (sc:=aW s_.st) rfl rfl (by decide+kernel)) (Xe T.zip (aj (ai 0) (aj (ai 1) az))) ⟨fun s H ex=>⟨(FU (is:=[0,1]) (o4 (i:=0) (o4 (i:=1) FT (by show List.Nodup (["_law_one","_law_other"]:List Str);decide+kernel)) (by show List.Nodup (["_law_one","_law_other"]:List Str);decide+kernel))),zm,(dJ G hr (aj (ai 0) (aj (ai 1) az)))⟩⟩ (DJ [0,1])) az))))) cY) (bg (ff (aU BN (ai 1) fc) (bL (bU (zl BN (ai 0) fc))) cY) (bg (ff (dO (Cw (lX (bZ yT T.isinstance (aj (ai 1) (aj (Cv T.bool) az)))) (uP (lX (bZ yT T.isinstance (aj (ai 0) (aj (Cv T.bool) az))))))) (bL (bU (Kn (bZ yT T.isinstance (aj (ai 1) (aj (Cv T.bool) az))) (Kn (bZ yT T.isinstance (aj (ai 0) (aj (Cv T.bool) az))) (Pj (zl (dh (cL hr)) (ai 0) (ai 1))))))) cY) (bL (bU (Kn (bZ RS T.isinstance (aj (ai 0) (aj (bD (aj (Cv T.int) (aj (Cv T.str) az))) az))) (Pj (zl (dh (cL hr)) (ai 0) (ai 1)))))))))⟩
def d_:Nat->List Tr->Rs Tr
 |0=>fun _=>.bad
 |n+1=>qd 2 2 (tU (d_ n)).1
theorem jJ{P:Program}{w:World}{K:Frag}{mg:Str->Option Value}{base:Heap}(T:Po K w mg):∀n:Nat,xB P w K mg base lq (0+n) s_ (spT K (d_ n))
 |0=>aav (T.d 49 rfl)
 |n+1=>(tU _).2 T (lD ..) (jJ T n)
def mi:CS 9 xM 3 4:=⟨_,fun T=>gP ["_law_hall_here","_law_model","_law_deed_here","_law_due"] (T.d 50 rfl) fun nd _ _ _ _ _ _ hr=>(aJ (gA (i:=3) (aI (dJ (C6 T) hr (aj (ai 1) (aj (ai 2) az)))) nd) (aJ (eK (bK (aU BN (ai 3) fc)) (bo (gA (i:=3) (fR (C5 T) hr (ax (av (ai 1)) (ax (av (ai 2)) bb))) nd)) cM) (bo (dR (fR (jJ T 5).toZ hr (ax (fR (La T) hr (ax (av (ai 0)) (ax (av (ai 2)) bb))) (ax (av (ai 3)) bb)))))))⟩
def iX:=eX 3 4 mi.1
theorem C9:KS 9 xM iX:=mi.2
def C_:CS 8 xN 2 4:=⟨_,fun T=>gP ["_law_hall_here","_law_model","_law_who","_law_deed_here"] (T.d 51 rfl) fun nd _ _ _ _ _ _ hr=>(aJ (Cz (lZ (bD (aj ar (aj ar (aj ar (aj ar (aj ar az))))))) (eJ 2 nd) (eP 2) (bo (b_ (dg (uU T) hr (av (ai 0)) (ax (av (ai 2)) bb))))) (bo (Cz (lZ (bD (aj (bD (aj ar (aj ar (aj ar az)))) (aj (bD (aj ar (aj ar (aj ar az)))) (aj (bD (aj ar (aj ar (aj ar az)))) (aj (bD (aj ar (aj ar (aj ar az)))) az)))))) (eJ 3 nd) (eP 3) (aJ (b_ (fR (C8 T) hr (ax (av (ai 0)) (ax (av (ai 3)) bb)))) (bo (b_ (fR (C5 T) hr (ax (av (ai 1)) (ax (av (ai 3)) bb)))))))))⟩
def C':=eX 2 4 C_.1
theorem Lb:KS 8 xN C':=C_.2
def ux:CP 6 l6 2 6:=⟨_,fun T=>i_ ["_law_hall_here","_law_model","_law_name","_law_room","_law_roles","_law_due"] (T.d 52 rfl) fun nd _ _ _ _ _ _ hr=>(bg (Sw (FV (bt (aA hr) (ai 1) ar)) (eJ 2 nd) (bg (d9 (i:=3) (bt (aA hr) (bt (aA hr) (ai 1) ar) (ai 2)) nd) (bg (d9 (i:=4) (dI gf T.tuple (aj (Hy (N':=["_law_who","_law_room"]) (ix:=[none,some 3]) (fP.of (N:=["_law_hall_here","_law_model","_law_name","_law_room","_law_roles","_law_due"]) (sc:=aW l6.st) rfl rfl (by decide+kernel)) (lZ (bZ (iQ rfl) T.sorted (aj (bt (aA hr) (ai 3) ar) az))) ⟨fun s H ex=>⟨(eJ 0 (by show List.Nodup (["_law_who","_law_room"]:List Str);decide+kernel)),zm,(bD (aj (ai 0) (aj (bt (aA hr) (bt (aA hr) (ai 1) ar) (ai 0)) az)))⟩⟩ (eP 0)) az)) nd) (bg (ff (xy (lX (dJ (jJ T 5) hr (aj (bD (aj (ja (CU T) hr (ai 0) (aj (ai 2) az)) (aj (ja (AR T) hr (ai 0) (aj (ai 2) az)) az))) (aj (bD (aj (dI gf T.tuple (aj (bt (aA hr) (ai 3) ar) az)) (aj (ai 4) az))) az))))) (bL (bU yv)) cY) (bg (ff (xy (lX (dJ (jJ T 5) hr (aj (ja (yz T) hr (ai 0) (aj (ai 2) az)) (aj (dI gf T.tuple (aj (bZ (iQ rfl) T.sorted (aj (bt (aA hr) (ai 3) ar) az)) az)) az))))) (bL (bU yv)) cY) (bg (ff (xy (lX (dJ (jJ T 5) hr (aj (ja (AS T) hr (ai 0) (aj (ai 2) az)) (aj (dI gf T.tuple (aj (Sy T.sorted T.set (bt (aA hr) (ai 3) ar)) az)) az))))) (bL (bU yv)) cY) (bL (ff (lX (Hy (N':=["_law_what","_law_name","_law_room","_law_hall_here"]) (ix:=[none,some 2,some 3,some 0]) (fP.of (N:=["_law_hall_here","_law_model","_law_name","_law_room","_law_roles","_law_due"]) (sc:=aW l6.st) rfl rfl (by decide+kernel)) (lZ (bD (aj ar (aj ar (aj ar az))))) ⟨fun s H ex=>⟨(eJ 0 (by show List.Nodup (["_law_what","_law_name","_law_room","_law_hall_here"]:List Str);decide+kernel)),(uQ (aU (GU (cL hr)) (ja (xT T) hr (ai 3) (aj (ai 1) (aj (ai 0) az))) (bt (aA hr) (ai 2) (ai 0)))),aT⟩⟩ (eP 0))) (bL (bU yv)) cY)))))))) (bg (d9 (i:=5) (bD (aj (dI gf T.tuple (aj (bZ (iQ rfl) T.sorted (aj (bt (aA hr) (ai 1) ar) az)) az)) (aj (dI gf T.tuple (aj (bZ (iQ rfl) T.sorted (aj (bt (aA hr) (ai 1) ar) az)) az)) az))) nd) (bL (bU (dJ (jJ T 5) hr (aj (bD (aj (pQ (AN T) hr (ai 0)) (aj (pQ (yx T) hr (ai 0)) az))) (aj (ai 5) az)))))))⟩
def zw:=qd 2 6 ux.1
theorem HP:KP 6 l6 zw:=ux.2
def F_:CZ 10 CI 1 6:=⟨_,fun T=>aau ["_law_script","_law_hall_here","_law_model","_law_deed_here","_law_words_here","_law_k"] (T.d 53 rfl) fun nd _ _ _ _ _ _ hr=>(aJ (gA (i:=1) (NQ (ve T) T.S3 hr) nd) (aJ (gA (i:=2) (fR (HM T) hr (ax (aI (bD (aj ar (aj ar (aj ar (aj ar (aj ar az))))))) bb)) nd) (aJ (b_ (fR (Lb T) hr (ax (av (ai 1)) (ax (av (ai 2)) bb)))) (aJ (Cz (lZ (bD (aj (bD (aj ar (aj ar (aj ar (aj ar (aj ar az)))))) (aj (bD (aj ar (aj ar (aj ar az)))) (aj (bD (aj ar (aj ar (aj ar az)))) az))))) (eJ 3 nd) (eP 3) (bo (eK (Ku (Kt (fR (C9 T) hr (ax (av (ai 1)) (ax (av (ai 2)) (ax (av (ai 3)) bb)))))) (bo (dR (aI yv))) cM))) (aJ (gA (i:=4) (aI (bD (aj ar (aj ar (aj ar (aj ar (aj ar az))))))) nd) (aJ (Cz (Ko T.range (aj aT az)) (eJ 5 nd) (eP 5) (aJ (gA (i:=3) (aI (dJ (K' T) hr (aj (d8 gJ (dJ (K_ T) hr (aj (ai 0) (aj (d8 BJ (ai 5) aT) az))) (d8 Jm aT (ai 5))) (aj (ai 2) (aj (ai 4) az))))) nd) (bo (eK (Ku (Kt (fR (C9 T) hr (ax (av (ai 1)) (ax (av (ai 2)) (ax (av (ai 3)) bb)))))) (bo (dR (aI yv))) cM)))) (bo (dR (aI (dJ (HP T) hr (aj (ai 1) (aj (ai 2) az))))))))))))⟩
def xX:=BR 1 6 F_.1
theorem Xz:KP 10 CI xX:=F_.2
section
variable {i:Nat}{rk en ch bn iv:List (Key×Tr)}
theorem AV{aB c6:Str}{ps:List Tr}(h:aS A i rows rk en ch bn iv)(f:du rows rk en ch bn iv)(hl:rows.length<ee)(hp:3+ps.length<=ee)(ht:mJ ps=true):
  l8 [.at i,.str aB,.str c6,.tup ps] A=.ok (.int (rows.length+1)) (A.set (i+1) (.lst (rows++[.tup (.int (rows.length+1):: .str aB:: .str c6::ps)]))):=by
 show cj (fA.1 [.sh (.at i),.sh (.str aB),.sh (.str c6),.sh (.tup ps),.no] A)=_;unfold fA;have e3:yp (.tup [.int (rows.length+1),.str aB,.str c6]) (.tup ps)=.ok (.tup (.int (rows.length+1):: .str aB:: .str c6::ps)):=au hp;have ef:∀A,q_ (.ok (.tup (.int (rows.length+1):: .str aB:: .str c6::ps))) A=.ok (.tup (.int (rows.length+1):: .str aB:: .str c6::ps)) A:=fun A=>au (by simpa only[Ia,mJ,n_]using ht);simp only[ev,cB,gE,g0,h.aaw f,h.aay,bH,bI,Em h.lg,En h.lg hl,e3,ef]
abbrev jG(rows:List Tr)(aB c6:Str)(ps:List Tr):Tr:=.tup (.int (rows.length+1):: .str aB:: .str c6::ps)
theorem N9{aB c6 role:Str}(h:aS A i rows rk en ch bn iv)(f:du rows rk en ch bn iv)(hl:rows.length<ee)(hr:rk.length<ee)(he:en.length<ee):
  ∃A',qD [.at i,.str aB,.str c6,.str role] A=.ok .bO A'/\Ext A A' [(i+6,.bw (gM iv (.inr aB))),(i+2,.bw (kP rk (.inr aB) (.str role))),(i+3,.bw (kP en (.inr aB) (.int (rows.length+1)))),(i+1,.lst (rows++[jG rows aB c6 []]))]/\aS A' i (rows++[jG rows aB c6 []]) (kP rk (.inr aB) (.str role)) (kP en (.inr aB) (.int (rows.length+1))) ch bn (gM iv (.inr aB)):=by
 have h1:=h.SU (Ext.put (o:=.lst (rows++[jG rows aB c6 []])) h.lg);have h2:=h1.aaB (Ext.put (o:=.bw (kP en (.inr aB) (.int (rows.length+1)))) h1.en);have h3:=h2.SV (Ext.put (o:=.bw (kP rk (.inr aB) (.str role))) h2.rk);refine⟨_,?_,((Ext.put h.lg).trans (Ext.put h1.en)).trans ((Ext.put h2.rk).trans (Ext.put h3.iv)),h3.aaC (Ext.put h3.iv)⟩;show cj (iF.1 [.sh (.at i),.sh (.str aB),.sh (.str c6),.sh (.str role)] A)=_;unfold iF;have ef:∀A,q_ (.ok (.tup [])) A=.ok (.tup []) A:=fun A=>rfl;have w:=AV (aB:=aB) (c6:=c6) (ps:=[]) h f hl (by decide) rfl;simp only[ev,cB,gE,g0,h.call (m:="write_row") rfl,ef,w,qY,h1.aaz,o8 h1.en he,h2.SS,o8 h2.rk hr,h3.aaA,NR h3.iv,NS _ h3.iv]
theorem Lc{aB c9 role:Str}(h:aS A i rows rk en ch bn iv)(f:du rows rk en ch bn iv)(hl:rows.length<ee)(hr:rk.length<ee):
  ∃A',l9 [.at i,.str aB,.str c9,.str role] A=.ok .bO A'/\Ext A A' [(i+2,.bw (kP rk (.inr c9) (.str role))),(i+1,.lst (rows++[jG rows aB "role" [.str c9,.str role]]))]/\aS A' i (rows++[jG rows aB "role" [.str c9,.str role]]) (kP rk (.inr c9) (.str role)) en ch bn iv:=by
 have h1:=h.SU (Ext.put (o:=.lst (rows++[jG rows aB "role" [.str c9,.str role]])) h.lg);refine⟨_,?_,(Ext.put h.lg).trans (Ext.put h1.rk),h1.SV (Ext.put h1.rk)⟩;show cj (fB.1 [.sh (.at i),.sh (.str aB),.sh (.str c9),.sh (.str role)] A)=_;unfold fB;have ef:∀A,q_ (.ok (.tup [.str c9,.str role])) A=.ok (.tup [.str c9,.str role]) A:=fun A=>rfl;have w:=AV (aB:=aB) (c6:="role") (ps:=[.str c9,.str role]) h f hl (by show 3+2<=ee;decide) rfl;simp only[ev,cB,gE,g0,h.call (m:="write_row") rfl,ef,w,qY,h1.SS,o8 h1.rk hr]
theorem xY(h:aS A i rows rk en ch bn iv)(f:du rows rk en ch bn iv)(hw:aB.length<=1000):
  j9 [.at i,.str aB] A=if(dS rk (.inr aB)).isSome=true then .ok .bO A else .exc (.str "NotIn") A:=by
 show cj (gW.1 [.sh (.at i),.sh (.str aB)] A)=_;unfold gW;simp only[ev,cB,gE,g0,h.sV f];cases e:(dS rk (.inr aB)).isSome with
 |true=>simp only[cS,ev,bT]
 |false=>
  have s:=Eo (z:=aB) (y:=" is not in the room") hw (by decide+kernel);simp only[dY,ev,cB,gE,g0,s,cA,bJ]
end
abbrev fO:List Str:=["guest","speaker","keeper","owner"]
def lvl(r:Str):Int:=if r="owner"then 3 else if r="keeper"then 2 else if r="speaker"then 1 else 0
theorem tV{r:Str}(h:r∈fO):AE [.str r]=.ok (.int (lvl r)):=by
 have:r="guest"\/r="speaker"\/r="keeper"\/r="owner":=by simpa using h
 rcases this with rfl|rfl|rfl|rfl<;>rfl
structure HQ(aq:List (Str×Str))(z:Str):Prop where
 ex:∃j r,aq[j]?=some (z,r)/\(∀p∈aq,lvl p.2<=lvl r)/\∀(a:Nat) (p:Str×Str),a<j->aq[a]?=some p->lvl p.2<lvl r
theorem HQ.one {y z:Str}(a:HQ aq y)(b:HQ aq z):y=z:=by
 obtain⟨j,r,h1,h2,h3⟩:=a.ex;obtain⟨k,s,g1,g2,g3⟩:=b.ex;have e1:=h2 _ (dm g1);have e2:=g2 _ (dm h1);rcases Nat.lt_trichotomy j k with q|q|q
 ·have:=g3 j _ q h1;simp only at e1 e2 this;omega
 ·subst q;rw[h1]at g1;cases g1;rfl
 ·have:=h3 k _ q g1;simp only at e1 e2 this;omega
section
variable {i:Nat}{ch bn iv:List (Key×Tr)}{ent:Str->Int}
structure cZ(aq:List (Str×Str))(ents:List (Str×Int))(ent:Str->Int):Prop where
 rl:∀p∈aq,p.2∈fO
 nd:(aq.map (·.1)).Nodup
 sh:∀p∈aq,p.1.length<=1000
 en:∀p∈aq,ents.lookup p.1=some (ent p.1)
 up:(aq.map fun p=>ent p.1).Pairwise (· <·)
theorem gZ:∀{aq:List (Str×Str)},(aq.map (·.1)).Nodup->∀p∈aq,aq.lookup p.1=some p.2
 |q::aq,nd,p,hp=>by
  rw[ba,f9]at nd;rw[bX];rcases aV.mp hp with rfl|hp
  ·simp
  ·have:(p.1==q.1)=false:=by
    simp only[iw];intro e;exact nd.1 (e▸fk hp)
   rw[this];exact gZ nd.2 p hp
theorem N_{p:Str×Str}(h:aS A i rows (dP .str aq) (dP .int ents) ch bn iv)(f:du rows (dP .str aq) (dP .int ents) ch bn iv)(k:cZ aq ents ent)(hp:p∈aq):
  gV [aw 5 A (.at i),.str p.1]=.ok (.tup [.int (-(lvl p.2)),.int (ent p.1)]):=by
 show cX (jw.1 [.sh (aw 5 A (.at i)),.sh (.str p.1)])=_;unfold jw;simp only[ev,cB,h.sV f,h.aax f,dk,gZ k.nd p hp,k.en p hp,cF,kh,tV (k.rl p hp)]
theorem S5(h:aS A i rows (dP .str aq) (dP .int ents) ch bn iv)(f:du rows (dP .str aq) (dP .int ents) ch bn iv)(k:cZ aq ents ent)(gq:aq≠[]):
  ∃z,HQ aq z/\FQ "Room" "claim" gV (.ok (.lst (aq.map fun p=>.str p.1))) (.ok (aw 5 A (.at i)))=.ok (.str z):=by
 have b9:0<aq.length:=rB.mpr gq
 let key:Str->Int×Int:=fun z=>(-(lvl ((aq.lookup z).getD "")),ent z)
 have hk:∀p∈aq,key p.1=(-(lvl p.2),ent p.1):=fun p hp=>by show(-(lvl ((aq.lookup p.1).getD "")),ent p.1)=_;rw[gZ k.nd p hp];rfl
 have hs:keysOf gV (aw 5 A (.at i)) ((aq.map (·.1)).map .str)=some ((aq.map (·.1)).map key):=zq fun z hz=>by
  obtain⟨p,hp,rfl⟩:=bS.mp hz;rw[N_ h f k hp,hk p hp]
 let kf:Nat->Int×Int:=fun a=>((aq.map (·.1)).map key).getD a (0,0)
 have T':∀a p,aq[a]?=some p->kf a=(-(lvl p.2),ent p.1):=fun a p e=>by
  show((aq.map (·.1)).map key).getD a (0,0)=_;rw[dD,bA,bA,e];exact hk p (dm e)
 have hup:∀a b,a<b->b<=aq.length - 1->(kf a).2<(kf b).2:=fun a b DM hb=>by
  have lb:b<aq.length:=by omega
  have la:a<aq.length:=by omega
  rw[T' a _ (bq la),T' b _ (bq lb)];have:=List.pairwise_iff_getElem.mp k.up a b (by simpa using la) (by simpa using lb) DM;simpa using this
 obtain⟨h1,h2⟩:=sX (kf:=kf) (aq.length - 1) hup;have hb:=um (kf:=kf) (aq.length - 1);have lb:cD kf (aq.length - 1)<aq.length:=by omega
 refine⟨aq[cD kf (aq.length - 1)].1,⟨cD kf (aq.length - 1),aq[cD kf (aq.length - 1)].2,bq lb,fun p hp=>?_,fun a p ha e=>?_⟩,?_⟩
 ·obtain⟨a,ha,e⟩:=List.getElem_of_mem hp;have:=h1 a (by omega);rw[T' _ _ (bq lb),T' a p (by rw[bq ha,e])]at this;simp only at this;omega
 ·have:=h2 a ha;rw[T' _ _ (bq lb),T' a p e]at this;simp only at this;omega
 ·show uN "Room" "claim" gV (.lst (aq.map fun p=>.str p.1)) (aw 5 A (.at i))=_;rw[fM h.o]at hs⊢;rw[show(aq.map fun p=>Tr.str p.1)=(aq.map (·.1)).map .str by rw[bY];rfl];refine KN rfl (by simpa using b9) hs ?_
  rw[show((aq.map (·.1)).map Tr.str).length=aq.length by simp];show((aq.map (·.1)).map Tr.str)[cD kf (aq.length - 1)]?=_
  rw[bA,bA,bq lb]
  rfl
inductive fU(rows:List Tr)(aq:List (Str×Str)):List Tr->List (Str×Str)->Prop
 |same:(aq=[]\/∃p∈aq,p.2="owner")->fU rows aq rows aq
 |yA (z:Str):HQ aq z->(∀p∈aq,p.2≠"owner")->aq≠[]->fU rows aq (rows++[jG rows z "role" [.str z,.str "owner"]]) (eQ aq z "owner")
theorem fU.one {r1 r2:List Tr}{k1 k2:List (Str×Str)}(a:fU rows aq r1 k1)(b:fU rows aq r2 k2):r1=r2/\k1=k2:=by
 cases a with
 |same h=>
  cases b with
  |same _=>exact⟨rfl,rfl⟩
  |yA z _ h2 h3=>
   rcases h with h|⟨p,hp,e⟩
   ·exact absurd h h3
   ·exact absurd e (h2 p hp)
 |yA z g h2 h3=>
  cases b with
  |same h=>
   rcases h with h|⟨p,hp,e⟩
   ·exact absurd h h3
   ·exact absurd e (h2 p hp)
  |yA y g' _ _=>cases g.one g';exact⟨rfl,rfl⟩
theorem Ld(h:aS A i rows (dP .str aq) (dP .int ents) ch bn iv)(f:du rows (dP .str aq) (dP .int ents) ch bn iv)(k:cZ aq ents ent)(hl:rows.length<ee)(hr:aq.length<ee):
  ∃A' bW ck,ji [.at i] A=.ok .bO A'/\fU rows aq bW ck/\Ext A A' [(i+2,.bw (dP .str ck)),(i+1,.lst bW)]/\aS A' i bW (dP .str ck) (dP .int ents) ch bn iv:=by
 let P:Str->Bool:=fun z=>aq.lookup z==some ("owner":Str)
 have h1:=h.e_0 (Ext.push (o:=.lst ((((aq.map (·.1)).filter P).map .str))));have e0:Ext A (A++[.lst ((((aq.map (·.1)).filter P).map .str))]) [(i+2,.bw (dP .str aq)),(i+1,.lst rows)]:=(Ext.push.idem h.lg rfl).idem h.rk (i7 (by omega));have hP:∀p∈aq,P p.1=(p.2==("owner":Str)):=fun p hp=>by show(aq.lookup p.1==some ("owner":Str))=_;rw[gZ k.nd p hp];rfl
 have t1:aw 5 (A++[Ao.lst (((aq.map (·.1)).filter P).map .str)]) (.at A.length)=.lst (((aq.map (·.1)).filter P).map .str):=by rw[kY mP,pS]
 show∃A' bW ck,cj (d6.1 [.sh (.at i),.no,.no] A)=.ok .bO A'/\_;unfold d6;simp only[ev,cB,gE,g0,h.sV f,vv k.sh,map_fst];rw[pT (Au:=[.sh (aw 5 A (.at i))]) P rfl (by simpa using cT hr) rfl (fun _=>rfl) ?hC]
 case hC=>
  intro z hz;obtain⟨p,hp,rfl⟩:=bS.mp hz;simp only[ev,cB,h.sV f,dk,gZ k.nd p hp,cF,kh,hP p hp]
 simp only[vt pR,ev,cB,gE,g0,bH,bI,h1.sV f,t1,kZ,aK];by_cases gq:aq=[]
 ·subst gq;exact⟨_,_,_,rfl,.same (.inl rfl),e0,h1⟩
 have hp0:(decide ((0:Int)<(aq.length:Int)))=true:=iz (by have:=rB.mpr gq;omega);simp only[hp0,ev,cB,gE];by_cases ho:∃p∈aq,p.2="owner"
 ·have:((((aq.map (·.1)).filter P).length:Int)==0)=false:=by
   obtain⟨p,hp,e⟩:=ho;have hm:p.1∈(aq.map (·.1)).filter P:=fm.mpr ⟨fk hp,by rw[hP p hp,e];exact bB _⟩;have:=List.length_pos_of_mem hm;simp only[iw];omega
  simp only[this,ev];exact⟨_,_,_,rfl,.same (.inr ho),e0,h1⟩
 ·have Ih:∀p∈aq,p.2≠"owner":=fun p hp e=>ho ⟨p,hp,e⟩;have:((aq.map (·.1)).filter P)=[]:=List.filter_eq_nil_iff.mpr fun z hz=>by
   obtain⟨p,hp,rfl⟩:=bS.mp hz;rw[hP p hp];simpa using Ih p hp
  obtain⟨z,hz,ez⟩:=S5 h1 f k gq;obtain⟨A',q1,q2,q3⟩:=Lc (aB:=z) (c9:=z) (role:="owner") h1 f hl (by rw[kZ];exact hr);rw[map_fst]at ez;have el:D7 [.bw (dP .str aq)]=.ok (.lst ((aq.map (·.1)).map .str)):=by
   show(BS (dP .str aq)).bind (fun ts=>Rs.ok (Tr.lst ts))=_;rw[F2 fun p hp=>bP (k.sh p hp) (by decide),map_fst];rfl
  have e9:((((aq.map (·.1)).filter P).length:Int)==0)=true:=by rw[this];rfl
  simp only[e9,ev,cB,gE,g0,h1.sV f,el,ez,bH,bI,h1.call (m:="give_role") rfl,q1];rw[mQ]at q2 q3;exact⟨_,_,_,rfl,.yA z hz Ih gq,Ext.past Ext.push q2,q3⟩
end
section
variable {i:Nat}{qI:List (Str×Str)}{bn iv:List (Key×Tr)}{ent:Str->Int}{d:Str}
theorem lookup_none{α:Type}{z:Str}:∀{l:List (Str×α)},l.lookup z=none->∀p∈l,p.1≠z
 |q::l,h,p,hp=>by
  rw[bX]at h;cases e:(z==q.1)with
  |true=>rw[e]at h;cases h
  |false=>
   rw[e]at h;rcases aV.mp hp with rfl|hp
   ·intro q;rw[q,bB]at e;cases e
   ·exact lookup_none h p hp
theorem tW{α:Type}{l:List (Str×α)}{a:α}(h:l.lookup aB=none):eQ l aB a=l++[(aB,a)]:=by
 unfold eQ;rw[ay];intro q;obtain⟨p,hp,e⟩:=List.any_eq_true.mp q;exact lookup_none h p hp (dE e)
theorem xZ{α:Type}{z y:Str}{a:α}:∀{l:List (Str×α)},(eQ l z a).lookup y=if y=z then some a else l.lookup y:=by
 intro l;unfold eQ;split
 ·rename_i h
  induction l with
  |nil=>cases h
  |cons p l ih=>
   rw[ba,bX,bX];by_cases hz:p.1=z
   ·rw[au hz];by_cases hy:y=z
    ·subst hy;rw[au rfl,hz];simp
    ·have e1:(y==p.1)=false:=by simpa[hz]using hy
     rw[ay hy];simp only[e1]
     clear ih h
     induction l with
     |nil=>rfl
     |cons q l ih=>
      rw[ba,bX,bX];by_cases hq:q.1=z
      ·rw[au hq];have e2:(y==q.1)=false:=by simpa[hq]using hy
       simp only[e2];exact ih
      ·rw[ay hq];split
       ·rfl
       ·exact ih
   ·rw[ay hz];have h2:(l.any fun p=>decide (p.1=z))=true:=by
     rw[iA]at h;simpa[hz]using h
    cases e:(y==p.1)with
    |true=>
     have:y=p.1:=by simpa using e
     rw[ay (by rw[this];exact hz)]
    |false=>exact ih h2
 ·rename_i h;rw[List.lookup_append];have hn:l.lookup z=none:=by
   cases e:l.lookup z with
   |none=>rfl
   |some b=>
    exfalso;apply h
    clear h
    induction l with
    |nil=>cases e
    |cons p l ih=>
     rw[bX]at e;rw[iA];cases e2:(z==p.1)with
     |true=>have:z=p.1:=by simpa using e2
            simp[this]
     |false=>rw[e2]at e;simp[ih e]
  by_cases hy:y=z
  ·subst hy;rw[hn,au rfl];simp
  ·rw[ay hy];have:(y==z)=false:=by simpa using hy
   simp[List.lookup,this]
theorem cZ.enter {n:Int}{r:Str}(k:cZ aq ents ent)(hn:aq.lookup aB=none)(gn:∀p∈aq,ent p.1<n)(hw:aB.length<=1000)(hr:r∈fO):cZ (eQ aq aB r) (eQ ents aB n) fun z=>if z=aB then n else ent z:=by
 rw[tW hn];have gq:=lookup_none hn;refine⟨fun p hp=>?_,?_,fun p hp=>?_,fun p hp=>?_,?_⟩
 ·rcases cR.mp hp with hp|hp
  ·exact k.rl p hp
  ·cases cE.mp hp;exact hr
 ·rw[jq,vV];refine⟨k.nd,by simp,fun a ha b hb=>?_⟩;obtain⟨p,hp,rfl⟩:=bS.mp ha;cases(cE.mp hb);exact gq p hp
 ·rcases cR.mp hp with hp|hp
  ·exact k.sh p hp
  ·cases cE.mp hp;exact hw
 ·rw[xZ];rcases cR.mp hp with hp|hp
  ·rw[ay (gq p hp),ay (gq p hp)];exact k.en p hp
  ·cases cE.mp hp;rw[au rfl,au rfl]
 ·rw[jq,List.pairwise_append];refine⟨?_,by simp,fun a ha b hb=>?_⟩
  ·have:(aq.map fun p=>if p.1=aB then n else ent p.1)=aq.map fun p=>ent p.1:=fY fun p hp=>ay (gq p hp);rw[this];exact k.up
  ·obtain⟨p,hp,rfl⟩:=bS.mp ha;simp at hb;subst hb;rw[ay (gq p hp)];exact gn p hp
theorem cZ.leave (k:cZ aq ents ent):cZ (jZ aq aB) ents ent:=by
 have s:(jZ aq aB).Sublist aq:=List.filter_sublist;exact⟨fun p hp=>k.rl p (s.subset hp),k.nd.sublist (s.map _),fun p hp=>k.sh p (s.subset hp),fun p hp=>k.en p (s.subset hp),k.up.sublist (s.map _)⟩
theorem x6{α:Type}{l:List (Str×α)}{a:α}(h:aB∈l.map (·.1)):(eQ l aB a).map (·.1)=l.map (·.1):=by
 unfold eQ;obtain⟨p,hp,e⟩:=bS.mp h;rw[au (List.any_eq_true.mpr ⟨p,hp,iz e⟩),bY];exact fY fun q _=>by show(if q.1=aB then(q.1,a)else q).1=q.1;split<;>rfl
theorem Oa{α:Type}{l:List (Str×α)}{a:α}{p:Str×α}(h:p∈eQ l aB a):p=(aB,a)\/p∈l:=by
 unfold eQ at h;split at h
 ·obtain⟨q,hq,e⟩:=bS.mp h;split at e
  ·rename_i hz;left;rw[<-e,hz]
  ·right;rw[<-e];exact hq
 ·rcases cR.mp h with h|h
  ·exact .inr h
  ·exact .inl (cE.mp h)
theorem cZ.role {r:Str}(k:cZ aq ents ent)(h:aB∈aq.map (·.1))(hr:r∈fO):cZ (eQ aq aB r) ents ent:=by
 have hk:=x6 (a:=r) h;have hm:∀p∈eQ aq aB r,∃q∈aq,q.1=p.1:=fun p hp=>by
  have:p.1∈aq.map (·.1):=by rw[<-hk];exact fk hp
  obtain⟨q,hq,e⟩:=bS.mp this;exact⟨q,hq,e⟩
 refine⟨fun p hp=>?_,by rw[hk];exact k.nd,fun p hp=>?_,fun p hp=>?_,?_⟩
 ·rcases Oa hp with rfl|hp
  ·exact hr
  ·exact k.rl p hp
 ·obtain⟨q,hq,e⟩:=hm p hp;rw[<-e];exact k.sh q hq
 ·obtain⟨q,hq,e⟩:=hm p hp;rw[<-e];exact k.en q hq
 ·have:((eQ aq aB r).map fun p=>ent p.1)=aq.map fun p=>ent p.1:=by
   have e1:∀l:List (Str×Str),(l.map fun p=>ent p.1)=(l.map (·.1)).map ent:=fun l=>by rw[bY];rfl
   rw[e1,e1,hk]
  rw[this];exact k.up
theorem fU.EC {bW:List Tr}{ck:List (Str×Str)}(o:fU rows aq bW ck)(k:cZ aq ents ent):cZ ck ents ent:=by
 cases o with
 |same _=>exact k
 |yA z g _ _=>
  obtain⟨j,r,e,_⟩:=g.ex;exact k.role (bS.mpr ⟨_,dm e,rfl⟩) (by decide+kernel)
end
section
variable {i:Nat}{qI:List (Str×Str)}{bn iv:List (Key×Tr)}{ent:Str->Int}{d:Str}
theorem Ga{us:List Tr}{rk en ch rk' en' ch' bn' iv':List (Key×Tr)}(f:du rows rk en ch bn iv)(h1:fI rk')(h2:fI en')(h3:fI ch')(h4:fI bn')(h5:fI iv'):du (rows++[.tup us]) rk' en' ch' bn' iv':=⟨l0 f.lg,h1,h2,h3,h4,h5⟩
theorem Ua:fI (dP .str aq):=sW fun _ _ _=>qX
theorem flI:fI (dP .int ents):=sW fun _ _ _=>KJ
theorem Le{r:Str}(h:aS A i rows (dP .str aq) (dP .int ents) (dP .str qI) bn iv)(f:du rows (dP .str aq) (dP .int ents) (dP .str qI) bn iv)(hw:aB.length<=1000)(hr:aq.lookup aB=some r):
  dM [.at i,.str aB] A=.exc (.str "Known") A:=by
 show cj (cV.1 [.sh (.at i),.sh (.str aB)] A)=_;unfold cV;have s:=Eo (z:=aB) (y:=" is in the room") hw (by decide+kernel);simp only[ev,cB,gE,g0,h.sV f,dC,hr,cF,mB,s]
theorem Lf{r:Tr}(h:aS A i rows (dP .str aq) (dP .int ents) (dP .str qI) bn iv)(f:du rows (dP .str aq) (dP .int ents) (dP .str qI) bn iv)(hw:aB.length<=1000)(hr:aq.lookup aB=none)(hb:dS bn (.inr aB)=some r):
  dM [.at i,.str aB] A=.exc (.str "Barred") A:=by
 show cj (cV.1 [.sh (.at i),.sh (.str aB)] A)=_;unfold cV;have s:=Eo (z:=aB) (y:=" is barred") hw (by decide+kernel);simp only[ev,cB,gE,g0,h.sV f,dC,hr,nZ,nN,h.SR f,hb,mB,s]
theorem Lg(h:aS A i rows (dP .str aq) (dP .int ents) (dP .str qI) bn iv)(f:du rows (dP .str aq) (dP .int ents) (dP .str qI) bn iv)(hw:aB.length<=1000)(hr:aq.lookup aB=none)(hb:dS bn (.inr aB)=none)(hd:qI.lookup ("door":Str)=some ("asked":Str))(hv:dS iv (.inr aB)=none):
  dM [.at i,.str aB] A=.exc (.str "NotAsked") A:=by
 show cj (cV.1 [.sh (.at i),.sh (.str aB)] A)=_;unfold cV;have s:=Eo (z:=aB) (y:=" is not asked") hw (by decide+kernel);have L7:qI.lookup (Str.ofString "door")=some (Str.ofString "asked"):=hd;simp only[ev,cB,gE,g0,h.sV f,dC,hr,nZ,nN,h.SR f,hb,h.Xu f,dk,L7,cF,kh,bB,h.Xv f,hv,dY,s]
theorem Ob(h:aS A i rows (dP .str aq) (dP .int ents) (dP .str qI) bn iv)(f:du rows (dP .str aq) (dP .int ents) (dP .str qI) bn iv)(k:cZ aq ents ent)(gn:∀p∈aq,ent p.1<rows.length+1)(hl:rows.length+1<ee)(hr':aq.length+1<ee)(he:ents.length<ee)(hw:aB.length<=1000)
  (hr:aq.lookup aB=none) (hb:dS bn (.inr aB)=none) (hd:qI.lookup ("door":Str)=some d) (hv:d≠"asked"\/(dS iv (.inr aB)).isSome=true):
  ∃A' bW ck,dM [.at i,.str aB] A=.ok .bO A'/\fU (rows++[jG rows aB "enter" []]) (eQ aq aB "guest") bW ck/\Ext A A' ([(i+2,.bw (dP .str ck)),(i+1,.lst bW)]++[(i+6,.bw (gM iv (.inr aB))),(i+2,.bw (dP .str (eQ aq aB "guest"))),(i+3,.bw (dP .int (eQ ents aB (rows.length+1)))),(i+1,.lst (rows++[jG rows aB "enter" []]))])
   /\aS A' i bW (dP .str ck) (dP .int (eQ ents aB (rows.length+1))) (dP .str qI) bn (gM iv (.inr aB)):=by
 obtain⟨A1,q1,q2,q3⟩:=N9 (aB:=aB) (c6:="enter") (role:="guest") h f (by omega) (by rw[kZ];omega) (by rw[kZ];exact he);rw[mQ,mQ]at q2 q3;have hs:(eQ aq aB "guest").length<ee:=by rw[tW hr,dW];exact hr'
 obtain⟨A2,bW,ck,s1,s2,s3,s4⟩:=Ld q3 (Ga f Ua flI f.ch f.bn (HD f.iv)) (k.enter (n:=rows.length+1) hr gn hw (by decide+kernel)) (by rw[dW];exact hl) hs;refine⟨A2,bW,ck,?_,s2,q2.trans s3,s4⟩;show cj (cV.1 [.sh (.at i),.sh (.str aB)] A)=_;unfold cV;have L7:qI.lookup (Str.ofString "door")=some d:=hd;have hc:GL (.ok (d==("asked":Str))) (.ok (!(dS iv (.inr aB)).isSome))=.ok false:=by
  rcases hv with hv|hv
  ·rw[show(d==("asked":Str))=false by simpa using hv];rfl
  ·rw[hv];cases(d==("asked":Str))<;>rfl
 simp only[ev,cB,gE,g0,h.sV f,dC,hr,nZ,nN,h.SR f,hb,h.Xu f,dk,L7,cF,kh,h.Xv f,hc,h.call (m:="let_in") rfl,q1,q3.call (m:="see_to_owner") rfl,s1]
theorem Lh(h:aS A i rows (dP .str aq) (dP .int ents) (dP .str qI) bn iv)(f:du rows (dP .str aq) (dP .int ents) (dP .str qI) bn iv)(hw:aB.length<=1000)(hr:aq.lookup aB=none):
  fE [.at i,.str aB] A=.exc (.str "NotIn") A:=by
 show cj (fD.1 [.sh (.at i),.sh (.str aB)] A)=_;unfold fD;have n:=xY h f hw;rw[dC,hr]at n;simp only[ev,cB,gE,g0,h.call (m:="need_in") rfl,n,nZ,nN,cA,bJ]
theorem Oc{r:Str}(h:aS A i rows (dP .str aq) (dP .int ents) (dP .str qI) bn iv)(f:du rows (dP .str aq) (dP .int ents) (dP .str qI) bn iv)(k:cZ aq ents ent)(hl:rows.length+1<ee)(hr':aq.length<ee)(hw:aB.length<=1000)
  (hr:aq.lookup aB=some r):
  ∃A' bW ck,fE [.at i,.str aB] A=.ok .bO A'/\fU (rows++[jG rows aB "leave" []]) (jZ aq aB) bW ck/\Ext A A' ([(i+2,.bw (dP .str ck)),(i+1,.lst bW)]++[(i+2,.bw (dP .str (jZ aq aB))),(i+1,.lst (rows++[jG rows aB "leave" []]))])
   /\aS A' i bW (dP .str ck) (dP .int ents) (dP .str qI) bn iv:=by
 have w:=AV (aB:=aB) (c6:="leave") (ps:=[]) h f (by omega) (by decide) rfl;have h1:=h.SU (Ext.put (o:=.lst (rows++[jG rows aB "leave" []])) h.lg);have h2:=h1.SV (Ext.put (o:=.bw (dP .str (jZ aq aB))) h1.rk);obtain⟨A2,bW,ck,s1,s2,s3,s4⟩:=Ld h2 (Ga f Ua flI f.ch f.bn f.iv) (k.leave (aB:=aB)) (by rw[dW];exact hl) (rD (nJ ..) hr');refine⟨A2,bW,ck,?_,s2,((Ext.put h.lg).trans (Ext.put h1.rk)).trans s3,s4⟩;show cj (fD.1 [.sh (.at i),.sh (.str aB)] A)=_;unfold fD;have n:=xY h f hw;rw[dC,hr]at n;have ef:∀A,q_ (.ok (.tup [])) A=.ok (.tup []) A:=fun A=>rfl;have p:=FY (z:=aB) (v:=.str r) h1.rk (by rw[dC,hr];rfl);rw[As]at p;simp only[ev,cB,gE,g0,h.call (m:="need_in") rfl,n,cF,mB,bT,h.call (m:="write_row") rfl,ef,w,h1.SS,FX h1.rk,p,h2.call (m:="see_to_owner") rfl,s1]
end
section
variable {c5:Str}
theorem Od(h:bR A aH a9)(hw:aB.length<=1000):gv [.at 0,.tup [.str aB]] A=if(aH.lookup aB).isSome=true then .ok .bO A else .exc (.str "NoPerson") A:=by
 show cj (cO.1 [.sh (.at 0),.sh (.tup [.str aB]),.no] A)=_;unfold cO;have s:=Eo (z:="nobody is called ") (y:=aB) (by decide+kernel) hw;simp only[ev,cB,gE,g0,F3,bH,bI,h.NU,dC,jl];cases(aH.lookup aB).isSome with
 |true=>simp only[cS,ev,cB,bT]
 |false=>simp only[dY,ev,cB,gE,g0,s,cA,bJ]
theorem Gb{j:Nat}(h:bR A aH a9)(hj:a9.lookup c5=some j):tm [.at 0,.str c5] A=.ok (.at j) A:=by
 show cj (jx.1 [.sh (.at 0),.sh (.str c5)] A)=_;unfold jx;simp only[ev,cB,gE,g0,h.SW,dC,hj,cF,mB,cS,h.aaD,jv,vx h.pl,dk,kh]
theorem x8{j:Nat}(h:bR A aH a9)(hw:aB.length<=1000)(hj:a9.lookup c5=some j):ik [.at 0,.tup [.str aB],.str c5] A=if(aH.lookup aB).isSome=true then .ok (.at j) A else .exc (.str "NoPerson") A:=by
 show cj (dz.1 [.sh (.at 0),.sh (.tup [.str aB]),.sh (.str c5)] A)=_;unfold dz;simp only[ev,cB,gE,g0,h.call (m:="need_people") rfl,Od h hw];cases(aH.lookup aB).isSome with
 |true=>simp only[bT,ev,cB,gE,g0,h.call (m:="place") rfl,Gb h hj]
 |false=>simp only[cA,bJ,ev]
theorem Li{j:Nat}(h:bR A aH a9)(hw:aB.length<=1000)(hj:a9.lookup c5=some j)(hF:qi "Room" "enter" dM (.ok (.at j) A) (fun A=>.ok [.str aB] A)=dM [.at j,.str aB] A):
  m4 [.at 0,.str aB,.str c5] A=if(aH.lookup aB).isSome=true then cj (qe (dM [.at j,.str aB] A) [.sh (.at 0),.sh (.str aB),.sh (.str c5)])else .exc (.str "NoPerson") A:=by
 show cj (jy.1 [.sh (.at 0),.sh (.str aB),.sh (.str c5)] A)=_;unfold jy;have ef:∀A,q_ (.ok (.tup [.str aB])) A=.ok (.tup [.str aB]) A:=fun A=>rfl;simp only[ev,cB,gE,g0,h.call (m:="place_for") rfl,ef,x8 h hw hj];cases(aH.lookup aB).isSome with
 |true=>simp only[bT];rw[hF]
 |false=>simp only[cA,bJ];rfl
theorem Lj{j:Nat}(h:bR A aH a9)(hw:aB.length<=1000)(hj:a9.lookup c5=some j)(hF:qi "Room" "leave" fE (.ok (.at j) A) (fun A=>.ok [.str aB] A)=fE [.at j,.str aB] A):
  m5 [.at 0,.str aB,.str c5] A=if(aH.lookup aB).isSome=true then cj (qe (fE [.at j,.str aB] A) [.sh (.at 0),.sh (.str aB),.sh (.str c5)])else .exc (.str "NoPerson") A:=by
 show cj (jz.1 [.sh (.at 0),.sh (.str aB),.sh (.str c5)] A)=_;unfold jz;have ef:∀A,q_ (.ok (.tup [.str aB])) A=.ok (.tup [.str aB]) A:=fun A=>rfl;simp only[ev,cB,gE,g0,h.call (m:="place_for") rfl,ef,x8 h hw hj];cases(aH.lookup aB).isSome with
 |true=>simp only[bT];rw[hF]
 |false=>simp only[cA,bJ];rfl
end
section
variable {j ks kb ka n:Nat}{stays:List jb}{asked:List Str}{d v p c6:Str}
theorem AW{ps:List Tr}(h:bx A j ks kb ka rows aN stays aR asked d v p)(f:jh rows)(hl:rows.length<ee)(hp:2+ps.length<=ee)(ht:mJ ps=true):
  AU [.at j,.str aB,.tup ps] A=.ok (.int (rows.length+1)) (A.set (j+1) (.lst (rows++[.tup (.int (rows.length+1):: .str aB::ps)]))):=by
 show cj (vB.1 [.sh (.at j),.sh (.str aB),.sh (.tup ps)] A)=_;unfold vB;have h1:=h.KQ (Ext.put (o:=.lst (rows++[.tup (.int (rows.length+1):: .str aB::ps)])) h.rw);have e3:yp (.tup [.int (rows.length+1),.str aB]) (.tup ps)=.ok (.tup (.int (rows.length+1):: .str aB::ps)):=au hp;have ef:∀A,q_ (.ok (.tup (.int (rows.length+1):: .str aB::ps))) A=.ok (.tup (.int (rows.length+1):: .str aB::ps)) A:=fun A=>au (by simpa only[Ia,mJ,n_]using ht);have el:((rows++[Tr.tup (.int (rows.length+1):: .str aB::ps)]).length:Int)=rows.length+1:=by simp
 simp only[ev,cB,gE,g0,jv,h.aaE,Em h.rw,h.SX (n:=3) f,e3,ef,En h.rw hl,h1.SX (n:=3) (l0 f),el]
theorem Ll(h:bx A j ks kb ka rows aN stays aR asked d v p)(f:jh rows)(hl:rows.length<ee)(hs:stays.length<ee)(hr:aN.length<ee)(ha:asked.length<=ee):
  ∃A' XB f1,uv [.at j,.str aB,.str c6] A=.ok .bO A'/\A.length<=XB/\Ext A A' [(j,.bw (dP id (CB j ks kb XB d v p))),(j+2,.bw (dP .str (eQ aN aB "guest"))),(ks,.lst ((stays++[(aB,f1,(rows.length+1:Int),none)]).map u_)),(j+1,.lst (rows++[jG rows aB c6 []]))]
   /\bx A' j ks kb XB (rows++[jG rows aB c6 []]) (eQ aN aB "guest") (stays++[(aB,f1,(rows.length+1:Int),none)]) aR (asked.filter fun z=>!(z==aB)) d v p:=by
 have w:=AW (aB:=aB) (ps:=[.str c6]) h f hl (by show 2+1<=ee;decide) rfl;have h1:=h.KQ (Ext.put (o:=.lst (rows++[jG rows aB c6 []])) h.rw)
 let f1:Int:=if p="shown"then 1 else rows.length+1
 have h2:=h1.aaG (o9:=stays++[(aB,f1,(rows.length+1:Int),none)]) (Ext.put h1.st);have h3:=h2.NW (k_:=eQ aN aB "guest") (Ext.put h2.rl);have h4:=h3.aaH (xC:=asked.filter fun z=>!(z==aB));have x1:=((Ext.put (o:=.lst (rows++[jG rows aB c6 []])) h.rw).trans (Ext.put (o:=.lst ((stays++[(aB,f1,(rows.length+1:Int),none)]).map u_)) h1.st)).trans (Ext.put (o:=.bw (dP .str (eQ aN aB "guest"))) h2.rl);refine⟨_,_,f1,?_,x1.le,x1.cons (Ext.past Ext.push (Ext.put (Ext.push.same h3.o rfl))),h4⟩;show cj (pX.1 [.sh (.at j),.sh (.str aB),.sh (.str c6),.no,.no] A)=_;unfold pX;have ef:∀A,q_ (.ok (.tup [.str c6])) A=.ok (.tup [.str c6]) A:=fun A=>rfl;have eg:∀A,q_ (.ok (.tup [.str aB,.int f1,.int (rows.length+1),.bO])) A=.ok (.tup [.str aB,.int f1,.int (rows.length+1),.bO]) A:=fun A=>rfl;have ei:Jf (.ok (p==("shown":Str))) (.ok (.int 1)) (.ok (.int (rows.length+1)))=.ok (.int f1):=by
  show(if(p==("shown":Str))then _ else _)=_;by_cases q:p="shown"
  ·subst q;rfl
  ·rw[show(p==("shown":Str))=false by simpa using q];show Rs.ok _=_;congr 2;exact(ay q).symm
 have ep:=o8 (z:=aB) (t:=.str "guest") (Y:=[.sh (.at j),.sh (.str aB),.sh (.str c6),.sh (.int (rows.length+1)),.sh (.int f1)]) h2.rl (by rw[kZ];exact hr);rw[mQ]at ep;have ea:=En (t:=.tup [.str aB,.int f1,.int (rows.length+1),.bO]) h1.st (by rw[aK];exact hs);rw[show stays.map u_++[.tup [.str aB,.int f1,.int (rows.length+1),.bO]]=(stays++[(aB,f1,(rows.length+1:Int),none)]).map u_ by rw[jq];rfl]at ea;simp only[ev,cB,gE,g0,ef,w,bH,bI,h1.a_p (n:=4),ei,jv,h1.aaF,Em h1.st,eg,ea,qY,h2.NV,ep,F3,h3.SY (n:=3)];rw[pT (Au:=[.sh (.str aB)]) (fun z=>!(z==aB)) rfl ha rfl (fun _=>rfl) ?hC]
 case hC=>intro z hz;simp only[ev,NX]
 simp only[vt pR,qY,ev,cB,gE,g0,h3.aaJ]
def iY(aB:Str)(n:Int)(s:jb):jb:=if s.1=aB/\s.2.2.2=none then(s.1,s.2.1,s.2.2.1,some n)else s
theorem Oe{n:Int}{r:Str}(h:bx A j ks kb ka rows aN stays aR asked d v p)(hs:stays.length<=ee)(hr:aN.lookup aB=some r):
  ∃A' XC,xW [.at j,.str aB,.int n] A=.ok .bO A'/\A.length<=XC/\Ext A A' [(j,.bw (dP id (CB j XC kb ka d v p))),(j+2,.bw (dP .str (jZ aN aB)))]
   /\bx A' j XC kb ka rows (jZ aN aB) (stays.map (iY aB n)) aR asked d v p:=by
 have h1:=h.NW (k_:=jZ aN aB) (Ext.put h.rl);have h2:=h1.aaI (o9:=stays.map (iY aB n));have x1:=Ext.put (o:=.bw (dP .str (jZ aN aB))) h.rl;refine⟨_,_,?_,x1.le,x1.cons (Ext.past Ext.push (Ext.put (Ext.push.same h1.o rfl))),h2⟩;show cj (tR.1 [.sh (.at j),.sh (.str aB),.sh (.int n)] A)=_;unfold tR;have pp:=FY (z:=aB) (v:=.str r) h.rl (by rw[dC,hr];rfl);rw[As]at pp;simp only[ev,cB,gE,g0,jv,h.NV,FX h.rl,pp,h1.Xw (n:=3),F3];rw[kF (Au:=[.sh (.str aB),.sh (.int n)]) (fun _=>true) u_ (fun s=>u_ (iY aB n s)) rfl hs rfl (fun _ _=>rfl) ?hF]
 case hF=>
  intro s _ _;obtain⟨a,b,c,e⟩:=s;have i0:jf (u_ (a,b,c,e)) (.int 0)=.ok (.str a):=rfl;have i3:jf (u_ (a,b,c,e)) (.int 3)=.ok (Ep e):=rfl;have is:An (.ok (u_ (a,b,c,e))) (.ok none) (M4 (.ok (.int 3)))=.ok (.tup [.str a,.int b,.int c]):=rfl;have ia:yp (.tup [.str a,.int b,.int c]) (.tup [.int n])=.ok (.tup [.str a,.int b,.int c,.int n]):=rfl;cases e with
  |none=>
   have ie:Fo (Ep none) .bO=.ok (.bl true):=rfl;by_cases q:a=aB
   ·subst q;simp only[ev,cB,i0,i3,is,ia,ie,bB,iY,and_self,bT]
    rfl
   ·have:(a==aB)=false:=by simpa using q
    simp only[ev,cB,i0,this,iY,q,false_and,bJ]
  |some m=>
   have ie:Fo (Ep (some m)) .bO=.ok (.bl false):=rfl;simp only[ev,cB,i0,i3,ie,iY,reduceCtorEq,and_false,bJ];cases(a==aB)<;>rfl
 rw[show stays.filter (fun _=>true)=stays from nM.mpr fun _ _=>rfl,show(stays.map fun s=>u_ (iY aB n s))=(stays.map (iY aB n)).map u_ by rw[bY];rfl];simp only[vt xD,qY,ev,cB,gE,g0,h1.aaK]
end
section
variable {j ks kb ka n:Nat}{stays:List jb}{asked:List Str}{d v p c6:Str}{ent:Str->Int}
theorem ED{T:Tr}{r:Str}(hT:jf T (.str "roles")=.ok (.bw (dP .str aN)))(hr:aN.lookup aB=some r)(h4:r∈fO):xU [T,.str aB]=.ok (.int (lvl r)):=by
 show cX (md.1 [.sh T,.sh (.str aB)])=_;unfold md;have e4:∀X:Rs Tr,(if([.str "guest",.str "speaker",.str "keeper",.str "owner"]:List Tr).length<=ee then X else .bad)=X:=fun X=>au (by show 4<=ee;decide);have ei:u6 [.str "guest",.str "speaker",.str "keeper",.str "owner"] (.str r)=.ok (.int (lvl r)):=by
  have:r="guest"\/r="speaker"\/r="keeper"\/r="owner":=by simpa using h4
  rcases this with rfl|rfl|rfl|rfl<;>rfl
 simp only[ev,cB,hT,dC,hr,cF,mB,e4,dk,kh,ei]
def px(stays:List jb):List Str:=(stays.filter fun s=>s.2.2.2.isNone).map (·.1)
theorem tX{α:Type}{Q:α->Bool}{x:α}:∀{l r:List α},l.filter Q=x::r->∃a:Nat,l[a]?=some x/\Q x=true/\∀(b:Nat) (y:α),b<a->l[b]?=some y->Q y=false
 |y::l,r,h=>by
  cases e:Q y with
  |true=>
   rw[kn e]at h;cases h;exact⟨0,rfl,e,fun b y hb=>absurd hb (v7 _)⟩
  |false=>
   rw[jj (by rw[e];exact eR)]at h;obtain⟨a,h1,h2,h3⟩:=tX h;refine⟨a+1,h1,h2,fun b z hb hz=>?_⟩;cases b with
   |zero=>cases hz;exact e
   |succ b=>exact h3 b z (Nat.lt_of_succ_lt_succ hb) hz
theorem ix0{t:Tr}:jf (.lst (t::rows)) (.int 0)=.ok t:=by
 show kh (ua (t::rows) 0)=_;have:LP (t::rows).length 0=some 0:=by unfold LP;simp
 unfold ua;rw[this]
 rfl
theorem x9(h:bx A j ks kb ka rows aN stays aR asked d v p)(f:jh rows)(k:cZ aN ents ent)(ho:px stays=aN.map (·.1))(hl:rows.length<ee)(hs:stays.length<=ee)(hr:aN.length<ee):
  ∃A' bW k_,me [.at j] A=.ok .bO A'/\fU rows aN bW k_/\Ext A A' [(j+1,.lst bW),(j+2,.bw (dP .str k_))]/\bx A' j ks kb ka bW k_ stays aR asked d v p:=by
 show∃A' bW k_,cj (pY.1 [.sh (.at j),.no,.no] A)=.ok .bO A'/\_;unfold pY;have x0:Ext A A [(j+1,.lst rows),(j+2,.bw (dP .str aN))]:=(Ext.refl.idem h.rl rfl).idem h.rw (i7 (by omega));have hT:=h.CC (n:=3);simp only[ev,cB,gE,g0,hT,S0];by_cases gq:aN=[]
 ·subst gq;exact⟨_,_,_,rfl,.same (.inl rfl),x0,h⟩
 have he:aN.isEmpty=false:=by cases aN<;>first|exact absurd rfl gq|rfl
 simp only[he,dY,cS,ev,vv k.sh,map_fst];rw[kF (Au:=[.sh (aw 5 A (.at j))]) (fun _=>true) (fun p=>.str p.1) (fun p=>.str p.2) (xs:=aN) (by rw[bY];rfl) (cT hr) rfl (fun _ _=>rfl) ?hF]
 case hF=>intro q hq _;simp only[ev,cB,hT,dk,gZ k.nd q hq,cF,kh]
 rw[show aN.filter (fun _=>true)=aN from nM.mpr fun _ _=>rfl,show(aN.map fun p=>Tr.str p.2)=(aN.map (·.2)).map .str by rw[bY];rfl];simp only[ev,cB,gE,g0,Aw];by_cases hw:∃p∈aN,p.2="owner"
 ·have:(aN.map (·.2)).contains (Str.ofString "owner")=true:=by
   obtain⟨q,hq,e⟩:=hw;exact dU.mpr (bS.mpr ⟨q,hq,e⟩)
  simp only[this,ev];exact⟨_,_,_,rfl,.same (.inr hw),x0,h⟩
 have Ih:∀p∈aN,p.2≠"owner":=fun p hp e=>hw ⟨p,hp,e⟩;have hc:(aN.map (·.2)).contains (Str.ofString "owner")=false:=by
  cases e:(aN.map (·.2)).contains (Str.ofString "owner")with
  |false=>rfl
  |true=>
   obtain⟨q,hq,e⟩:=bS.mp (dU.mp e);exact absurd e (Ih q hq)
 simp only[hc,ev,cB,gE,g0,hT,vv k.sh,map_fst];rw[kF (Au:=[.sh (aw 5 A (.at j))]) (fun _=>true) (fun p=>.str p.1) (fun p=>.int (lvl p.2)) (xs:=aN) (by rw[bY];rfl) (cT hr) rfl (fun _ _=>rfl) ?hF]
 case hF=>intro q hq _;simp only[ev,cB,ED hT (gZ k.nd q hq) (k.rl q hq)]
 rw[show aN.filter (fun _=>true)=aN from nM.mpr fun _ _=>rfl];have hmx:=max_map (f:=fun q:Str×Str=>lvl q.2) gq;obtain⟨m1,m2⟩:=Er (ns:=aN.map fun q=>lvl q.2) (by rw[aK];exact rB.mpr gq);generalize qv (aN.map fun q=>lvl q.2)=most at hmx m1 m2;simp only[ev,cB,gE,g0,hmx,bH,bI,h.Xw (n:=3),F3]
 let Q:Str->Bool:=fun z=>match aN.lookup z with|some r=>lvl r==most|none=>false
 have hQ:∀q∈aN,Q q.1=(lvl q.2==most):=fun q hq=>by show(match aN.lookup q.1 with|some r=>lvl r==most|none=>false)=_;rw[gZ k.nd q hq]
 rw[kF (Au:=[.sh (.int most),.sh (aw 5 A (.at j))]) (fun s:jb=>s.2.2.2.isNone&&Q s.1) u_ (fun s=>.str s.1) rfl hs rfl ?hC ?hF]
 case hC=>
  intro s hs;obtain⟨a,b,c,e⟩:=s;have i0:jf (u_ (a,b,c,e)) (.int 0)=.ok (.str a):=rfl;have i3:jf (u_ (a,b,c,e)) (.int 3)=.ok (Ep e):=rfl;cases e with
  |some m=>
   have ie:Fo (Ep (some m)) .bO=.ok (.bl false):=rfl;simp only[ev,cB,i3,ie,vR,v_]
  |none=>
   have ie:Fo (Ep none) .bO=.ok (.bl true):=rfl;have hm:a∈px stays:=bS.mpr ⟨_,fm.mpr ⟨hs,rfl⟩,rfl⟩;rw[ho]at hm;obtain⟨q,hq,e⟩:=bS.mp hm;subst e;simp only[ev,cB,i0,i3,ie,ED hT (gZ k.nd q hq) (k.rl q hq),Option.isNone_none,n_,hQ q hq]
 case hF=>intro s _ _;obtain⟨a,b,c,e⟩:=s;rfl
 have ht:(stays.filter fun s:jb=>s.2.2.2.isNone&&Q s.1).map (fun s=>Tr.str s.1)=((aN.filter fun q=>lvl q.2==most).map (·.1)).map .str:=by
  rw[show(fun s:jb=>Tr.str s.1)=Tr.str∘(·.1)from rfl,<-bY];congr 1;have e1:(stays.filter fun s:jb=>s.2.2.2.isNone&&Q s.1)=(stays.filter fun s=>s.2.2.2.isNone).filter fun s=>Q s.1:=by
   rw[List.filter_filter];congr 1;funext s;exact Bool.and_comm ..
  have e2:((stays.filter fun s=>s.2.2.2.isNone).filter fun s=>Q s.1).map (·.1)=(px stays).filter Q:=by unfold px;rw[nY];rfl
  rw[e1,e2,ho,nY];congr 1;exact rJ fun q hq=>hQ q hq
 rw[ht];obtain⟨q0,hq0,e0⟩:=bS.mp m1;have hfe:(aN.filter fun q=>lvl q.2==most)≠[]:=List.ne_nil_of_mem (fm.mpr ⟨hq0,by simpa using e0⟩);obtain⟨⟨z,rz⟩,c8,hfz⟩:=List.exists_cons_of_ne_nil hfe;obtain⟨a,a1,a2,a3⟩:=tX hfz;have hz:HQ aN z:=⟨a,rz,a1,fun q hq=>by
  have:=m2 _ (fk hq);have e:lvl rz=most:=by simpa using a2
  rw[e];exact this,fun b q hb hq=>by
  have h1:=m2 _ (fk (f:=fun q:Str×Str=>lvl q.2) (dm hq));have h2:¬lvl q.2=most:=by simpa using a3 b q hb hq
  have e:lvl rz=most:=by simpa using a2
  omega⟩
 rw[hfz];have h1:=h.ext (Ext.push (o:=.lst ((((z,rz)::c8).map (·.1)).map .str))) fun _ _=>rfl;have h2:=h1.NW (k_:=eQ aN z "owner") (Ext.put h1.rl);have t1:aw 5 (A++[Ao.lst ((((z,rz)::c8).map (·.1)).map .str)]) (.at A.length)=.lst ((((z,rz)::c8).map (·.1)).map .str):=by rw[kY mP,pS]
 have t2:aw 5 ((A++[Ao.lst ((((z,rz)::c8).map (·.1)).map .str)]).set (j+2) (.bw (dP .str (eQ aN z "owner")))) (.at A.length)=.lst ((((z,rz)::c8).map (·.1)).map .str):=by
  rw[kY (((Ext.put h1.rl).same mP (i7 (by have:=gR h.rl;omega)))),pS]
 have i0:jf (.lst ((((z,rz)::c8).map (·.1)).map .str)) (.int 0)=.ok (.str z):=ix0;have ep:=o8 (z:=z) (t:=.str "owner") (Y:=[.sh (.at j),.sh (.int most),.sh (.at A.length)]) h1.rl (by rw[kZ];exact hr);rw[mQ]at ep;have w:=AW (aB:=z) (ps:=[.str "role",.str z,.str "owner"]) h2 f hl (by show 2+3<=ee;decide) rfl;have ef:∀A,q_ (.ok (.tup [.str "role",.str z,.str "owner"])) A=.ok (.tup [.str "role",.str z,.str "owner"]) A:=fun A=>rfl;simp only[vt pR,ev,cB,gE,g0,bH,bI,qY,jv,h1.NV,t1,i0,ep,t2,ef,w];exact⟨_,_,_,rfl,.yA z hz Ih gq,(Ext.past Ext.push (Ext.put h1.rl)).cons (Ext.put h2.rw),h2.KQ (Ext.put h2.rw)⟩
end
section
variable {j ks kb ka n:Nat}{stays:List jb}{bN asked:List Str}{d v p c5:Str}
theorem Gd{c6:Str}(m:fJ A aR c7)(h:bx A j ks kb ka rows aN stays bN asked d v p)(hj:c7.lookup c5=some j)(hw:c6="found"\/c6="enter"\/c6="leave"):
  eB [aw 5 A (.at 4),.tup [.str c6,.str aB,.str c5]]=.ok (if aR.contains aB=false then .str "no person"else if c6="found"then .str "known"else if c6="enter"then(if(aN.lookup aB).isSome=true then .str "known"else if bN.contains aB=true then .str "barred"else if d="asked"/\asked.contains aB=false then .str "not asked"else .bO)else if(aN.lookup aB).isSome=true then .bO else .str "not in"):=by
 show cX (gC.1 [.sh (aw 5 A (.at 4)),.sh (.tup [.str c6,.str aB,.str c5]),.no,.no,.no])=_;unfold gC;have i0:jf (.tup [.str c6,.str aB,.str c5]) (.int 0)=.ok (.str c6):=rfl;have i1:jf (.tup [.str c6,.str aB,.str c5]) (.int 1)=.ok (.str aB):=rfl;have i2:jf (.tup [.str c6,.str aB,.str c5]) (.int 2)=.ok (.str c5):=rfl;have n1:(c6==Str.ofString "come")=false:=by rcases hw with rfl|rfl|rfl<;>decide+kernel
 have n2:GV (.str c6) (.tup [.str "ask",.str "role",.str "out",.str "bar",.str "unbar"])=.ok (.bl false):=by rcases hw with rfl|rfl|rfl<;>rfl
 have n3:GV (.str c6) (.tup [.str "say",.str "mend",.str "take_back"])=.ok (.bl false):=by rcases hw with rfl|rfl|rfl<;>rfl
 have l1:∀a,BC (.ok [a])=.ok (.lst [a]):=fun _=>rfl;have a1:yp (.lst [.str aB]) (.lst [])=.ok (.lst [.str aB]):=rfl;have tr:∀x:Bool,oH (.lst (((if x then[aB]else[]):List Str).map .str))=.ok x:=fun x=>by cases x<;>rfl
 have t3:aw 3 A (.at j)=.bw (dP (aw 2 A) (CB j ks kb ka d v p)):=gg h.o;simp only[ev,cB,i0,i1,i2,bH,bI,n1,l1,F3];rw[kF (Au:=[.sh (.tup [.str c6,.str aB,.str c5]),.sh (.str c6)]) (fun _:Unit=>false) (fun _=>.int 3) (fun _=>.bO) (xs:=[()]) (by rfl) (by decide) rfl (fun _ _=>by simp only[ev,cB,n2]) (fun _ _ e=>by cases e)];simp only[nT,v8,cA,bJ,lG,a1,ev,cB,F3,bH,bI];rw[pT (ns:=[aB]) (Au:=[.sh (aw 5 A (.at 4))]) (fun z=>!aR.contains z) (by rfl) (by show 1<=ee;decide) rfl (fun _=>rfl) ?hC]
 case hC=>intro z _;simp only[ev,cB,m.S1 (n:=3),xE]
 have tf:oH (.lst ((List.filter (fun z=>!aR.contains z) [aB]).map .str))=.ok (!aR.contains aB):=by
  rw[nT,v8];exact tr _
 simp only[ev,cB,tf];cases hp:aR.contains aB with
 |false=>simp only[dY,ev,bT]
 |true=>
  simp only[cS,ev,cB,i1,i2,m.KW (n:=3),CD,hj,cF,nU,bH,bI,Bool.true_eq_false,bJ];rcases hw with rfl|rfl|rfl
  ·simp only[bB,ev,cB,t3,NZ,bT]
  ·have s1:(Str.ofString "enter"==Str.ofString "found")=false:=by decide+kernel
   have s2:¬(Str.ofString "enter"=Str.ofString "found"):=by decide+kernel
   simp only[s1,s2,ev,cB,bJ,bB,bT];rw[show Fo (aw 3 A (.at j)) .bO=.ok (.bl false) by rw[t3];rfl];simp only[ev,cB,i1,bB,h.CC (n:=1),dC,jl];cases(aN.lookup aB).isSome with
   |true=>simp only[ev,cB,bT]
   |false=>
    simp only[ev,cB,i1,h.Xx (n:=1),Aw,cA,bJ];cases bN.contains aB with
    |true=>simp only[ev,cB,bT]
    |false=>
     simp only[ev,cB,i1,h.SY (n:=1),h.a_d (n:=2),xE,cA,bJ];by_cases hd:d="asked"
     ·subst hd;simp only[bB,ev,cB,true_and];cases asked.contains aB<;>rfl
     ·have:(d==Str.ofString "asked")=false:=by simpa using hd
      simp only[this,ev,cB,hd,false_and,bJ]
  ·have s1:(Str.ofString "leave"==Str.ofString "found")=false:=by decide+kernel
   have s2:¬(Str.ofString "leave"=Str.ofString "found"):=by decide+kernel
   have s3:(Str.ofString "leave"==Str.ofString "enter")=false:=by decide+kernel
   have s4:¬(Str.ofString "leave"=Str.ofString "enter"):=by decide+kernel
   simp only[s1,s2,s3,s4,ev,cB,bJ];rw[show Fo (aw 3 A (.at j)) .bO=.ok (.bl false) by rw[t3];rfl];simp only[ev,cB,i1,s3,h.CC (n:=1),dC,jl];cases(aN.lookup aB).isSome with
   |true=>simp only[cS,ev,cB,n3,bB,bT]
   |false=>simp only[dY,ev,cB,cA,bJ]
end
section
variable {A0 A1 A2:Ab}{j:Nat}{c5:Str}
theorem Lm(m:fJ A aR c7)(hj:c7.lookup c5=some j)(q1:uv [.at j,.str aB,.str "enter"] A=.ok .bO A1)(q2:me [.at j] A1=.ok .bO A2):mf [.at 4,.tup [.str "enter",.str aB,.str c5]] A=.ok .bO A2:=by
 show cj (iV.1 [.sh (.at 4),.sh (.tup [.str "enter",.str aB,.str c5]),.no,.no,.no] A)=_;unfold iV;have sl:An (.ok (.tup [.str "enter",.str aB,.str c5])) (.ok none) (M4 (.ok (.int 2)))=.ok (.tup [.str "enter",.str aB]):=rfl;have ef:∀A,q_ (.ok (.tup [.str "enter",.str aB])) A=.ok (.tup [.str "enter",.str aB]) A:=fun A=>rfl;have gt:∀A,Jv (gT [2,3]) (.ok (.tup [.str "enter",.str aB]) A) [.sh (.at 4),.sh (.tup [.str "enter",.str aB,.str c5]),.no,.no,.no]=.ok (.nx [.sh (.at 4),.sh (.tup [.str "enter",.str aB,.str c5]),.sh (.str "enter"),.sh (.str aB),.no]) A:=fun A=>rfl;have i2:jf (.tup [.str "enter",.str aB,.str c5]) (.int 2)=.ok (.str c5):=rfl;have s1:(Str.ofString "enter"==Str.ofString "come")=false:=by decide+kernel
 have s2:(Str.ofString "enter"==Str.ofString "found")=false:=by decide+kernel
 have s3:(Str.ofString "enter"==Str.ofString "say")=false:=by decide+kernel
 simp only[ev,cB,gE,g0,sl,ef,gt,s1,s2,s3,i2,jv,m.S2,vx m.rs,dk,hj,cF,kh,bH,bI,bB,q1,q2]
theorem Ln{n:Int}(m:fJ A aR c7)(hj:c7.lookup c5=some j)(q0:AU [.at j,.str aB,.tup [.str "leave"]] A=.ok (.int n) A0)(q1:xW [.at j,.str aB,.int n] A0=.ok .bO A1)(q2:me [.at j] A1=.ok .bO A2):mf [.at 4,.tup [.str "leave",.str aB,.str c5]] A=.ok .bO A2:=by
 show cj (iV.1 [.sh (.at 4),.sh (.tup [.str "leave",.str aB,.str c5]),.no,.no,.no] A)=_;unfold iV;have sl:An (.ok (.tup [.str "leave",.str aB,.str c5])) (.ok none) (M4 (.ok (.int 2)))=.ok (.tup [.str "leave",.str aB]):=rfl;have ef:∀A,q_ (.ok (.tup [.str "leave",.str aB])) A=.ok (.tup [.str "leave",.str aB]) A:=fun A=>rfl;have eg:∀A,q_ (.ok (.tup [.str "leave"])) A=.ok (.tup [.str "leave"]) A:=fun A=>rfl;have gt:∀A,Jv (gT [2,3]) (.ok (.tup [.str "leave",.str aB]) A) [.sh (.at 4),.sh (.tup [.str "leave",.str aB,.str c5]),.no,.no,.no]=.ok (.nx [.sh (.at 4),.sh (.tup [.str "leave",.str aB,.str c5]),.sh (.str "leave"),.sh (.str aB),.no]) A:=fun A=>rfl;have i2:jf (.tup [.str "leave",.str aB,.str c5]) (.int 2)=.ok (.str c5):=rfl;have s1:(Str.ofString "leave"==Str.ofString "come")=false:=by decide+kernel
 have s2:(Str.ofString "leave"==Str.ofString "found")=false:=by decide+kernel
 have s3:(Str.ofString "leave"==Str.ofString "say")=false:=by decide+kernel
 have s4:(Str.ofString "leave"==Str.ofString "enter")=false:=by decide+kernel
 simp only[ev,cB,gE,g0,sl,ef,eg,gt,s1,s2,s3,s4,i2,jv,m.S2,vx m.rs,dk,hj,cF,kh,bH,bI,bB,q0,q1,q2]
theorem bsr{X:Rz Tr}{G:bf->Ab->Rz Out}:cj (DT (Ju X) G)=X:=by cases X<;>rfl
theorem Lo(h:bR A aH a9):fT [.at 0,.tup [.str "enter",.str aB,.str c5]] A=m4 [.at 0,.str aB,.str c5] A:=by
 show cj (iW.1 [.sh (.at 0),.sh (.tup [.str "enter",.str aB,.str c5]),.no] A)=_;unfold iW;have i0:jf (.tup [.str "enter",.str aB,.str c5]) (.int 0)=.ok (.str "enter"):=rfl;have i1:jf (.tup [.str "enter",.str aB,.str c5]) (.int 1)=.ok (.str aB):=rfl;have i2:jf (.tup [.str "enter",.str aB,.str c5]) (.int 2)=.ok (.str c5):=rfl;have s1:(Str.ofString "enter"==Str.ofString "come")=false:=by decide+kernel
 have s2:(Str.ofString "enter"==Str.ofString "found")=false:=by decide+kernel
 simp only[ev,cB,gE,g0,i0,i1,i2,s1,s2,bH,bI,bB,h.call (m:="enter") rfl,bsr]
theorem Lp(h:bR A aH a9):fT [.at 0,.tup [.str "leave",.str aB,.str c5]] A=m5 [.at 0,.str aB,.str c5] A:=by
 show cj (iW.1 [.sh (.at 0),.sh (.tup [.str "leave",.str aB,.str c5]),.no] A)=_;unfold iW;have i0:jf (.tup [.str "leave",.str aB,.str c5]) (.int 0)=.ok (.str "leave"):=rfl;have i1:jf (.tup [.str "leave",.str aB,.str c5]) (.int 1)=.ok (.str aB):=rfl;have i2:jf (.tup [.str "leave",.str aB,.str c5]) (.int 2)=.ok (.str c5):=rfl;have s1:(Str.ofString "leave"==Str.ofString "come")=false:=by decide+kernel
 have s2:(Str.ofString "leave"==Str.ofString "found")=false:=by decide+kernel
 have s3:(Str.ofString "leave"==Str.ofString "enter")=false:=by decide+kernel
 simp only[ev,cB,gE,g0,i0,i1,i2,s1,s2,s3,bH,bI,bB,h.call (m:="leave") rfl,bsr]
variable {ts:List Tr}{x w:Str}
theorem S6(q:fT [.at 0,.tup ts] A=.ok .bO A1):pw [.at 0,.tup ts] A=.ok .bO A1:=by
 show cj (mh.1 [.sh (.at 0),.sh (.tup ts),.no,.no,.no] A)=_;unfold mh;have tz:∀o A G,Ea 5 4 ["Known","NoPerson","NoRoom","NotIn","NotAsked","Barred","NoRight","NoRow","NoHand","NoLine"] (.ok o A) G=.ok o A:=fun _ _ _=>rfl;have ic:Fo .bO .bO=.ok (.bl true):=rfl;simp only[ev,cB,gE,g0,bH,bI,q,tz,ic]
theorem Of(q:fT [.at 0,.tup ts] A=.exc (.str x) A)(hx:(["Known","NoPerson","NoRoom","NotIn","NotAsked","Barred","NoRight","NoRow","NoHand","NoLine"]:List Str).contains x=true)(hw:xV [.yM x]=.ok (.str w)):pw [.at 0,.tup ts] A=.ok (.str w) (A++[.Dg x]):=by
 show cj (mh.1 [.sh (.at 0),.sh (.tup ts),.no,.no,.no] A)=_;unfold mh;have tz:∀A:Ab,Ea 5 4 ["Known","NoPerson","NoRoom","NotIn","NotAsked","Barred","NoRight","NoRow","NoHand","NoLine"] (.exc (.str x) A) (fun Y A=>zZ 2 (fQ (wL Y 4) A) Y)=.ok (.nx [.no,.no,.sh (.at A.length),.no,.no]) (A++[.Dg x]):=fun A=>by
  unfold Ea WM;simp only[hx,bT]
  rfl
 have t1:aw 5 (A++[Ao.Dg x]) (.at A.length)=.yM x:=by simp only[aw,mP]
 have ic:Fo (.yM x) .bO=.ok (.bl false):=rfl;simp only[ev,cB,gE,g0,bH,bI,q,tz,t1,ic,hw]
theorem Og(hr:eB [aw 5 A (.at 4),.tup ts]=.ok (.str w))(ht:pw [.at 0,.tup ts] A=.ok (.str w) A1)(hs:d_ 5 [.str w,.str w]=.ok (.bl true)):iX [.at 0,.at 4,.tup ts] A=.ok (.bl true) A1:=by
 show cj (mi.1 [.sh (.at 0),.sh (.at 4),.sh (.tup ts),.no] A)=_;unfold mi;have ic:Fo (.str w) .bO=.ok (.bl false):=rfl;simp only[ev,cB,gE,g0,bH,bI,hr,ic,ht,hs]
theorem Oh(hr:eB [aw 5 A (.at 4),.tup ts]=.ok .bO)(hd:mf [.at 4,.tup ts] A=.ok .bO A1)(ht:pw [.at 0,.tup ts] A1=.ok .bO A2):iX [.at 0,.at 4,.tup ts] A=.ok (.bl true) A2:=by
 show cj (mi.1 [.sh (.at 0),.sh (.at 4),.sh (.tup ts),.no] A)=_;unfold mi;have ic:Fo .bO .bO=.ok (.bl true):=rfl;have hs:d_ 5 [.bO,.bO]=.ok (.bl true):=rfl;simp only[ev,cB,gE,g0,bH,bI,hr,ic,hd,ht,hs]
end
theorem lkn{k:Nat}:∀{pins:List (Nat×Ao)},k∉pins.map (·.1)->pins.lookup k=none
 |[],_=>rfl
 |p::pins,h=>by
  rw[ba,aV,not_or]at h;rw[bX];have:(k==p.1)=false:=by simpa using h.1
  rw[this];exact lkn h.2
def ml(A A':Ab)(S:List Nat):Prop:=∃pins,Ext A A' pins/\∀k∈pins.map (·.1),k∈S
section
variable {A' B:Ab}{S T:List Nat}{k:Nat}{o o':Ao}
theorem ml.push:ml A (A++[o]) S:=⟨[],Ext.push,fun k h=>nomatch h⟩
theorem ml.put (h:A[k]?=some o')(m:k∈S):ml A (A.set k o) S:=⟨_,Ext.put h,fun q hq=>by cases cE.mp hq;exact m⟩
theorem ml.of {pins:List (Nat×Ao)}(x:Ext A A' pins)(h:∀k∈pins.map (·.1),k∈S):ml A A' S:=⟨pins,x,h⟩
theorem ml.trans (a:ml A A' S)(b:ml A' B S):ml A B S:=by
 obtain⟨pins,x,p⟩:=a;obtain⟨V,y,q⟩:=b;refine⟨_,x.trans y,fun k hk=>?_⟩;rw[jq]at hk;rcases cR.mp hk with h|h
 ·exact q k h
 ·exact p k h
theorem ml.sub (a:ml A A' S)(h:∀k∈S,k∈T):ml A A' T:=by obtain⟨pins,x,p⟩:=a;exact⟨pins,x,fun k hk=>h k (p k hk)⟩
theorem ml.same (a:ml A A' S)(h:A[k]?=some o)(n:k∉S):A'[k]?=some o:=by obtain⟨pins,x,p⟩:=a;exact x.same h (lkn fun q=>n (p k q))
theorem aS.kp {i:Nat}{rk en ch bn iv:List (Key×Tr)}(h:aS A i rows rk en ch bn iv)(t:ml A A' S)(q:∀k∈S,k<i\/i+6<k):aS A' i rows rk en ch bn iv:=by
 have n:∀k,i<=k->k<=i+6->k∉S:=fun k h1 h2 hk=>by have:=q k hk;omega
 exact⟨t.same h.o (n _ (by omega) (by omega)),t.same h.lg (n _ (by omega) (by omega)),t.same h.rk (n _ (by omega) (by omega)),t.same h.en (n _ (by omega) (by omega)),t.same h.ch (n _ (by omega) (by omega)),t.same h.bn (n _ (by omega) (by omega)),t.same h.iv (n _ (by omega) (by omega))⟩
theorem bx.kp {j ks kb ka:Nat}{stays:List jb}{bN asked:List Str}{d v p:Str}(h:bx A j ks kb ka rows aN stays bN asked d v p)(t:ml A A' S)(q:∀k∈[j,j+1,j+2,ks,kb,ka],k∉S):bx A' j ks kb ka rows aN stays bN asked d v p:=by
 obtain⟨pins,x,p⟩:=t;exact h.ext x fun k hk=>lkn fun hu=>q k hk (p k hu)
theorem bR.kp (h:bR A aH a9)(t:ml A A' S)(q:∀k∈S,6<k):bR A' aH a9:=by
 have n:∀k,k<=6->k∉S:=fun k h1 hk=>by have:=q k hk;omega
 exact⟨t.same h.o (n _ (by decide)),t.same h.ps (n _ (by decide)),t.same h.pl (n _ (by decide))⟩
theorem fJ.kp (h:fJ A aR c7)(t:ml A A' S)(q:∀k∈S,6<k):fJ A' aR c7:=by
 have n:∀k,k<=6->k∉S:=fun k h1 hk=>by have:=q k hk;omega
 exact⟨t.same h.o (n _ (by decide)),t.same h.pe (n _ (by decide)),t.same h.rs (n _ (by decide))⟩
end
abbrev iS(i:Nat):List Nat:=[i+1,i+2,i+3,i+4,i+5,i+6]
theorem sn{a b:String}(h:(a==b)=false):(Str.ofString a==Str.ofString b)=false:=by
 have:a≠b:=by simpa using h
 refine iw.mpr fun e=>this ?_
 rw[Str.ofString_eq_toList,Str.ofString_eq_toList]at e;injection e with e
 have m:∀{l r:List Char},l.map Char.toNat=r.map Char.toNat->l=r:=fun{l}=>by
  induction l with
  |nil=>intro r h;cases r with
   |nil=>rfl
   |cons=>cases h
  |cons x l ih=>intro r h;cases r with
   |nil=>cases h
   |cons y r=>
    injection h with h1 h2
    rw[ih h2,Char.toNat_inj.mp h1]
 exact String.toList_inj.mp (m (Array.toList_inj.mpr e:(List.map Char.toNat a.toList).toArray.toList=_))
theorem jN(h:aB.length<=20000):∃w,B9 aB=.ok (.str w):=⟨aB,au (bP h (by decide))⟩
theorem jC{k:Str->Rs Tr}{acc z:Str}{n:Nat}(ha:acc.length<=n)(hz:z.length<=1000)(hn:n<=10000)(h:∀a,a.length<=n+1000->∃w,k a=.ok (.str w)):∃w,nc (.ok (.str z)) k acc=.ok (.str w):=by
 have l:(acc++z).length<=n+1000:=by rw[nF];omega
 obtain⟨w,e⟩:=h _ l;refine⟨w,?_⟩;show(if(acc++z).length<=cw then k (acc++z)else .bad)=_;rw[au (bP l (by show n+1000<=1000000;omega)),e]
def fW:List (Bool×Str×Str)->Tr
 |[]=>.bO
 |(b,_,w)::cs=>if b then .str w else fW cs
def fX(A:Ab)(X:Rz Tr):List (Bool×Str×Str)->Rz Tr
 |[]=>X
 |(b,x,_)::cs=>if b then .exc (.str x) A else fX A X cs
theorem XD{X:Rz Tr}:∀{cs:List (Bool×Str×Str)},(∀c∈cs,c.1=false)->fX A X cs=X
 |[],_=>rfl
 |c::cs,h=>by
  obtain⟨b,x,w⟩:=c;have:b=false:=h _ (bM ..);subst this;exact XD (cs:=cs) fun c hc=>h c (bF _ hc)
theorem LX{b:Bool}{w:Str}{X:Rz Tr}{ρ:Rz Tr}(h1:b=true->ρ=.exc (.str aB) A)(h2:b=false->ρ=fX A X cs):ρ=fX A X ((b,aB,w)::cs):=by
 cases b with
 |true=>exact h1 rfl
 |false=>exact h2 rfl
theorem YR{b:Bool}{w:Str}{ρ:Rs Tr}(h1:b=true->ρ=.ok (.str w))(h2:b=false->ρ=.ok (fW cs)):ρ=.ok (fW ((b,aB,w)::cs)):=by
 cases b with
 |true=>exact h1 rfl
 |false=>exact h2 rfl
theorem XF{k:Nat}{t:Tr}(h:rows[k]?=some t):jf (.tup rows) (.int k)=.ok t:=by
 show kh (L2.ua rows k)=_;rw[zM h];rfl
theorem LY:(∀a l,jf (.tup (a::l)) (.int 0)=.ok a)/\(∀a b l,jf (.tup (a::b::l)) (.int 1)=.ok b)/\(∀a b c l,jf (.tup (a::b::c::l)) (.int 2)=.ok c)/\(∀a b c d l,jf (.tup (a::b::c::d::l)) (.int 3)=.ok d)/\(∀a b c d e l,jf (.tup (a::b::c::d::e::l)) (.int 4)=.ok e):=
 ⟨fun _ _=>XF (k:=0) rfl,fun _ _ _=>XF (k:=1) rfl,fun _ _ _ _=>XF (k:=2) rfl,fun _ _ _ _ _=>XF (k:=3) rfl,fun _ _ _ _ _ _=>XF (k:=4) rfl⟩
theorem evC:(∀i j:Int,ZO (.int i) (.int j)=.ok (.bl (decide (i<j))))/\(∀i j:Int,ZP (.int i) (.int j)=.ok (.bl (decide (i<=j))))/\(∀i j:Int,ZR (.int i) (.int j)=.ok (.bl (decide (j<=i))))/\(∀i j:Int,Kc [.int i,.int j]=.ok (.int (if j>i then j else i))):=by
 refine⟨?_,?_,?_,?_⟩<;>intros<;>rfl
def EE(aq:List (Str×Str))(z:Str):Int:=match aq.lookup z with
 |some r=>lvl r
 |none=>-1
theorem Lq(r:Str):0<=lvl r/\lvl r<=3:=by
 unfold lvl;split
 ·decide
 split
 ·decide
 split<;>decide
theorem S7{r:Str}(h:r∈fO):(r==("owner":Str))=decide (lvl r=3)/\(r==("keeper":Str))=decide (lvl r=2):=by
 have:r="guest"\/r="speaker"\/r="keeper"\/r="owner":=by simpa using h
 rcases this with rfl|rfl|rfl|rfl<;>decide+kernel
theorem Lr:decide (EE aq aB<0)=(aq.lookup aB).isNone:=by
 unfold EE;cases aq.lookup aB with
 |none=>rfl
 |some r=>exact eC (by have:=Lq r;show¬lvl r<0;omega)
abbrev RA(A:Ab)(i:Nat)(rows:List Tr)(aq:List (Str×Str))(ents:List (Str×Int))(qI:List (Str×Str))(bn iv:List Str):Prop:=aS A i rows (dP .str aq) (dP .int ents) (dP .str qI) (nS bn) (nS iv)
section
variable {i:Nat}{qI:List (Str×Str)}{bn iv:List Str}{ent:Str->Int}{c9 r m6 val:Str}{X:Rz Tr}{Y:bf}
theorem m7(tu:jh rows):du rows (dP .str aq) (dP .int ents) (dP .str qI) (nS bn) (nS iv):=⟨tu,Ua,flI,Ua,vy,vy⟩
theorem cZ.lk (k:cZ aq ents ent)(h:aq.lookup aB=some r):r∈fO:=k.rl _ (hZ h)
theorem zx(h:RA A i rows aq ents qI bn iv)(tu:jh rows)(hw:aB.length<=1000):j9 [.at i,.str aB] A=if(aq.lookup aB).isNone then .exc (.str "NotIn") A else .ok .bO A:=by
 have n:=xY h (m7 tu) hw;rw[dC]at n;rw[n];cases aq.lookup aB<;>rfl
end
section
variable {i:Nat}{qI:List (Str×Str)}{bn iv:List Str}{ent:Str->Int}{m6 val:Str}
theorem zy(q:(aq.lookup aB).isNone=false):∃r,aq.lookup aB=some r:=by
 cases e:aq.lookup aB with
 |none=>rw[e]at q;cases q
 |some r=>exact⟨r,rfl⟩
theorem x_{r:Str}(h:aq.lookup aB=some r):EE aq aB=lvl r:=by unfold EE;rw[h]
theorem Gp{a:Str}:(∀A,q_ (.ok (.tup [.str a])) A=.ok (.tup [.str a]) A)/\(∀A,q_ (.ok (.tup [.str a,.str aB])) A=.ok (.tup [.str a,.str aB]) A):=⟨fun _=>rfl,fun _=>rfl⟩
end
section
variable {A1:Ab}{i:Nat}{c9 c5 m6 val:Str}{qI:List (Str×Str)}{bn iv:List Str}
theorem Oi(h:bR A aH a9)(hw:aB.length<=1000)(hv:c9.length<=1000):gv [.at 0,.tup [.str aB,.str c9]] A=if((aH.lookup aB).isSome&&(aH.lookup c9).isSome)=true then .ok .bO A else .exc (.str "NoPerson") A:=by
 show cj (cO.1 [.sh (.at 0),.sh (.tup [.str aB,.str c9]),.no] A)=_;unfold cO;have s:=Eo (z:="nobody is called ") (y:=aB) (by decide+kernel) hw;have s':=Eo (z:="nobody is called ") (y:=c9) (by decide+kernel) hv;simp only[ev,cB,gE,g0,F3,bH,bI,h.NU,dC,jl];cases(aH.lookup aB).isSome with
 |false=>simp only[dY,ev,cB,gE,g0,s,v_,cA,bJ]
 |true=>
  simp only[cS,ev,cB,gE,g0,bH,bI,h.NU,dC,jl,n_];cases(aH.lookup c9).isSome with
  |true=>simp only[cS,ev,cB,bT]
  |false=>simp only[dY,ev,cB,gE,g0,s',cA,bJ]
theorem Dc(h:bR A aH a9)(hw:aB.length<=1000)(hv:c9.length<=1000)(hj:a9.lookup c5=some i):ik [.at 0,.tup [.str aB,.str c9],.str c5] A=if((aH.lookup aB).isSome&&(aH.lookup c9).isSome)=true then .ok (.at i) A else .exc (.str "NoPerson") A:=by
 show cj (dz.1 [.sh (.at 0),.sh (.tup [.str aB,.str c9]),.sh (.str c5)] A)=_;unfold dz;simp only[ev,cB,gE,g0,h.call (m:="need_people") rfl,Oi h hw hv];cases((aH.lookup aB).isSome&&(aH.lookup c9).isSome)with
 |true=>simp only[bT,ev,cB,gE,g0,h.call (m:="place") rfl,Gb h hj]
 |false=>simp only[cA,bJ,ev]
end
section
variable {j ks kb ka n:Nat}{ent:Str->Int}{stays:List jb}{bN asked:List Str}{d v p c9 c5 x3 m6 val:Str}
theorem Oj{T:Tr}(hT:jf T (.str "roles")=.ok (.bw (dP .str aN)))(k:cZ aN ents ent):xU [T,.str aB]=.ok (.int (EE aN aB)):=by
 cases hr:aN.lookup aB with
 |some r=>rw[x_ hr];exact ED hT hr (k.lk hr)
 |none=>
  show cX (md.1 [.sh T,.sh (.str aB)])=_;unfold md;simp only[ev,cB,hT,dC,hr,nZ,nN,show EE aN aB=-1 by unfold EE;rw[hr]]
theorem S8{c6:Str}{c8:List Tr}{wh:Bool}(m:fJ A aR c7)(h:bx A j ks kb ka rows aN stays bN asked d v p)(hj:c7.lookup c5=some j)
  (hw:c6="arrange"/\wh=false\/(c6="ask"\/c6="role"\/c6="out"\/c6="bar"\/c6="unbar")/\wh=true)
  (hd:ip [aw 3 A (.at j),.tup (.str c6:: .str aB:: .str c5:: .str x3::c8)]=.ok (fW cs)):
  eB [aw 5 A (.at 4),.tup (.str c6:: .str aB:: .str c5:: .str x3::c8)]=.ok (fW ((!(aR.contains aB&&(!wh||aR.contains x3)),"NoPerson","no person")::((aN.lookup aB).isNone,"NotIn","not in")::cs)):=by
 show cX (gC.1 [.sh (aw 5 A (.at 4)),.sh (.tup (.str c6:: .str aB:: .str c5:: .str x3::c8)),.no,.no,.no])=_;unfold gC;have n2:GV (.str c6) (.tup [.str "ask",.str "role",.str "out",.str "bar",.str "unbar"])=.ok (.bl wh):=by rcases hw with⟨rfl,rfl⟩|⟨rfl|rfl|rfl|rfl|rfl,rfl⟩<;>rfl
 have n3:GV (.str c6) (.tup [.str "say",.str "mend",.str "take_back"])=.ok (.bl false):=by rcases hw with⟨rfl,_⟩|⟨rfl|rfl|rfl|rfl|rfl,_⟩<;>rfl
 have n1:(c6==Str.ofString "come")=false/\(c6==Str.ofString "found")=false/\(c6==Str.ofString "enter")=false/\(c6==Str.ofString "leave")=false:=by rcases hw with⟨rfl,_⟩|⟨rfl|rfl|rfl|rfl|rfl,_⟩<;>decide+kernel
 have l1:∀a,BC (.ok [a])=.ok (.lst [a]):=fun _=>rfl;have t3:aw 3 A (.at j)=.bw (dP (aw 2 A) (CB j ks kb ka d v p)):=gg h.o;simp only[ev,cB,LY,bH,bI,n1,l1,F3];rw[kF (Au:=[.sh (.tup (.str c6:: .str aB:: .str c5:: .str x3::c8)),.sh (.str c6)]) (fun _:Unit=>wh) (fun _=>.int 3) (fun _=>.str x3) (xs:=[()]) (by rfl) (by decide) rfl (fun _ _=>by simp only[ev,cB,n2]) (fun _ _ e=>by simp only[ev,cB,LY])];have a1:yp (.lst [.str aB]) (.lst (([()].filter fun _=>wh).map fun _=>.str x3))=.ok (.lst ((aB::if wh then[x3]else[]).map .str)):=by cases wh<;>rfl
 simp only[a1,ev,cB,F3,bH,bI];have Uc:(aB::if wh then[x3]else[]).length<=ee:=by
  cases wh
  ·show 1<=ee;decide
  ·show 2<=ee;decide
 rw[pT (ns:=aB::if wh then[x3]else[]) (Au:=[.sh (aw 5 A (.at 4))]) (fun z=>!aR.contains z) (by rfl) Uc rfl (fun _=>rfl) ?hC]
 case hC=>intro z _;simp only[ev,cB,m.S1 (n:=3),xE]
 have tf:oH (.lst ((List.filter (fun z=>!aR.contains z) (aB::if wh then[x3]else[])).map .str))=.ok (!(aR.contains aB&&(!wh||aR.contains x3))):=by
  cases wh<;>simp only[nT,v8,bT,cA,bJ]<;>cases aR.contains aB<;>first|rfl|(cases aR.contains x3<;>rfl)
 simp only[ev,cB,tf];refine YR (fun q=>by simp only[q,ev]) fun q=>?_
 simp only[q,ev,cB,LY,m.KW (n:=3),CD,hj,cF,nU,bH,bI,n1];rw[show Fo (aw 3 A (.at j)) .bO=.ok (.bl false) by rw[t3];rfl];simp only[ev,cB,LY,n1,n3,h.CC (n:=1),dC,jl];have nq:(aN.lookup aB).isSome=!(aN.lookup aB).isNone:=by cases aN.lookup aB<;>rfl
 refine YR (fun q=>by simp only[nq,q,cS,dY,ev]) fun q=>by simp only[nq,q,cS,dY,ev,cB,n1,n3,hd]
end
section
variable {A':Ab}{j ks kb ka n:Nat}{stays:List jb}{asked l':List Str}{d v p d' v' p' c5 m6 val:Str}
abbrev Pp:List (Key×Tr):=[(.inr "arrange",.str "set"),(.inr "take_back",.str "gone")]
theorem nm1:(∀a b,BC (.ok [a,b])=.ok (.lst [a,b]))/\Ei [.lst [.tup [.str "arrange",.str "set"],.tup [.str "take_back",.str "gone"]]]=.ok (.bw Pp)/\(∀A,uZ (.ok (.bw Pp)) A=.ok (.at A.length) (A++[.bw Pp])):=⟨fun _ _=>rfl,rfl,fun _=>rfl⟩
theorem nm2:aw 5 (A++[.bw Pp]) (.at A.length)=.bw Pp:=by rw[fg mP];rfl
theorem gt2{a b:Tr}{Y:bf}{c e:Cell}:Jv (gT [2,3]) (.ok (.tup [a,b]) A) (c::e:: .no:: .no::Y)=.ok (.nx (c::e:: .sh a:: .sh b::Y)) A:=rfl
abbrev Ls(d v p:Str):List (Str×Str):=[("door",d),("voice",v),("past",p)]
abbrev jS(j ks kb ka:Nat):List Nat:=[j,j+1,j+2,ks,kb,ka]
end
structure Dat where
 rows:List Tr
 aq:List (Str×Str)
 ents:List (Str×Int)
 ent:Str->Int
 stays:List jb
 bN:List Str
 inv:List Str
 asked:List Str
 d:Str
 v:Str
 p:Str
 ks:Nat
 kb:Nat
 ka:Nat
abbrev six:List Str:=["ann","bo","cy","dee","ed","zed"]
theorem iq{z:Str}(h:z∈six):z.length<=1000:=(by decide+kernel:∀z∈six,z.length<=1000) z h
def ir(rows:List Tr):Prop:=∀t∈rows,∃us,t=.tup us/\us.all yg=true/\us.length<=10
section
variable {bW us:List Tr}{ent:Str->Int}{stays:List jb}{inv asked:List Str}{t:Nat}
theorem ir.tu (h:ir rows):jh rows:=fun t ht=>by obtain⟨us,e,_⟩:=h t ht;exact⟨us,e⟩
theorem ir.add (h:ir rows)(hu:us.all yg=true)(hl:us.length<=10):ir (rows++[.tup us]):=fun t ht=>by
 rcases cR.mp ht with ht|ht
 ·exact h t ht
 ·exact⟨us,cE.mp ht,hu,hl⟩
theorem dN{n:Nat}(h:n<10000):n<ee:=cy h (by decide)
theorem vD{α:Type}{l:List (Str×α)}{z:Str}{a:α}:(eQ l z a).length<=l.length+1:=by
 unfold eQ;split
 ·rw[aK];omega
 ·rw[dW];exact aQ _
theorem fU.names (o:fU rows aq bW aN):aN.map (·.1)=aq.map (·.1):=by
 cases o with
 |same _=>rfl
 |yA z g _ _=>
  obtain⟨a,r,e,_⟩:=g.ex;exact x6 (bS.mpr ⟨_,dm e,rfl⟩)
theorem fU.len (o:fU rows aq bW aN):rows.length<=bW.length/\bW.length<=rows.length+1/\aN.length=aq.length:=by
 have hn:aN.length=aq.length:=by have:=cq List.length o.names;simpa using this
 cases o with
 |same _=>omega
 |yA z g _ _=>rw[dW];exact⟨by omega,aQ _,hn⟩
theorem fU.ir (o:fU rows aq bW aN)(h:ir rows):ir bW:=by
 cases o with
 |same _=>exact h
 |yA z g _ _=>exact h.add rfl (by show 5<=10;decide)
theorem fU.ow (o:fU rows aq bW aN):aN=[]\/∃p∈aN,p.2="owner":=by
 cases o with
 |same h=>exact h
 |yA z g _ _=>exact .inr ⟨(z,"owner"),hZ (by rw[xZ,au rfl]),rfl⟩
theorem ya(o:fU rows aq bW aN)(h:∀p∈aq,ent p.1<rows.length+1):∀p∈aN,ent p.1<bW.length+1:=fun p hp=>by
 have:p.1∈aq.map (·.1):=by rw[<-o.names];exact fk hp
 obtain⟨q,hq,e⟩:=bS.mp this;have h1:=h q hq;have h2:=o.len.1;rw[<-e];omega
structure Good(rows:List Tr)(aq:List (Str×Str))(ents:List (Str×Int))(ent:Str->Int)(stays:List jb)(aR inv asked:List Str):Prop where
 fr:ir rows
 rk:cZ aq ents ent
 op:px stays=aq.map (·.1)
 lt:∀p∈aq,ent p.1<rows.length+1
 ow:aq=[]\/∃p∈aq,p.2="owner"
 ia:∀z,inv.contains z=asked.contains z
 ns:∀z∈aq.map (·.1),z∈six
 bs:∀z∈aR,z∈six
 is:∀z∈inv,z∈six
 nd:inv.Nodup
abbrev Pq(D:Dat):Prop:=Good D.rows D.aq D.ents D.ent D.stays D.bN D.inv D.asked
structure Bd(D:Dat)(t:Nat):Prop where
 b1:D.rows.length<=3+2*t
 b2:D.aq.length<=3+t
 b3:D.ents.length<=3+t
 b4:D.stays.length<=3+t
 b5:D.asked.length<=t
 b6:D.bN.length<=t
 b7:D.inv.length<=t
end
structure Pr(A:Ab)(i j:Nat)(D:Dat)(t:Nat):Prop where
 r:RA A i D.rows D.aq D.ents (Ls D.d D.v D.p) D.bN D.inv
 m:bx A j D.ks D.kb D.ka D.rows D.aq D.stays D.bN D.asked D.d D.v D.p
 g:Pq D
 b:Bd D t
 dj:∀k∈jS j D.ks D.kb D.ka,6<k/\(k<i\/i+6<k)
 hi:6<i
def Kept(A:Ab)(D D':Dat):Prop:=∀k∈[D'.ks,D'.kb,D'.ka],k∈[D.ks,D.kb,D.ka]\/A.length<=k
abbrev touched(i j:Nat)(D:Dat):List Nat:=iS i++jS j D.ks D.kb D.ka
def Res(A:Ab)(i j:Nat)(D:Dat)(t:Nat)(ts:List Tr):Prop:=∃A' D',iX [.at 0,.at 4,.tup ts] A=.ok (.bl true) A'/\ml A A' (touched i j D)/\Pr A' i j D' (t+1)/\Kept A D D'
abbrev XG:List (Str×Str):=[("Known","known"),("NoPerson","no person"),("NotIn","not in"),("NotAsked","not asked"),("Barred","barred"),("NoRight","no right")]
section
variable {A' A2:Ab}{i j t:Nat}{D D':Dat}{x w:Str}{ts:List Tr}{X:Rz Tr}
theorem S9(h:(x,w)∈XG):(["Known","NoPerson","NoRoom","NotIn","NotAsked","Barred","NoRight","NoRow","NoHand","NoLine"]:List Str).contains x=true/\xV [.yM x]=.ok (.str w)/\d_ 5 [.str w,.str w]=.ok (.bl true):=by
 simp only[aV,cc,cf,Prod.mk.injEq]at h;rcases h with⟨rfl,rfl⟩|⟨rfl,rfl⟩|⟨rfl,rfl⟩|⟨rfl,rfl⟩|⟨rfl,rfl⟩|⟨rfl,rfl⟩<;>exact⟨by decide+kernel,rfl,rfl⟩
theorem Bd.more (b:Bd D t):Bd D (t+1):=by obtain⟨h1,h2,h3,h4,h5,h6,h7⟩:=b;exact⟨by omega,by omega,by omega,by omega,by omega,by omega,by omega⟩
theorem Pr.kp {S:List Nat}(P:Pr A i j D t)(e:ml A A' S)(q:∀k∈S,(k<i\/i+6<k)/\k∉jS j D.ks D.kb D.ka):Pr A' i j D (t+1):=
 ⟨aS.kp P.r e fun k hk=>(q k hk).1,bx.kp P.m e fun k hk h=>(q k h).2 hk,P.g,P.b.more,P.dj,P.hi⟩
theorem s_same(P:Pr A i j D t)(h:iX [.at 0,.at 4,.tup ts] A=.ok (.bl true) (A++[.Dg x])):Res A i j D t ts:=
 ⟨_,D,h,ml.push,P.kp (ml.push (S:=[])) fun _ h=>(nomatch h),fun _ h=>.inl h⟩
theorem XH:∀{cs:List (Bool×Str×Str)},(∀c∈cs,c.1=false)\/∃c∈cs,fW cs=.str c.2.2/\fX A X cs=.exc (.str c.2.1) A
 |[]=>.inl fun c h=>nomatch h
 |(true,x,w)::cs=>.inr ⟨_,bM ..,rfl,rfl⟩
 |(false,x,w)::cs=>by
  rcases XH (cs:=cs)with h|⟨c,h,h2⟩
  ·exact .inl fun c hc=>by
    rcases aV.mp hc with rfl|hc
    ·rfl
    ·exact h c hc
  ·exact .inr ⟨c,bF _ h,h2⟩
theorem XI:∀{cs:List (Bool×Str×Str)},(∀c∈cs,c.1=false)->fW cs=.bO
 |[],_=>rfl
 |(b,x,w)::cs,h=>by
  have:b=false:=h _ (bM ..);subst this;exact XI (cs:=cs) fun c hc=>h c (bF _ hc)
theorem AX(P:Pr A i j D t)(hr:eB [aw 5 A (.at 4),.tup ts]=.ok (fW cs))(hc:fT [.at 0,.tup ts] A=fX A X cs)(he:∀c∈cs,c.2∈XG)(dn:(∀c∈cs,c.1=false)->eB [aw 5 A (.at 4),.tup ts]=.ok .bO->Res A i j D t ts):Res A i j D t ts:=by
 rcases XH (A:=A) (X:=X) (cs:=cs)with h|⟨c,h,h1,h2⟩
 ·exact dn h (by rw[hr,XI h])
 ·obtain⟨e1,e2,e3⟩:=S9 (he c h);rw[h1]at hr;rw[h2]at hc;exact s_same P (Og hr (Of hc e1 e2) e3)
theorem Pr.aaS (P:Pr A i j D t)(kp:Kept A D D'):∀k∈jS j D'.ks D'.kb D'.ka,6<k/\(k<i\/i+6<k):=fun k hk=>by
 have l:=gR P.r.iv;have h6:=P.hi;have q:∀k,k∈[D'.ks,D'.kb,D'.ka]->6<k/\(k<i\/i+6<k):=fun k hk=>by
  rcases kp k hk with h|h
  ·exact P.dj k (bF _ (bF _ (bF _ h)))
  ·omega
 rcases aV.mp hk with rfl|hk
 ·exact P.dj _ (by simp)
 rcases aV.mp hk with rfl|hk
 ·exact P.dj _ (by simp)
 rcases aV.mp hk with rfl|hk
 ·exact P.dj _ (by simp)
 exact q k hk
theorem AY(P:Pr A i j D t)(hH:bR A aH a9)(hr:eB [aw 5 A (.at 4),.tup ts]=.ok .bO)(hd:mf [.at 4,.tup ts] A=.ok .bO A2)(t1:ml A A2 (jS j D.ks D.kb D.ka))
  (m2:bx A2 j D'.ks D'.kb D'.ka D'.rows D'.aq D'.stays D'.bN D'.asked D'.d D'.v D'.p) (kp:Kept A D D')
  (pr:bR A2 aH a9->RA A2 i D.rows D.aq D.ents (Ls D.d D.v D.p) D.bN D.inv->∃A3,fT [.at 0,.tup ts] A2=.ok .bO A3/\ml A2 A3 (iS i)/\RA A3 i D'.rows D'.aq D'.ents (Ls D'.d D'.v D'.p) D'.bN D'.inv)
  (g:Pq D') (b:Bd D' (t+1)):Res A i j D t ts:=by
 obtain⟨A3,q1,q2,q3⟩:=pr (bR.kp hH t1 fun k hk=>(P.dj k hk).1) (aS.kp P.r t1 fun k hk=>(P.dj k hk).2);have nk:=P.aaS kp;refine⟨A3,D',Oh hr hd (S6 q1),(t1.sub fun k hk=>cR.mpr (.inr hk)).trans (q2.sub fun k hk=>cR.mpr (.inl hk)),⟨q3,bx.kp m2 q2 fun k hk h=>?_,g,b,nk,P.hi⟩,kp⟩;have:=nk k hk;simp only[aV,cc,cf]at h;omega
end
section
variable {A1 A2:Ab}{i j t:Nat}{D D':Dat}{c9 c5 m6 val c6:Str}
theorem S_(hw:c6="arrange"\/c6="ask"\/c6="role"\/c6="out"\/c6="bar"\/c6="unbar")(m:fJ A aR c7)(hj:c7.lookup c5=some j)(q1:pv [.at j,.tup (.str c6:: .str aB:: .str c5::rows)] A=.ok .bO A1)(q2:me [.at j] A1=.ok .bO A2)
  (sl:An (.ok (.tup (.str c6:: .str aB:: .str c5::rows))) (.ok none) (M4 (.ok (.int 2)))=.ok (.tup [.str c6,.str aB])):mf [.at 4,.tup (.str c6:: .str aB:: .str c5::rows)] A=.ok .bO A2:=by
 show cj (iV.1 [.sh (.at 4),.sh (.tup (.str c6:: .str aB:: .str c5::rows)),.no,.no,.no] A)=_;unfold iV;have n1:(c6==Str.ofString "come")=false/\(c6==Str.ofString "found")=false/\(c6==Str.ofString "say")=false/\(c6==Str.ofString "enter")=false/\(c6==Str.ofString "leave")=false:=by rcases hw with rfl|rfl|rfl|rfl|rfl|rfl<;>decide+kernel
 simp only[ev,cB,gE,g0,LY,sl,Gp,gt2,n1,jv,m.S2,vx m.rs,dk,hj,cF,kh,bH,bI,q1,q2]
theorem Kept.refl:Kept A D D:=fun _ h=>.inl h
theorem vg{α:Type}{l:List α}{a:α}:(l++[a]).length=l.length+1:=by rw[dW];rfl
theorem zz{n:Int}:∀{stays:List jb},px (stays.map (iY aB n))=(px stays).filter fun z=>!(z==aB)
 |[]=>rfl
 |s::stays=>by
  obtain⟨a,b,c,e⟩:=s;have ih:=zz (n:=n) (stays:=stays);unfold px at ih⊢;rw[ba];cases e with
  |some m=>
   have:iY aB n (a,b,c,some m)=(a,b,c,some m):=by simp[iY]
   rw[this,jj (by simp),jj (by simp)];exact ih
  |none=>
   rw[kn (a:=(a,b,c,none)) (by rfl),ba];by_cases q:a=aB
   ·subst q;have:iY a n (a,b,c,none)=(a,b,c,some n):=by simp[iY]
    rw[this,jj (by simp),jj (by simp)];exact ih
   ·have:iY aB n (a,b,c,none)=(a,b,c,none):=by simp[iY,q]
    rw[this,kn (by rfl),ba,kn (by simpa using q),ih]
theorem yb:(jZ aq aB).map (·.1)=(aq.map (·.1)).filter fun z=>!(z==aB):=by
 unfold jZ;rw[nY];congr 1;refine rJ fun q _=>?_
 show decide (q.1≠aB)=!(q.1==aB);by_cases h:q.1=aB<;>simp[h]
end
theorem contains_filter{P:Str->Bool}:(aR.filter P).contains aB=(aR.contains aB&&P aB):=by
 rw[rO,dU,fm,bp,dU]
section
variable {i j t:Nat}{D:Dat}{c5:Str}
theorem Ol(P:Pr A i j D t)(hH:bR A aH a9)(hM:fJ A aR c7)(hi:a9.lookup c5=some i)(hj:c7.lookup c5=some j)(hp:∀z,(aH.lookup z).isSome=aR.contains z)(h6:aB∈six)(ht:t<=1000):Res A i j D t [.str "enter",.str aB,.str c5]:=by
 have tu:=P.g.fr.tu;have hs:=iq h6;have b1:=P.b.b1;have b2:=P.b.b2;have b3:=P.b.b3;have b4:=P.b.b4;have b5:=P.b.b5;have b6:=P.b.b6;have b7:=P.b.b7;have fl:du D.rows (dP .str D.aq) (dP .int D.ents) (dP .str (Ls D.d D.v D.p)) (nS D.bN) (nS D.inv):=m7 tu;have hr:=Gd (aB:=aB) (c6:="enter") hM P.m hj (.inr (.inl rfl));have hc:=fun{A:Ab} (hH:bR A aH a9) (r:RA A i D.rows D.aq D.ents (Ls D.d D.v D.p) D.bN D.inv)=>(Lo (aB:=aB) (c5:=c5) hH).trans (Li hH hs hi (by rw[r.call (m:="enter") rfl];rfl));simp only[hp]at hc;have s2:¬(Str.ofString "enter"=Str.ofString "found"):=by decide+kernel
 have vb:∀{b},D.bN.contains aB=b->dS (nS D.bN) (.inr aB)=if b then some (.bl true)else none:=fun e=>by rw[Es,e]
 refine AX (cs:=[(!aR.contains aB,"NoPerson","no person"),((D.aq.lookup aB).isSome,"Known","known"),(D.bN.contains aB,"Barred","barred"),(decide (D.d="asked")&&!D.asked.contains aB,"NotAsked","not asked")]) (X:=fT [.at 0,.tup [.str "enter",.str aB,.str c5]] A) P (hr.trans ?_) ?_ (by simp) fun all Sk=>?_
 ·simp only[s2,bJ,bT];cases aR.contains aB with
  |false=>rfl
  |true=>
   cases(D.aq.lookup aB).isSome with
   |true=>rfl
   |false=>
    cases D.bN.contains aB with
    |true=>rfl
    |false=>by_cases hd:D.d="asked"<;>cases D.asked.contains aB<;>simp[fW,hd]
 ·refine LX (fun q=>by rw[hc hH P.r,show aR.contains aB=false by simpa using q];rfl) fun q=>?_
  have hc:=hc hH P.r;rw[show aR.contains aB=true by simpa using q,au rfl]at hc;refine LX (fun q=>?_) fun q=>LX (fun q2=>?_) fun q2=>LX (fun q3=>?_) fun q3=>rfl
  ·obtain⟨r,hk⟩:=rb.mp q;rw[hc,Le P.r fl hs hk];rfl
  ·rw[hc,Lf (r:=.bl true) P.r fl hs (by simpa using q) (vb q2)];rfl
  ·rw[bp,nQ]at q3;rw[hc,Lg P.r fl hs (by simpa using q) (vb q2) (show some D.d=some _ by rw[dE q3.1]) (by rw[Es,P.g.ia,q3.2];rfl)];rfl
 have a1:aR.contains aB=true:=by simpa using all _ (bM ..)
 have hk:D.aq.lookup aB=none:=by simpa using all ((D.aq.lookup aB).isSome,"Known","known") (by simp)
 have a3:=all (D.bN.contains aB,"Barred","barred") (by simp);have a4:=all (decide (D.d="asked")&&!D.asked.contains aB,"NotAsked","not asked") (by simp);obtain⟨A1,XB,f1,q1,le1,x1,m1⟩:=Ll (aB:=aB) (c6:="enter") P.m tu (dN (by omega)) (dN (by omega)) (dN (by omega)) (cT (dN (by omega)));have Pt:=P.g.rk.enter (aB:=aB) (n:=D.rows.length+1) (r:="guest") hk P.g.lt hs (by decide+kernel);have hnm:(eQ D.aq aB "guest").map (·.1)=D.aq.map (·.1)++[aB]:=by rw[tW hk,jq];rfl
 have pl:=vD (l:=D.aq) (z:=aB) (a:=("guest":Str));have XJ:px (D.stays++[(aB,f1,(D.rows.length+1:Int),none)])=(eQ D.aq aB "guest").map (·.1):=by
  unfold px;rw[List.filter_append,jq,hnm,<-P.g.op];rfl
 obtain⟨A2,bW,ck,q2,o2,x2,m2⟩:=x9 m1 (l0 tu) Pt XJ (by rw[vg];exact dN (by omega)) (by rw[vg];exact cT (dN (by omega))) (dN (by omega));have ol:=o2.len;rw[vg]at ol;refine AY (D':=⟨bW,ck,eQ D.ents aB (D.rows.length+1),fun z=>if z=aB then D.rows.length+1 else D.ent z,D.stays++[(aB,f1,(D.rows.length+1:Int),none)],D.bN,D.inv.filter fun z=>!(z==aB),D.asked.filter fun z=>!(z==aB),D.d,D.v,D.p,D.ks,D.kb,XB⟩) P hH Sk (Lm hM hj q1 q2) ((ml.of x1 (by simp)).trans (ml.of x2 (by simp))) m2 (fun k hk=>?_) (fun XM r2=>?_) ⟨o2.ir (P.g.fr.add rfl (by show 3<=10;decide)),o2.EC Pt,XJ.trans o2.names.symm,ya o2 fun q hq=>?_,o2.ow,fun z=>?_,fun z hz=>?_,P.g.bs,fun z hz=>P.g.is z (fm.mp hz).1,P.g.nd.sublist List.filter_sublist⟩ ⟨by show bW.length<=_;omega,by show ck.length<=_;omega,?_,by show(D.stays++[_]).length<=_;rw[vg];omega,by show(D.asked.filter _).length<=_;have:=nJ (fun z=>!(z==aB)) D.asked;omega,by show D.bN.length<=_;omega,by show(D.inv.filter _).length<=_;have:=nJ (fun z=>!(z==aB)) D.inv;omega⟩
 ·simp only[aV,cc,cf]at hk⊢;omega
 ·obtain⟨A3,Pu,Lu,q3,o3,x3,r3⟩:=Ob (aB:=aB) (d:=D.d) r2 fl P.g.rk P.g.lt (dN (by omega)) (dN (by omega)) (dN (by omega)) hs hk (vb a3) rfl (by
   by_cases h9:D.d="asked"
   ·right;rw[Es,P.g.ia];rw[h9]at a4;rw[show D.asked.contains aB=true by simpa using a4];rfl
   ·exact .inl h9)
  obtain⟨rfl,rfl⟩:=o2.one o3;rw[NY]at r3;have hc:=hc XM r2;rw[a1,au rfl,q3]at hc;exact⟨A3,hc,ml.of x3 (by simp),r3⟩
 ·rw[tW hk]at hq;show(if q.1=aB then(D.rows.length+1:Int)else D.ent q.1)<((D.rows++[jG D.rows aB "enter" []]).length:Int)+1;rw[vg];rcases cR.mp hq with hq|hq
  ·rw[ay (lookup_none hk q hq)];have:=P.g.lt q hq;omega
  ·cases cE.mp hq;rw[au rfl];omega
 ·show(D.inv.filter fun z=>!(z==aB)).contains z=(D.asked.filter fun z=>!(z==aB)).contains z;rw[contains_filter,contains_filter,P.g.ia]
 ·have hz:z∈ck.map (·.1):=hz;rw[o2.names,hnm]at hz;rcases cR.mp hz with hz|hz
  ·exact P.g.ns z hz
  ·rw[cE.mp hz];exact h6
 ·show(eQ D.ents aB _).length<=_;have:=vD (l:=D.ents) (z:=aB) (a:=(D.rows.length+1:Int));omega
theorem Om(P:Pr A i j D t)(hH:bR A aH a9)(hM:fJ A aR c7)(hi:a9.lookup c5=some i)(hj:c7.lookup c5=some j)(hp:∀z,(aH.lookup z).isSome=aR.contains z)(h6:aB∈six)(ht:t<=1000):Res A i j D t [.str "leave",.str aB,.str c5]:=by
 have tu:=P.g.fr.tu;have hs:=iq h6;have b1:=P.b.b1;have b2:=P.b.b2;have b3:=P.b.b3;have b4:=P.b.b4;have b5:=P.b.b5;have b6:=P.b.b6;have b7:=P.b.b7;have fl:du D.rows (dP .str D.aq) (dP .int D.ents) (dP .str (Ls D.d D.v D.p)) (nS D.bN) (nS D.inv):=m7 tu;have hr:=Gd (aB:=aB) (c6:="leave") hM P.m hj (.inr (.inr rfl));have hc:=fun{A:Ab} (hH:bR A aH a9) (r:RA A i D.rows D.aq D.ents (Ls D.d D.v D.p) D.bN D.inv)=>(Lp (aB:=aB) (c5:=c5) hH).trans (Lj hH hs hi (by rw[r.call (m:="leave") rfl];rfl));simp only[hp]at hc;have s2:¬(Str.ofString "leave"=Str.ofString "found"):=by decide+kernel
 have s3:¬(Str.ofString "leave"=Str.ofString "enter"):=by decide+kernel
 refine AX (cs:=[(!aR.contains aB,"NoPerson","no person"),(!(D.aq.lookup aB).isSome,"NotIn","not in")]) (X:=fT [.at 0,.tup [.str "leave",.str aB,.str c5]] A) P (hr.trans ?_) ?_ (by simp) fun all Sk=>?_
 ·simp only[s2,s3,bJ];cases aR.contains aB<;>cases(D.aq.lookup aB).isSome<;>rfl
 ·refine LX (fun q=>by rw[hc hH P.r,show aR.contains aB=false by simpa using q];rfl) fun q=>LX (fun q2=>?_) fun q2=>rfl;rw[hc hH P.r,show aR.contains aB=true by simpa using q,au rfl,Lh P.r fl hs (by simpa using q2)];rfl
 have a1:aR.contains aB=true:=by simpa using all _ (bM ..)
 obtain⟨r,hk⟩:∃r,D.aq.lookup aB=some r:=rb.mp (by simpa using all (!(D.aq.lookup aB).isSome,"NotIn","not in") (by simp));have q0:=AW (aB:=aB) (ps:=[.str "leave"]) P.m tu (dN (by omega)) (by show 2+1<=ee;decide) rfl;have x0:=Ext.put (o:=.lst (D.rows++[jG D.rows aB "leave" []])) P.m.rw;have m0:=P.m.KQ x0;obtain⟨A1,XC,q1,le1,x1,m1⟩:=Oe (aB:=aB) (n:=D.rows.length+1) m0 (cT (dN (by omega))) hk;have Pt:=P.g.rk.leave (aB:=aB);have dl:=nJ (fun p:Str×Str=>decide (p.1≠aB)) D.aq;have XJ:px (D.stays.map (iY aB (D.rows.length+1)))=(jZ D.aq aB).map (·.1):=by rw[zz,P.g.op,yb]
 obtain⟨A2,bW,ck,q2,o2,x2,m2⟩:=x9 m1 (l0 tu) Pt XJ (by rw[vg];exact dN (by omega)) (by rw[aK];exact cT (dN (by omega))) (dN (by show(D.aq.filter _).length<_;omega));have le0:=x0.le;have ol:=o2.len;rw[vg]at ol;have ol3:ck.length=(D.aq.filter fun p=>decide (p.1≠aB)).length:=ol.2.2;refine AY (D':=⟨bW,ck,D.ents,D.ent,D.stays.map (iY aB (D.rows.length+1)),D.bN,D.inv,D.asked,D.d,D.v,D.p,XC,D.kb,D.ka⟩) P hH Sk (Ln hM hj q0 q1 q2) (((ml.of x0 (by simp)).trans (ml.of x1 (by simp))).trans (ml.of x2 (by simp))) m2 (fun k hk=>?_) (fun XM r2=>?_) ⟨o2.ir (P.g.fr.add rfl (by show 3<=10;decide)),o2.EC Pt,XJ.trans o2.names.symm,ya o2 fun q hq=>?_,o2.ow,P.g.ia,fun z hz=>?_,P.g.bs,P.g.is,P.g.nd⟩ ⟨by show bW.length<=_;omega,by show ck.length<=_;omega,by show D.ents.length<=_;omega,by show(D.stays.map _).length<=_;rw[aK];omega,by show D.asked.length<=_;omega,by show D.bN.length<=_;omega,by show D.inv.length<=_;omega⟩
 ·simp only[aV,cc,cf]at hk⊢;omega
 ·obtain⟨A3,Pu,Lu,q3,o3,x3,r3⟩:=Oc (aB:=aB) r2 fl P.g.rk (dN (by omega)) (dN (by omega)) hs hk;obtain⟨rfl,rfl⟩:=o2.one o3;have hc:=hc XM r2;rw[a1,au rfl,q3]at hc;exact⟨A3,hc,ml.of x3 (by simp),r3⟩
 ·have:=P.g.lt q (fm.mp hq).1;show D.ent q.1<((D.rows++[jG D.rows aB "leave" []]).length:Int)+1;rw[vg];omega
 ·have hz:z∈ck.map (·.1):=hz;rw[o2.names,yb]at hz;exact P.g.ns z (fm.mp hz).1
end
def Ta(a b c:Int):Bool:=decide (a<2)||((a==2)&&(decide (1<b)||decide (1<c)))
section
variable {A1:Ab}{i j t ks kb ka:Nat}{D:Dat}{qI:List (Str×Str)}{bn iv bN asked:List Str}{stays:List jb}{ent:Str->Int}{c9 c5 role d v p:Str}
theorem Lv(h:RA A i rows aq ents qI bn iv)(tu:jh rows)(k:cZ aq ents ent)(h4:role∈fO)(q:(aq.lookup aB).isNone=false)(q2:(aq.lookup c9).isNone=false):nu [aw 5 A (.at i),.str aB,.str c9,.str role]=.ok (.bl (!Ta (EE aq aB) (EE aq c9) (lvl role))):=by
 obtain⟨r,hr⟩:=zy q;obtain⟨s,hs⟩:=zy q2;show cX (gj.1 [.sh (aw 5 A (.at i)),.sh (.str aB),.sh (.str c9),.sh (.str role)])=_;unfold gj;have l1:AE [.str "speaker"]=.ok (.int 1):=tV (by decide+kernel);have e:=S7 (k.lk hr);simp only[ev,cB,h.sV (m7 tu),dk,hr,hs,cF,kh,e.1,e.2,tV (k.lk hr),tV (k.lk hs),tV h4,l1,evC];rw[x_ hr,x_ hs];have b:=Lq r;unfold Ta;by_cases c2:lvl r=2
 ·simp only[c2,decide_true,ev];congr 2;rw[rO];simp only[gF,nQ,Bool.or_eq_false_iff,Bool.and_eq_false_iff,vJ];constructor
  ·intro q;refine⟨by decide,.inr ?_⟩;split at q<;>omega
  ·intro q;have:¬(1<lvl s)/\¬(1<lvl role):=q.2.resolve_left (by simp);split<;>omega
 ·simp only[c2,decide_false,ev,cB,h.sV (m7 tu),dk,hr,cF,kh,e.1];congr 2;rw[rO];simp only[gF,nQ,Bool.or_eq_false_iff,Bool.and_eq_false_iff,vJ,iw];constructor
  ·intro q;exact⟨by omega,.inl c2⟩
  ·intro q;omega
abbrev csR(aq:List (Str×Str))(aB c9 role:Str):List (Bool×Str×Str):=[((aq.lookup aB).isNone,"NotIn","not in"),((aq.lookup c9).isNone,"NotIn","not in"),(Ta (EE aq aB) (EE aq c9) (lvl role),"NoRight","no right"),(aq.lookup c9==some role,"Known","known")]
theorem Oo(h:RA A i rows aq ents qI bn iv)(tu:jh rows)(k:cZ aq ents ent)(hw:aB.length<=1000)(hv:c9.length<=1000)(h4:role∈fO):fh [.at i,.str aB,.str c9,.str role] A=fX A (fh [.at i,.str aB,.str c9,.str role] A) (csR aq aB c9 role):=by
 have hr4:role.length<=1000:=(by decide+kernel:∀z∈fO,z.length<=1000) role h4;refine LX (fun q=>?_) fun q=>LX (fun q2=>?_) fun q2=>LX (fun q3=>?_) fun q3=>LX (fun q4=>?_) fun _=>rfl
 all_goals
  show cj (gB.1 [.sh (.at i),.sh (.str aB),.sh (.str c9),.sh (.str role)] A)=_;unfold gB;simp only[ev,cB,gE,g0,h.call (m:="need_in") rfl,zx h tu hw,q,bT,cA,bJ]
 ·simp only[ev,cB,gE,g0,h.call (m:="need_in") rfl,zx h tu hv,q2,bT]
 ·obtain⟨w,sy⟩:=jC (z:=aB) (acc:=Str.empty) (n:=0) (k:=fun acc=>nc (.ok (.str " may not make ")) (fun acc=>nc (.ok (.str c9)) (fun acc=>nc (.ok (.str " a ")) (fun acc=>nc (.ok (.str role)) (fun acc=>B9 acc) acc) acc) acc) acc) (aQ 0) hw (by decide) fun a ha=>jC ha (by decide+kernel) (by decide) fun a ha=>jC ha hv (by decide) fun a ha=>jC ha (by decide+kernel) (by decide) fun a ha=>jC ha hr4 (by decide) fun a ha=>jN (by omega);have tr:∀b,oH (.bl b)=.ok b:=fun _=>rfl;simp only[ev,cB,gE,g0,h.call (m:="need_in") rfl,zx h tu hv,q2,cA,bJ,h.cP (n:=4) (m:="may_give") rfl,Lv h tu k h4 q q2,q3,cS,dY,tr,sy]
 ·obtain⟨s,hs⟩:=zy q2;have es:s=role:=by rw[hs]at q4;simpa using q4
  subst es;obtain⟨w,sy⟩:=jC (z:=c9) (acc:=Str.empty) (n:=0) (k:=fun acc=>nc (.ok (.str " is a ")) (fun acc=>nc (.ok (.str s)) (fun acc=>B9 acc) acc) acc) (aQ 0) hv (by decide) fun a ha=>jC ha (by decide+kernel) (by decide) fun a ha=>jC ha hr4 (by decide) fun a ha=>jN (by omega);have tr:∀b,oH (.bl b)=.ok b:=fun _=>rfl;simp only[ev,cB,gE,g0,h.call (m:="need_in") rfl,zx h tu hv,q2,cA,bJ,h.cP (n:=4) (m:="may_give") rfl,Lv h tu k h4 q q2,q3,cS,dY,tr,h.sV (m7 tu),dk,hs,vR,cF,kh,bB,sy]
theorem Tb(h:RA A i rows aq ents qI bn iv)(tu:jh rows)(k:cZ aq ents ent)(hw:aB.length<=1000)(hv:c9.length<=1000)(h4:role∈fO)(hl:rows.length+1<ee)(hk:aq.length+1<ee)(all:∀c∈csR aq aB c9 role,c.1=false):
  ∃A' bW ck,fh [.at i,.str aB,.str c9,.str role] A=.ok .bO A'/\fU (rows++[jG rows aB "role" [.str c9,.str role]]) (eQ aq c9 role) bW ck/\ml A A' (iS i)/\RA A' i bW ck ents qI bn iv:=by
 have q:(aq.lookup aB).isNone=false:=all ((aq.lookup aB).isNone,"NotIn","not in") (by simp);have q2:(aq.lookup c9).isNone=false:=all ((aq.lookup c9).isNone,"NotIn","not in") (by simp);have q3:Ta (EE aq aB) (EE aq c9) (lvl role)=false:=all (Ta (EE aq aB) (EE aq c9) (lvl role),"NoRight","no right") (by simp);have q4:(aq.lookup c9==some role)=false:=all (aq.lookup c9==some role,"Known","known") (by simp);obtain⟨s,hs⟩:=zy q2;have es:(s==role)=false:=by rw[hs]at q4;simpa using q4
 obtain⟨A1,g1,g2,g3⟩:=Lc (aB:=aB) (c9:=c9) (role:=role) h (m7 tu) (by omega) (by rw[kZ];omega);rw[mQ]at g2 g3;have pl:=vD (l:=aq) (z:=c9) (a:=role);obtain⟨A2,bW,ck,s1,s2,s3,s4⟩:=Ld g3 (m7 (l0 tu)) (k.role (bS.mpr ⟨_,hZ hs,rfl⟩) h4) (by rw[vg];omega) (by omega);refine⟨A2,bW,ck,?_,s2,(ml.of g2 (by simp)).trans (ml.of s3 (by simp)),s4⟩;show cj (gB.1 [.sh (.at i),.sh (.str aB),.sh (.str c9),.sh (.str role)] A)=_;unfold gB;have tr:∀b,oH (.bl b)=.ok b:=fun _=>rfl;simp only[ev,cB,gE,g0,h.call (m:="need_in") rfl,zx h tu hw,zx h tu hv,q,q2,cA,bJ,h.cP (n:=4) (m:="may_give") rfl,Lv h tu k h4 q q2,q3,cS,dY,tr,h.sV (m7 tu),dk,hs,vR,cF,kh,es,h.call (m:="give_role") rfl,g1,g3.call (m:="see_to_owner") rfl,s1]
theorem bdY{ρ:Rz Tr}{Y:bf}:∀{cs:List (Bool×Str×Str)},cj (qe (fX A ρ cs) Y)=fX A (cj (qe ρ Y)) cs
 |[]=>rfl
 |(true,_,_)::cs=>rfl
 |(false,_,_)::cs=>bdY (cs:=cs)
theorem Td(hH:bR A aH a9)(hi:a9.lookup c5=some i)(h:RA A i rows aq ents qI bn iv)(hw:aB.length<=1000)(hv:c9.length<=1000)(hR:fh [.at i,.str aB,.str c9,.str role] A=fX A (fh [.at i,.str aB,.str c9,.str role] A) cs):
  fT [.at 0,.tup [.str "role",.str aB,.str c5,.str c9,.str role]] A=fX A (cj (qe (fh [.at i,.str aB,.str c9,.str role] A) [.sh (.at 0),.sh (.str aB),.sh (.str c5),.sh (.str c9),.sh (.str role)])) ((!((aH.lookup aB).isSome&&(aH.lookup c9).isSome),"NoPerson","no person")::cs):=by
 show cj (iW.1 [.sh (.at 0),.sh (.tup [.str "role",.str aB,.str c5,.str c9,.str role]),.no] A)=_;unfold iW;simp only[ev,cB,gE,g0,LY,bH,bI,sn,String.reduceBEq,bB,hH.call (m:="role") rfl,bsr];show cj (kH.1 [.sh (.at 0),.sh (.str aB),.sh (.str c5),.sh (.str c9),.sh (.str role)] A)=_;unfold kH;simp only[ev,cB,gE,g0,hH.call (m:="place_for") rfl,Gp,Dc hH hw hv hi];cases((aH.lookup aB).isSome&&(aH.lookup c9).isSome)with
 |false=>rfl
 |true=>
  simp only[bT,ev,cB,gE,g0,h.call (m:="role") rfl];exact(cq (fun σ=>cj (qe σ _)) hR).trans bdY
theorem Oq(h:bx A j ks kb ka rows aN stays bN asked d v p)(k:cZ aN ents ent)(h4:role∈fO):ip [aw 3 A (.at j),.tup [.str "role",.str aB,.str c5,.str c9,.str role]]=.ok (fW (csR aN aB c9 role).tail):=by
 show cX (fF.1 [.sh (aw 3 A (.at j)),.sh (.tup [.str "role",.str aB,.str c5,.str c9,.str role]),.no,.no,.no,.no])=_;unfold fF;have sl:An (.ok (.tup [.str "role",.str aB,.str c5,.str c9,.str role])) (.ok none) (M4 (.ok (.int 2)))=.ok (.tup [.str "role",.str aB]):=rfl;have gt:∀a b Y c e,Q1 (gT [2,3]) (.ok (.tup [a,b])) (c::e:: .no:: .no::Y)=.ok (.nx (c::e:: .sh a:: .sh b::Y)):=fun _ _ _ _ _=>rfl;have n1:GV (.str "role") (.tup [.str "role",.str "out"])=.ok (.bl true):=rfl;have n2:GV (.str role) (.tup [.str "keeper",.str "owner"])=.ok (.bl (decide (1<lvl role))):=by
  have:role="guest"\/role="speaker"\/role="keeper"\/role="owner":=by simpa using h4
  rcases this with rfl|rfl|rfl|rfl<;>rfl
 have ob:∀a b,Vf (.ok a) (.ok b)=.ok (a||b):=fun a b=>by cases a<;>rfl
 have ab:∀a b,GL (.ok a) (.ok b)=.ok (a&&b):=fun a b=>by cases a<;>rfl
 simp only[ev,cB,LY,evC,sl,gt,Oj (h.CC (n:=1)) k,n1,Lr,bH,bI];refine YR (fun q=>by simp only[q,ev]) fun q=>?_
 simp only[q,ev,cB,LY,evC,n2,ob,ab,bB];refine YR (fun q=>by simp only[Ta]at q;simp only[q,ev]) fun q3=>?_
 simp only[Ta]at q3;obtain⟨s,hs⟩:=zy q;simp only[q3,ev,cB,LY,h.CC (n:=1),dk,hs,cF,kh,fW];rw[show(some s==some role)=(s==role)from rfl];cases(s==role)<;>rfl
theorem Te(h:bx A j ks kb ka rows aN stays bN asked d v p)(f:jh rows)(hl:rows.length<ee)(ha:aN.length<ee):
  ∃A',pv [.at j,.tup [.str "role",.str aB,.str c5,.str c9,.str role]] A=.ok .bO A'/\ml A A' (jS j ks kb ka)/\bx A' j ks kb ka (rows++[jG rows aB "role" [.str c9,.str role]]) (eQ aN c9 role) stays bN asked d v p:=by
 have h0:=h.ext (Ext.push (o:=.bw Pp)) fun _ _=>rfl;have w:=AW (aB:=aB) (ps:=[.str "role",.str c9,.str role]) h0 f hl (by show 2+3<=ee;decide) rfl;have h1:=h0.KQ (Ext.put (o:=.lst (rows++[jG rows aB "role" [.str c9,.str role]])) h0.rw);have t1:=(ml.push (A:=A) (o:=.bw Pp) (S:=jS j ks kb ka)).trans (ml.put (o:=.lst (rows++[jG rows aB "role" [.str c9,.str role]])) h0.rw (by simp));refine⟨_,?_,t1.trans (ml.put (o:=.bw (dP .str (eQ aN c9 role))) h1.rl (by simp)),h1.NW (Ext.put h1.rl)⟩;show cj (kK.1 [.sh (.at j),.sh (.tup [.str "role",.str aB,.str c5,.str c9,.str role]),.no,.no,.no,.no] A)=_;unfold kK;have s1:An (.ok (.tup [.str "role",.str aB,.str c5,.str c9,.str role])) (.ok none) (M4 (.ok (.int 2)))=.ok (.tup [.str "role",.str aB]):=rfl;have s2:An (.ok (.tup [.str "role",.str aB,.str c5,.str c9,.str role])) (M4 (.ok (.int 3))) (.ok none)=.ok (.tup [.str c9,.str role]):=rfl;have s3:Jq (.ok (.bw Pp)) (.ok (.str "role")) (.ok (.str "role"))=.ok (.str "role"):=rfl;have s4:yp (.tup [.str "role"]) (.tup [.str c9,.str role])=.ok (.tup [.str "role",.str c9,.str role]):=rfl;have s5:∀A,q_ (.ok (.tup [.str "role",.str c9,.str role])) A=.ok (.tup [.str "role",.str c9,.str role]) A:=fun _=>rfl;have n2:GV (.str "role") (.tup [.str "out",.str "bar"])=.ok (.bl false):=rfl;have ep:=o8 (z:=c9) (t:=.str role) (Y:=[.sh (.at j),.sh (.tup [.str "role",.str aB,.str c5,.str c9,.str role]),.sh (.str "role"),.sh (.str aB),.sh (.at A.length),.sh (.int (rows.length+1))]) h1.rl (by rw[kZ];exact ha);rw[mQ]at ep;simp only[ev,cB,gE,g0,LY,s1,Gp,gt2,nm1,nm2,bH,bI,s2,s3,s4,s5,w,sn,String.reduceBEq,bB,qY,jv,h1.NV,ep,n2]
theorem Tf(P:Pr A i j D t)(hH:bR A aH a9)(hM:fJ A aR c7)(hi:a9.lookup c5=some i)(hj:c7.lookup c5=some j)(hp:∀z,(aH.lookup z).isSome=aR.contains z)(h6:aB∈six)(h7:c9∈six)(h4:role∈fO)(ht:t<=1000):Res A i j D t [.str "role",.str aB,.str c5,.str c9,.str role]:=by
 have tu:=P.g.fr.tu;have hs:=iq h6;have hv:=iq h7;have b1:=P.b.b1;have b2:=P.b.b2;have b3:=P.b.b3;have b4:=P.b.b4;have b5:=P.b.b5;have b6:=P.b.b6;have b7:=P.b.b7;have hr:=S8 (aB:=aB) (x3:=c9) (c8:=[.str role]) (wh:=true) hM P.m hj (.inr ⟨.inr (.inl rfl),rfl⟩) (Oq P.m P.g.rk h4);have hc:=fun{A:Ab} (hH:bR A aH a9) (r:RA A i D.rows D.aq D.ents (Ls D.d D.v D.p) D.bN D.inv)=>Td (c5:=c5) hH hi r hs hv (Oo r tu P.g.rk hs hv h4);simp only[hp]at hc;simp only[cS,jQ]at hr;refine AX P hr (hc hH P.r) (by simp) fun all Sk=>?_
 have XN:=fun c hc=>all c (bF _ hc);obtain⟨A1,q1,t1,m1⟩:=Te (aB:=aB) (c5:=c5) (c9:=c9) (role:=role) P.m tu (dN (by omega)) (dN (by omega));obtain⟨s,hsx⟩:=zy (XN ((D.aq.lookup c9).isNone,"NotIn","not in") (by simp));have kl:c9∈D.aq.map (·.1):=bS.mpr ⟨_,hZ hsx,rfl⟩;have Pt:=P.g.rk.role kl h4;have pk:=x6 (a:=role) kl;have pl:=vD (l:=D.aq) (z:=c9) (a:=role);have pl2:(eQ D.aq c9 role).length=D.aq.length:=by have:=cq List.length pk;simpa using this
 obtain⟨A2,bW,ck,q2,o2,x2,m2⟩:=x9 m1 (l0 tu) Pt (P.g.op.trans pk.symm) (by rw[vg];exact dN (by omega)) (cT (dN (by omega))) (dN (by omega));have ol:=o2.len;rw[vg]at ol;refine AY (D':={D with rows:=bW,aq:=ck}) P hH Sk (S_ (.inr (.inr (.inl rfl))) hM hj q1 q2 rfl) (t1.trans (ml.of x2 (by simp))) m2 Kept.refl (fun XM r2=>?_) ⟨o2.ir (P.g.fr.add rfl (by show 5<=10;decide)),o2.EC Pt,(P.g.op.trans pk.symm).trans o2.names.symm,ya o2 fun q hq=>?_,o2.ow,P.g.ia,fun z hz=>P.g.ns z (by have hz:z∈ck.map (·.1):=hz;rwa[o2.names,pk]at hz),P.g.bs,P.g.is,P.g.nd⟩ ⟨by show bW.length<=_;omega,by show ck.length<=_;omega,by show D.ents.length<=_;omega,by show D.stays.length<=_;omega,by show D.asked.length<=_;omega,by show D.bN.length<=_;omega,by show D.inv.length<=_;omega⟩
 ·obtain⟨A3,Pu,Lu,q3,o3,x3,r3⟩:=Tb (aB:=aB) (c9:=c9) (role:=role) r2 tu P.g.rk hs hv h4 (dN (by omega)) (dN (by omega)) XN;obtain⟨rfl,rfl⟩:=o2.one o3;have hc:=(hc XM r2).trans (XD all);rw[q3]at hc;exact⟨A3,hc,x3,r3⟩
 ·have Pc:q.1∈D.aq.map (·.1):=by rw[<-pk];exact fk hq
  obtain⟨q',UL,e⟩:=bS.mp Pc;have:=P.g.lt q' UL;show D.ent q.1<((D.rows++[jG D.rows aB "role" [.str c9,.str role]]).length:Int)+1;rw[vg,<-e];omega
end
section
theorem AZ{n:Nat}{t:Tr}(h:yg t=true):d_ (n+1) [t,t]=.ok (.bl true):=by
 cases t with
 |bO=>rfl
 |bl b=>cases b<;>rfl
 |int k=>show Rs.ok (Tr.bl (k==k))=_;rw[bB]
 |str z=>show Rs.ok (Tr.bl (z==z))=_;rw[bB]
 |_=>cases h
theorem Lw{F:bf->Rs Tr}:∀{ts:List Tr} {c d:Cell},(∀t∈ts,F [.sh t,.sh t]=.ok (.bl true))->DI (gT [0,1]) (fun _=>.ok true) F (ts.map fun t=>.tup [t,t]) [c,d]=.ok (ts.map fun _=>.bl true)
 |[],_,_,_=>rfl
 |t::ts,c,d,h=>by
  show(MK (F [.sh t,.sh t])).bind (fun y=>(DI (gT [0,1]) (fun _=>.ok true) F (ts.map fun t=>.tup [t,t]) [.sh t,.sh t]).bind fun ys=>Rs.ok (y::ys))=_;rw[h t (bM ..),Lw fun u hu=>h u (bF _ hu)]
  rfl
theorem ke{n:Nat}{ts:List Tr}(hl:ts.length<=ee)(h:∀t∈ts,d_ n [t,t]=.ok (.bl true)):d_ (n+1) [.tup ts,.tup ts]=.ok (.bl true):=by
 show cX ((tU (d_ n)).1 [.sh (.tup ts),.sh (.tup ts)])=_;unfold tU;have i1:Rc [.tup ts,.ty "tuple"]=.ok (.bl true):=rfl;have i2:oH (.bl true)=.ok true:=rfl;have i3:∀a b:Int,L8 (.int a) (.int b)=.ok (.bl (!(a==b))):=fun _ _=>rfl;have i4:zpW (.ok [.tup ts,.tup ts])=.ok (ts.map fun t=>.tup [t,t]):=by
  show(if ts.length<=ts.length then Rs.ok (Pd ts ts)else .bad)=_;rw[au (aQ _),CH]
 have i5:uF [none,none] (gT [0,1]) (fun _=>.ok true) (fun Y=>(cP (d_ n) (wO (wL Y 0) (wO (wL Y 1) (.ok []))))) (.ok (ts.map fun t=>.tup [t,t])) [.sh (.tup ts),.sh (.tup ts)]=.ok (.lst (ts.map fun _=>.bl true)):=by
  show(if(ts.map fun t=>Tr.tup [t,t]).length<=ee then _ else _)=_;rw[au (by rw[aK];exact hl)];show(DI (gT [0,1]) _ _ _ [.no,.no]).bind _=_;rw[Lw fun t ht=>h t ht]
  rfl
 have i6:M' [.lst (ts.map fun _=>.bl true)]=.ok (.bl true):=KY fun t ht=>by obtain⟨_,_,rfl⟩:=bS.mp ht;rfl
 simp only[ev,cB,i1,i2,i3,i4,bB,cS,i5,i6]
variable {i j t:Nat}{D:Dat}{name:Str}
theorem pz(h:bR A aH a9)(hi:a9.lookup name=some i):nv [aw 5 A (.at 0),.str name]=.ok (aw 3 A (.at i)):=by
 show cX (gm.1 [.sh (aw 5 A (.at 0)),.sh (.str name)])=_;unfold gm;simp only[ev,cB,h.SW,dC,hi,cF,mB,cS,dk,kh]
theorem Ot(h:bR A aH a9)(hi:a9.lookup name=some i)(P:Pr A i j D t):uW [aw 5 A (.at 0),.str name]=.ok (.tup D.rows):=by
 show cX (kJ.1 [.sh (aw 5 A (.at 0)),.sh (.str name)])=_;unfold kJ;have e:uV [aw 3 A (.at i)]=.ok (.tup D.rows):=by
  show cX (kI.1 [.sh (aw 3 A (.at i))])=_;unfold kI;simp only[ev,cB,P.r.aaN (n:=1) P.g.fr.tu,N1]
 simp only[ev,cB,h.cP (n:=4) (m:="place") rfl,pz h hi,P.r.cP (n:=2) (m:="rows") rfl,e]
theorem Lx(h:bR A aH a9)(hi:a9.lookup name=some i)(P:Pr A i j D t):tK [aw 5 A (.at 0),.str name]=.ok (.tup ((cx (D.aq.map (·.1))).map fun z=>.tup [.str z,.str ((D.aq.lookup z).getD "")])):=by
 show cX (jE.1 [.sh (aw 5 A (.at 0)),.sh (.str name)])=_;unfold jE;have e:tD [aw 3 A (.at i)]=.ok (.tup ((cx (D.aq.map (·.1))).map fun z=>.tup [.str z,.str ((D.aq.lookup z).getD "")])):=by
  show cX (jB.1 [.sh (aw 3 A (.at i))])=_;unfold jB;simp only[ev,cB,P.r.aaO (n:=1) Ua,Eu P.g.rk.nd P.g.ns (gZ P.g.rk.nd),N1]
 simp only[ev,cB,h.cP (n:=4) (m:="place") rfl,pz h hi,P.r.cP (n:=2) (m:="roles") rfl,e]
theorem Ly{l:List Str}:(l.map fun z=>(z,true)).map (·.1)=l:=by rw[bY];exact jT l
theorem HR(h:bR A aH a9)(hi:a9.lookup name=some i)(P:Pr A i j D t)(hb:D.bN.length<64)(hs:∀z∈D.bN,z.length<=1000):qH [aw 5 A (.at 0),.str name]=.ok (.tup ((cx D.bN).map .str)):=by
 show cX (iI.1 [.sh (aw 5 A (.at 0)),.sh (.str name)])=_;unfold iI;have e:qG [aw 3 A (.at i)]=.ok (.tup ((cx D.bN).map .str)):=by
  show cX (iH.1 [.sh (aw 3 A (.at i))])=_;unfold iH;have s:=pU (f:=Tr.bl) (l:=D.bN.map fun z=>(z,true)) (fun p hp=>by obtain⟨z,hz,rfl⟩:=bS.mp hp;exact hs z hz) (by rw[aK];exact hb);rw[Ly]at s;simp only[ev,cB,P.r.aaQ (n:=1) vy,show mK [.bw (nS D.bN)]=_ from s,N1]
 simp only[ev,cB,h.cP (n:=4) (m:="place") rfl,pz h hi,P.r.cP (n:=2) (m:="barred") rfl,e]
theorem Lz(h:bR A aH a9)(hi:a9.lookup name=some i)(P:Pr A i j D t)(hb:D.inv.length<64)(hs:∀z∈D.inv,z.length<=1000):tL [aw 5 A (.at 0),.str name]=.ok (.tup ((cx D.inv).map .str)):=by
 show cX (jF.1 [.sh (aw 5 A (.at 0)),.sh (.str name)])=_;unfold jF;have e:tH [aw 3 A (.at i)]=.ok (.tup ((cx D.inv).map .str)):=by
  show cX (jD.1 [.sh (aw 3 A (.at i))])=_;unfold jD;have s:=pU (f:=Tr.bl) (l:=D.inv.map fun z=>(z,true)) (fun p hp=>by obtain⟨z,hz,rfl⟩:=bS.mp hp;exact hs z hz) (by rw[aK];exact hb);rw[Ly]at s;simp only[ev,cB,P.r.aaR (n:=1) vy,show mK [.bw (nS D.inv)]=_ from s,N1]
 simp only[ev,cB,h.cP (n:=4) (m:="place") rfl,pz h hi,P.r.cP (n:=2) (m:="asked") rfl,e]
theorem EF{m6 w:Str}(h:bR A aH a9)(hi:a9.lookup name=some i)(P:Pr A i j D t)(hc:(Ls D.d D.v D.p).lookup m6=some w):pq [aw 5 A (.at 0),.str name,.str m6]=.ok (.str w):=by
 show cX (gY.1 [.sh (aw 5 A (.at 0)),.sh (.str name),.sh (.str m6)])=_;unfold gY;have e:pj [aw 3 A (.at i),.str m6]=.ok (.str w):=by
  show cX (gX.1 [.sh (aw 3 A (.at i)),.sh (.str m6)])=_;unfold gX;simp only[ev,cB,P.r.aaP (n:=1) Ua,dk,hc,cF,kh]
 simp only[ev,cB,h.cP (n:=4) (m:="place") rfl,pz h hi,P.r.cP (n:=2) (m:="setting") rfl,e]
end
section
variable {i j i' j' t:Nat}{D D' D1 D2:Dat}{ts:List Tr}{name:Str}
def qJ(D:Dat)(i j:Nat):Prop:=∀k∈[D.ks,D.kb,D.ka],(k<i\/i+6<k)/\k≠j/\k≠j+1/\k≠j+2
def Apart(D D':Dat):Prop:=∀k∈[D.ks,D.kb,D.ka],k∉[D'.ks,D'.kb,D'.ka]
theorem Apart.symm (h:Apart D D'):Apart D' D:=fun k hk q=>h k q hk
theorem far(zQ:(i=7/\j=16/\i'=27/\j'=36)\/(i=27/\j=36/\i'=7/\j'=16)){k:Nat}(hk:(i<=k/\k<=i+6)\/k=j\/k=j+1\/k=j+2):(k<i'\/i'+6<k)/\k≠j'/\k≠j'+1/\k≠j'+2:=by
 rcases zQ with⟨rfl,rfl,rfl,rfl⟩|⟨rfl,rfl,rfl,rfl⟩<;>refine⟨?_,?_,?_,?_⟩<;>omega
theorem qJ.ne (c:qJ D i j){k q:Nat}(hk:(i<=k/\k<=i+6)\/k=j\/k=j+1\/k=j+2)(hq:q∈[D.ks,D.kb,D.ka]):k≠q:=fun e=>by
 have:=c q hq;omega
theorem LA(zQ:(i=7/\j=16/\i'=27/\j'=36)\/(i=27/\j=36/\i'=7/\j'=16))(hH:bR A aH a9)(hM:fJ A aR c7)(R1:Pr A i j D t)(R2:Pr A i' j' D' t)(c1:qJ D i' j')(c2:qJ D' i j)(ap:Apart D D')(res:Res A i j D t ts):
  ∃A' D1,iX [.at 0,.at 4,.tup ts] A=.ok (.bl true) A'/\bR A' aH a9/\fJ A' aR c7/\Pr A' i j D1 (t+1)/\Pr A' i' j' D' (t+1)/\qJ D1 i' j'/\qJ D' i j/\Apart D1 D':=by
 obtain⟨A',D1,e,x,P1,kp⟩:=res;have hi:=R1.hi;have t6:∀k∈touched i j D,6<k:=fun k hk=>by
  rcases cR.mp hk with hk|hk
  ·simp only[aV,cc,cf]at hk;omega
  ·exact(R1.dj k hk).1
 have l1:=gR R2.m.st;have l2:=gR R2.m.br;have l3:=gR R2.m.as;have l4:=gR R2.m.rl;have l5:=gR R2.r.iv;refine⟨A',D1,e,bR.kp hH x t6,fJ.kp hM x t6,P1,R2.kp x fun k hk=>?_,fun k q=>?_,c2,fun k q=>?_⟩
 ·have go:∀k,((i<=k/\k<=i+6)\/k=j\/k=j+1\/k=j+2)->(k<i'\/i'+6<k)/\k∉jS j' D'.ks D'.kb D'.ka:=fun k hk=>by
   have f:=far zQ hk;have n:=fun q (hq:q∈[D'.ks,D'.kb,D'.ka])=>c2.ne hk hq;refine⟨f.1,fun m=>?_⟩;simp only[aV,cc,cf]at m n;rcases m with m|m|m|m
   ·exact f.2.1 m
   ·exact f.2.2.1 m
   ·exact f.2.2.2 m
   ·exact n k m rfl
  rcases cR.mp hk with hk|hk
  ·refine go k (.inl ?_)
   clear go zQ
   simp only[aV,cc,cf]at hk;rcases hk with rfl|hk<;>first|exact⟨aQ _,lD _ 6⟩|omega
  ·have:k=j\/k=j+1\/k=j+2\/k∈[D.ks,D.kb,D.ka]:=by simpa using hk
   rcases this with h|h|h|h
   ·exact go k (.inr (.inl h))
   ·exact go k (.inr (.inr (.inl h)))
   ·exact go k (.inr (.inr (.inr h)))
   ·have f:=c1 k h;refine⟨f.1,fun m=>?_⟩;have a:=ap k h;simp only[aV,cc,cf]at m a;rcases m with m|m|m|m
    ·exact f.2.1 m
    ·exact f.2.2.1 m
    ·exact f.2.2.2 m
    ·exact a m
 ·rcases kp k q with q|q
  ·exact c1 k q
  ·omega
 ·rcases kp k q with q|q
  ·exact ap k q
  ·simp only[aV,cc,cf,not_or];omega
structure Sta(A:Ab)(t:Nat)(aH:List (Str×Bool))(aR:List Str)(D1 D2:Dat):Prop where
 h:bR A aH [("hall",7),("yard",27)]
 m:fJ A aR [("hall",16),("yard",36)]
 pp:aH.map (·.1)=aR
 pl:aR.length<=5+t
 p6:∀z∈aR,z∈six
 r1:Pr A 7 16 D1 t
 r2:Pr A 27 36 D2 t
 c1:qJ D1 27 36
 c2:qJ D2 7 16
 ap:Apart D1 D2
def St(A:Ab)(t:Nat):Prop:=∃aH aR D1 D2,Sta A t aH aR D1 D2
theorem yc{α:Type}{z:Str}:∀{l:List (Str×α)},(l.lookup z).isSome=(l.map (·.1)).contains z
 |[]=>rfl
 |q::l=>by
  rw[bX,ba,List.contains_cons];cases e:(z==q.1)with
  |true=>rfl
  |false=>rw[jQ];exact yc
theorem St.go {f:Str->List Tr}(h:St A t)(S:∀{i j D aH a9 aR c7 c5},Pr A i j D t->bR A aH a9->fJ A aR c7->a9.lookup c5=some i->c7.lookup c5=some j->(∀z,(aH.lookup z).isSome=aR.contains z)->Res A i j D t (f c5)){c5:Str}(hr:c5="hall"\/c5="yard"):
  ∃A',iX [.at 0,.at 4,.tup (f c5)] A=.ok (.bl true) A'/\St A' (t+1):=by
 obtain⟨aH,aR,D1,D2,s⟩:=h;have hp:∀aB,(aH.lookup aB).isSome=aR.contains aB:=fun aB=>by rw[yc,s.pp]
 have hl:=s.pl;rcases hr with rfl|rfl
 ·obtain⟨A',D',e,a1,a2,a3,a4,a5,a6,a7⟩:=LA (.inl ⟨rfl,rfl,rfl,rfl⟩) s.h s.m s.r1 s.r2 s.c1 s.c2 s.ap (S (c5:="hall") s.r1 s.h s.m (by decide+kernel) (by decide+kernel) hp);exact⟨A',e,aH,aR,D',D2,a1,a2,s.pp,by omega,s.p6,a3,a4,a5,a6,a7⟩
 ·obtain⟨A',D',e,a1,a2,a3,a4,a5,a6,a7⟩:=LA (.inr ⟨rfl,rfl,rfl,rfl⟩) s.h s.m s.r2 s.r1 s.c2 s.c1 s.ap.symm (S (c5:="yard") s.r2 s.h s.m (by decide+kernel) (by decide+kernel) hp);exact⟨A',e,aH,aR,D1,D',a1,a2,s.pp,by omega,s.p6,a4,a3,a6,a5,a7.symm⟩
end
theorem zA:∀{xs ss:List Str} {z:Str},z∈dG ss xs↔z∈ss\/z∈xs
 |[],ss,z=>by simp[dG]
 |x::xs,ss,z=>by
  show z∈dG (fL ss x) xs↔_;rw[zA,aV];unfold fL;split
  ·rename_i h;exact⟨fun q=>q.elim .inl fun q=>.inr (.inr q),fun q=>q.elim .inl fun q=>q.elim (fun e=>.inl (e▸h)) .inr⟩
  ·rw[cR,cE,or_assoc]
theorem zB:∀{xs ss:List Str},ss.Nodup->(dG ss xs).Nodup
 |[],_,h=>h
 |x::xs,ss,h=>by
  show(dG (fL ss x) xs).Nodup;refine zB ?_
  unfold fL;split
  ·exact h
  ·rename_i q;refine vV.mpr ⟨h,List.pairwise_singleton _ _,fun a ha b hb e=>q ?_⟩;rw[cE.mp hb]at e;exact e▸ha
section
variable {t:Nat}{D1 D2:Dat}
theorem ne_str{a:Str}:L8 (.str a) (.str a)=.ok (.bl false):=by show Rs.ok (Tr.bl (!(a==a)))=_;rw[bB];rfl
theorem Tg(s:Sta A t aH aR D1 D2){G K:bf->Rs Out}
  (hG:∀{i j:Nat} {D:Dat} {name:Str} {c3 c4:Cell},([("hall",7),("yard",27)]:List (Str×Nat)).lookup name=some i->([("hall",16),("yard",36)]:List (Str×Nat)).lookup name=some j->Pr A i j D t->∃a b,G [.sh (aw 5 A (.at 0)),.sh (aw 5 A (.at 4)),.sh (.str name),c3,c4,.no]=.ok (.nx [.sh (aw 5 A (.at 0)),.sh (aw 5 A (.at 4)),.sh (.str name),a,b,.no]))
  (hK:∀a b,cX (K [.sh (aw 5 A (.at 0)),.sh (aw 5 A (.at 4)),.sh (.str "yard"),a,b,.no])=.ok (.bl true)):
  cX (BD (Fc (gN 2) G (JA (Je jf (wL [.sh (aw 5 A (.at 0)),.sh (aw 5 A (.at 4)),.no,.no,.no,.no] 1) (Rs.ok (.str "rooms")))) [.sh (aw 5 A (.at 0)),.sh (aw 5 A (.at 4)),.no,.no,.no,.no]) K)=.ok (.bl true):=by
 have hk:=vv (f:=fun j=>aw 3 A (.at j)) (l:=[("hall",16),("yard",36)]) (fun p hp=>(by decide+kernel:∀p∈([("hall",16),("yard",36)]:List (Str×Nat)),p.1.length<=1000) p hp);have Nj:JA (.ok (.bw (dP (fun j=>aw 3 A (.at j)) [("hall",16),("yard",36)])))=.ok [.str "hall",.str "yard"]:=hk;obtain⟨a1,b1,q1⟩:=hG (name:="hall") (c3:=.no) (c4:=.no) (by decide+kernel) (by decide+kernel) s.r1;obtain⟨a2,b2,q2⟩:=hG (name:="yard") (c3:=a1) (c4:=b1) (by decide+kernel) (by decide+kernel) s.r2;simp only[ev,cB,s.m.KW (n:=3),Nj,N1,F3,bH,bI,q1,q2,hK]
theorem pZ{l:List Str}{n:Nat}(hl:l.length<=1000):d_ (n+2) [.tup ((cx l).map .str),.tup ((cx l).map .str)]=.ok (.bl true):=ke (by rw[aK,(dB _).length_eq];exact cT (dN (by omega))) fun u hu=>by
 obtain⟨z,_,rfl⟩:=bS.mp hu;exact AZ rfl
theorem XO(s:Sta A t aH aR D1 D2)(ht:t<=50):zw [aw 5 A (.at 0),aw 5 A (.at 4)]=.ok (.bl true):=by
 show cX (ux.1 [.sh (aw 5 A (.at 0)),.sh (aw 5 A (.at 4)),.no,.no,.no,.no])=_;refine Tg s (fun{i j D name c3 c4} hi hj P=>?_) fun a b=>?_
 ·have b1:=P.b.b1;have b2:=P.b.b2;have b5:=P.b.b5;have b6:=P.b.b6;have b7:=P.b.b7;have hs:=pU (f:=Tr.str) (l:=D.aq) P.g.rk.sh (by omega);have tt:oH (.bl true)=.ok true:=rfl;simp only[ev,cB,s.m.KW (n:=3),dk,hj,cF,kh,bH,bI,P.m.CC (n:=1),hs,F3];rw[kF (Au:=[.sh (aw 3 A (.at j))]) (fun _=>true) Tr.str (fun z=>.tup [.str z,.str ((D.aq.lookup z).getD "")]) (by rfl) (by rw[(dB _).length_eq,aK];exact cT (dN (by omega))) rfl (fun _ _=>rfl) ?hF]
  case hF=>
   intro z hz _;obtain⟨q,hq,rfl⟩:=bS.mp ((dB _).mem_iff.mp hz);simp only[ev,cB,P.m.CC (n:=1),dk,gZ P.g.rk.nd q hq,cF,kh,nU]
  rw[show∀l:List Str,l.filter (fun _=>true)=l from fun l=>nM.mpr fun _ _=>rfl];have sr:d_ 5 [.tup [.tup D.rows,.tup ((cx (D.aq.map (·.1))).map fun z=>.tup [.str z,.str ((D.aq.lookup z).getD "")])],.tup [.tup D.rows,.tup ((cx (D.aq.map (·.1))).map fun z=>.tup [.str z,.str ((D.aq.lookup z).getD "")])]]=.ok (.bl true):=by
   refine ke (by show 2<=ee;decide) fun u hu=>?_
   simp only[aV,cc,cf]at hu;rcases hu with rfl|rfl
   ·refine ke (cT (dN (by omega))) fun u hu=>?_
    obtain⟨us,rfl,hf,h10⟩:=P.g.fr u hu;exact ke (cT (dN (by omega))) fun w hw=>AZ (cJ.mp hf w hw)
   ·refine ke (by rw[aK,(dB _).length_eq,aK];exact cT (dN (by omega))) fun u hu=>?_
    obtain⟨z,_,rfl⟩:=bS.mp hu;refine ke (by show 2<=ee;decide) fun w hw=>?_
    simp only[aV,cc,cf]at hw;rcases hw with rfl|rfl<;>exact AZ rfl
  have hbr:=HR s.h hi P (by omega) fun z hz=>iq (P.g.bs z hz);have has:=Lz s.h hi P (by omega) fun z hz=>iq (P.g.is z hz);have so:=zr (ss:=D.bN) (by omega);have ss:oV (.lst (D.asked.map .str))=.ok (.lst ((cx D.inv).map .str)):=by
   show(match ng (D.asked.map .str)with|some ss=>if ss.length<64 then Rs.ok (Tr.lst ((cx (dG [] ss)).map .str))else .bad|none=>.bad)=_;rw[uq];show(if D.asked.length<64 then Rs.ok (Tr.lst ((cx (dG [] D.asked)).map .str))else .bad)=_;rw[au (by omega),B8 ((List.perm_ext_iff_of_nodup (zB List.nodup_nil) P.g.nd).mpr fun z=>?_)];rw[zA,<-dU (as:=D.inv),P.g.ia,dU];simp
  simp only[ev,cB,N1,bH,bI,s.h.cP (n:=4) (m:="rows") rfl,s.h.cP (n:=4) (m:="roles") rfl,s.h.cP (n:=4) (m:="barred") rfl,s.h.cP (n:=4) (m:="asked") rfl,Ot s.h hi P,Lx s.h hi P,P.m.SX (n:=1) P.g.fr.tu,sr,tt,cS,hbr,P.m.Xx (n:=1),so,pZ (l:=D.bN) (n:=3) (by omega),has,P.m.SY (n:=1),ss,pZ (l:=D.inv) (n:=3) (by omega)];rw[kF (Au:=[.sh (.str name),.sh (aw 3 A (.at j)),.sh (aw 5 A (.at 0))]) (fun _=>false) Tr.str (fun _=>.bO) (xs:=["door","voice","past"]) (by rfl) (by show 3<=ee;decide) rfl ?hC (fun _ _ e=>by cases e)]
  case hC=>
   intro z hz;have:z="door"\/z="voice"\/z="past":=by simpa using hz
   rcases this with rfl|rfl|rfl
   ·simp only[ev,cB,s.h.cP (n:=4) (m:="setting") rfl,EF (m6:="door") (w:=D.d) s.h hi P rfl,P.m.a_d (n:=2),ne_str]
   ·simp only[ev,cB,s.h.cP (n:=4) (m:="setting") rfl,EF (m6:="voice") (w:=D.v) s.h hi P rfl,P.m.a_v (n:=2),ne_str]
   ·simp only[ev,cB,s.h.cP (n:=4) (m:="setting") rfl,EF (m6:="past") (w:=D.p) s.h hi P rfl,P.m.a_p (n:=2),ne_str]
  exact⟨_,_,rfl⟩
 ·have hp:aH.length<64:=by have:=s.pl;have h2:=cq List.length s.pp;rw[aK]at h2;omega
  have sh:∀p∈aH,p.1.length<=1000:=fun p hp=>iq (s.p6 p.1 (by rw[<-s.pp];exact fk hp));have s1:=pU (f:=Tr.bl) sh hp;have s2:=zr (ss:=aR) (by have:=s.pl;omega);rw[s.pp]at s1;have s3:=pU (f:=fun j=>aw 3 A (.at j)) (l:=[("hall",7),("yard",27)]) (fun p hp=>(by decide+kernel:∀p∈([("hall",7),("yard",27)]:List (Str×Nat)),p.1.length<=1000) p hp) (by decide);have s4:mK [.bw (dP (fun j=>aw 3 A (.at j)) [("hall",16),("yard",36)])]=.ok (.lst ((cx ["hall","yard"]).map .str)):=pU (f:=fun j=>aw 3 A (.at j)) (l:=[("hall",16),("yard",36)]) (fun p hp=>(by decide+kernel:∀p∈([("hall",16),("yard",36)]:List (Str×Nat)),p.1.length<=1000) p hp) (by decide);have e1:qF [aw 5 A (.at 0)]=.ok (.tup ((cx aR).map .str)):=by
   show cX (iG.1 [.sh (aw 5 A (.at 0))])=_;unfold iG;simp only[ev,cB,s.h.NU,s1,N1]
  have e2:tB [aw 5 A (.at 0)]=.ok (.tup ((cx ["hall","yard"]).map .str)):=by
   show cX (jA.1 [.sh (aw 5 A (.at 0))])=_;unfold jA;simp only[ev,cB,s.h.SW,s3,N1]
   rfl
  have sr:d_ 5 [.tup [.tup ((cx ["hall","yard"]).map .str),.tup ((cx aR).map .str)],.tup [.tup ((cx ["hall","yard"]).map .str),.tup ((cx aR).map .str)]]=.ok (.bl true):=by
   refine ke (by show 2<=ee;decide) fun u hu=>?_
   simp only[aV,cc,cf]at hu;rcases hu with rfl|rfl
   ·exact pZ (n:=2) (by decide)
   ·exact pZ (n:=2) (by have:=s.pl;omega)
  simp only[ev,cB,N1,F3,bH,bI,s.m.KW (n:=3),s.m.S1 (n:=3),s4,s2,s.h.cP (n:=4) (m:="rooms") rfl,s.h.cP (n:=4) (m:="people") rfl,e1,e2,sr]
end
def mix(c p m:Int):Int:=(c*48271 % p)*(c*48271 % p+7) % p % m
theorem A5{c p m:Int}(hm:0<m):0<=mix c p m/\mix c p m<m:=⟨v9 _ (by omega),Int.emod_lt_of_pos _ hm⟩
theorem Th{i j:Int}(h:wQ i j):GR (.int i) (.int j)=.ok (.int (i*j)):=au h
theorem Ti{i j:Int}(h:0<j):GQ (.int i) (.int j)=.ok (.int (i % j)):=au h
theorem XQ(c p m:Int)(hp:0<p)(Mt:p<=1048576)(hm:0<m):F9 [.int c,.int p,.int m]=.ok (.int (mix c p m)):=by
 have b0:0<=c*48271 % p:=v9 _ (by omega);have b1:c*48271 % p<p:=Int.emod_lt_of_pos _ hp;show cX (vC.1 [.sh (.int c),.sh (.int p),.sh (.int m),.no])=_;unfold vC;have q1:GR (.int c) (.int 48271)=.ok (.int (c*48271)):=au (.inr ⟨by decide,by decide⟩);have q2:∀a,GQ (.int a) (.int p)=.ok (.int (a % p)):=fun a=>au hp;have q3:GR (.int (c*48271 % p)) (.int (c*48271 % p+7))=.ok (.int ((c*48271 % p)*(c*48271 % p+7))):=au (.inl ⟨by omega,by omega⟩);have q4:∀a,GQ (.int a) (.int m)=.ok (.int (a % m)):=fun a=>au hm;simp only[ev,cB,q1,q2,q3,q4,bH,bI,mix]
theorem Tj(ns:List Int)(k:Int)(h:0<=k):∃c,C0 [.uC ns,.int k]=.ok (.int c):=by
 show∃c,cX (BD (TR (.ok (decide (k<(ns.length:Int)))) (Ji ((kh (L2.ua ns k)).bind fun n=>.ok (.int n))) (.ok (.nx [.sh (.uC ns),.sh (.int k)]))) fun Y=>Ji (Rs.ok (.int 0)))=_;by_cases hk:k<(ns.length:Int)
 ·have hl:k.toNat<ns.length:=by omega
  have e:L2.ua ns k=some (ns[k.toNat]):=by
   have q:=zM (xs:=ns) (j:=k.toNat) (bq hl);rw[Int.toNat_of_nonneg h]at q;exact q
  rw[iz hk,e];exact⟨_,rfl⟩
 ·rw[eC hk];exact⟨0,rfl⟩
theorem LB{l:List Tr}{k:Int}(h0:0<=k)(h1:k<l.length):∃t∈l,jf (.tup l) (.int k)=.ok t/\jf (.lst l) (.int k)=.ok t:=by
 have hl:k.toNat<l.length:=by omega
 have q:=zM (xs:=l) (j:=k.toNat) (bq hl);rw[Int.toNat_of_nonneg h0]at q;exact⟨l[k.toNat],jO _,by show kh (L2.ua l k)=_;rw[q];rfl,by show kh (L2.ua l k)=_;rw[q];rfl⟩
theorem XR{l:List Str}{k:Int}(h0:0<=k)(h1:k<l.length):∃z∈l,jf (.tup (l.map .str)) (.int k)=.ok (.str z):=by
 obtain⟨t,ht,e,_⟩:=LB (l:=l.map .str) h0 (by rw[aK];exact h1);obtain⟨z,hz,rfl⟩:=bS.mp ht;exact⟨z,hz,e⟩
abbrev Ou:List Str:=["ann","bo","cy","dee","ed"]
abbrev three:List Str:=["ann","bo","zed"]
abbrev rms:List Str:=["hall","hall","hall","yard"]
abbrev sets:List Tr:=[.tup [.str "door",.str "open"],.tup [.str "door",.str "asked"],.tup [.str "voice",.str "all"],.tup [.str "voice",.str "some"],.tup [.str "past",.str "shown"],.tup [.str "past",.str "hidden"]]
inductive m8(ws:List Str):List Tr->Prop
 |XT {aB:Str}:("come":Str)∈ws->aB∈six->m8 ws [.str "come",.str aB]
 |one {c6 aB c5:Str}:(c6="found"\/c6="enter"\/c6="leave")->c6∈ws->aB∈six->(c5="hall"\/c5="yard")->m8 ws [.str c6,.str aB,.str c5]
 |arr {aB c5 m6 val:Str}:("arrange":Str)∈ws->aB∈six->(c5="hall"\/c5="yard")->(m6="door"\/m6="voice"\/m6="past")->m8 ws [.str "arrange",.str aB,.str c5,.str m6,.str val]
 |role {aB c5 c9 r:Str}:("role":Str)∈ws->aB∈six->(c5="hall"\/c5="yard")->c9∈six->r∈fO->m8 ws [.str "role",.str aB,.str c5,.str c9,.str r]
 |two {c6 aB c5 c9:Str}:(c6="ask"\/c6="out"\/c6="bar"\/c6="unbar")->c6∈ws->aB∈six->(c5="hall"\/c5="yard")->c9∈six->m8 ws [.str c6,.str aB,.str c5,.str c9]
abbrev ten:List Str:=["come","found","enter","leave","arrange","role","ask","out","bar","unbar"]
theorem Tn{b:Bool}{x y:Rs Out}{K:bf->Rs Out}{P:Rs Tr->Prop}(h:∀r,r=x\/r=y->P (cX (BD r K))):P (cX (BD (TR (.ok b) x y) K)):=by
 cases b
 ·exact h y (.inr rfl)
 ·exact h x (.inl rfl)
theorem To{ws:List Str}(hws:∀w∈ws,w∈ten)(hl:0<ws.length)(c:Int)(T:Tr):∃ts,C7 [.int c,T,.tup (ws.map .str)]=.ok (.tup ts)/\m8 ws ts:=by
 show∃ts,cX (tT.1 [.sh (.int c),.sh T,.sh (.tup (ws.map .str)),.no,.no,.no,.no,.no,.no,.no,.no,.no])=.ok (.tup ts)/\_;unfold tT;have mx:=fun p m (hp:0<p) (Mt:p<=1048576) (hm:0<m)=>XQ c p m hp Mt hm;simp only[ev,cB,mx 9931 20 (by decide) (by decide) (by decide),bH,bI];refine Tn (P:=fun r=>∃ts,r=.ok (.tup ts)/\m8 ws ts) fun r h=>?_
 obtain⟨l,h0,h6,rfl⟩:∃l:List Str,(0:Int)<l.length/\(∀z∈l,z∈six)/\r=.ok (.nx [.sh (.int c),.sh T,.sh (.tup (ws.map .str)),.sh (.tup (l.map .str)),.no,.no,.no,.no,.no,.no,.no,.no]):=by
  rcases h with rfl|rfl
  ·exact⟨three,by decide,by decide+kernel,rfl⟩
  ·exact⟨Ou,by decide,by decide+kernel,rfl⟩
 have hm:(0:Int)<ws.length:=by omega
 have k4:∀l:List Str,((l.map Tr.str).length:Int)=l.length:=fun l=>by rw[aK]
 have pk:=fun{l:List Str} {p m:Int} (hm:0<m) (hl:m=l.length)=>XR (l:=l) (A5 (c:=c) (p:=p) hm).1 (hl▸(A5 hm).2);obtain⟨c5,hr,er⟩:=pk (l:=rms) (p:=9907) (m:=4) (by decide) rfl;obtain⟨c6,hw,ew⟩:=pk (l:=ws) (p:=9901) (m:=ws.length) hm rfl;obtain⟨aB,g3,e3⟩:=pk (l:=l) (p:=9929) (m:=l.length) h0 rfl;obtain⟨c9,g4,e4⟩:=pk (l:=l) (p:=9923) (m:=l.length) h0 rfl;obtain⟨rl,hrl,e7⟩:=pk (l:=fO) (p:=9883) (m:=4) (by decide) rfl;obtain⟨st,bQ,_,e8⟩:=LB (l:=sets) (A5 (c:=c) (p:=9887) (m:=6) (by decide)).1 (by exact(A5 (by decide)).2);have BW:c5="hall"\/c5="yard":=by simpa using hr
 have h3:=h6 aB g3;have h4:=h6 c9 g4;have Pw:=hws c6 hw;simp only[aV,cc,cf]at Pw bQ;simp only[ba,lG]at er e7;have ni:GV (.str "arrange") (.tup [.str "come",.str "found",.str "enter",.str "leave"])=.ok (.bl false)/\GV (.str "role") (.tup [.str "come",.str "found",.str "enter",.str "leave"])=.ok (.bl false):=⟨rfl,rfl⟩;have l3:∀a b c,BC (.ok [a,b,c])=.ok (.lst [a,b,c]):=fun _ _ _=>rfl;have a3:yp (.lst [.tup [.str "door",.str "open"],.tup [.str "door",.str "asked"],.tup [.str "voice",.str "all"]]) (.lst [.tup [.str "voice",.str "some"],.tup [.str "past",.str "shown"],.tup [.str "past",.str "hidden"]])=.ok (.lst sets):=rfl;simp only[ev,cB,k4,mx 9929 l.length (by decide) (by decide) h0,mx 9923 l.length (by decide) (by decide) h0,mx 9907 4 (by decide) (by decide) (by decide),mx 9901 ws.length (by decide) (by decide) hm,e3,e4,er,ew,bH,bI];rcases Pw with rfl|rfl|rfl|rfl|rfl|rfl|rfl|rfl|rfl|rfl
 all_goals first
  |exact⟨_,rfl,.XT hw h3⟩
  |exact⟨_,rfl,.one (by simp) hw h3 BW⟩
  |exact⟨_,rfl,.two (by simp) hw h3 BW h4⟩
  |skip
 all_goals simp only[ev,cB,sn,String.reduceBEq,bB,ni,mx 9887 6 (by decide) (by decide) (by decide),mx 9883 4 (by decide) (by decide) (by decide),e7,l3,a3,e8,bH,bI]
 all_goals first
  |exact⟨_,rfl,.role hw h3 BW h4 hrl⟩
  |(rcases bQ with rfl|rfl|rfl|rfl|rfl|rfl<;>exact⟨_,rfl,.arr hw h3 BW (by simp)⟩)
abbrev EG:List (Str×Str):=[("ann","owner"),("bo","guest"),("cy","guest")]
abbrev LC:List (Str×Int):=[("ann",1),("bo",2),("cy",3)]
abbrev LD:List jb:=[("ann",1,1,none),("bo",1,2,none),("cy",1,3,none)]
abbrev LF:List Tr:=[.tup [.int 1,.str "ann",.str "found"],.tup [.int 2,.str "bo",.str "enter"],.tup [.int 3,.str "cy",.str "enter"]]
abbrev EH:List (Str×Str):=[("dee","owner")]
abbrev LG:List (Str×Int):=[("dee",1)]
abbrev LH:List jb:=[("dee",1,1,none)]
abbrev LJ:List Tr:=[.tup [.int 1,.str "dee",.str "found"]]
abbrev De:List (Str×Bool):=[("ann",true),("bo",true),("cy",true),("dee",true),("ed",true)]
def D10:Dat:=⟨LF,EG,LC,fun z=>(LC.lookup z).getD 0,LD,[],[],[],"open","all","shown",19,20,26⟩
def D20:Dat:=⟨LJ,EH,LG,fun z=>(LG.lookup z).getD 0,LH,[],[],[],"open","all","shown",39,40,42⟩
def B0:Ab:=[.ins "Hall" [("persons",.at 1),("places",.at 2),("hands",.at 3)],.bw [],.bw [],.lst []]
def B1:Ab:=B0++[.bw (dP id [("people",.at 5),("rooms",.at 6)]),.lst (Ou.map .str),.bw []]
def A0:Ab:=[.ins "Hall" [("persons",.at 1),("places",.at 2),("hands",.at 3)],.bw (dP .bl De),.bw (dP .at [("hall",7),("yard",27)]),.lst [],.bw (dP id [("people",.at 5),("rooms",.at 6)]),.lst (Ou.map .str),.bw (dP .at [("hall",16),("yard",36)]),
 .ins "Room" (roomF 7),.lst LF,.bw (dP .str EG),.bw (dP .int LC),.bw (dP .str (Ls "open" "all" "shown")),.bw [],.bw [],.bw [],.bw [],
 .bw (dP id (CB 16 19 20 26 "open" "all" "shown")),.lst LF,.bw (dP .str EG),.lst (LD.map u_),.lst [],.lst [],.lst [],.lst [.str "ann"],.lst [],.lst [.str "ann"],.lst [],
 .ins "Room" (roomF 27),.lst LJ,.bw (dP .str EH),.bw (dP .int LG),.bw (dP .str (Ls "open" "all" "shown")),.bw [],.bw [],.bw [],.bw [],
 .bw (dP id (CB 36 39 40 42 "open" "all" "shown")),.lst LJ,.bw (dP .str EH),.lst (LH.map u_),.lst [],.lst [],.lst []]
theorem Tp:xn "Hall" nr (.ok [] [])=.ok (.at 0) B0:=by kernel_rfl
theorem Ov:zu [.tup [.str "ann",.str "bo",.str "cy",.str "dee",.str "ed"]] B0=.ok (.at 4) B1:=by kernel_rfl
theorem Tq:C' [.at 0,.at 4] B1=.ok .bO A0:=by kernel_rfl
theorem rk0(h:(aq.all fun p=>fO.contains p.2&&(decide (p.1.length<=1000)&&(ents.lookup p.1==some ((ents.lookup p.1).getD 0))))=true)(n:(aq.map (·.1)).Nodup)(u:(aq.map fun p=>(ents.lookup p.1).getD 0).Pairwise (· <·)):cZ aq ents fun z=>(ents.lookup z).getD 0:=by
 have q:=fun p hp=>cJ.mp h p hp;simp only[bp,gF,dZ]at q;exact⟨fun p hp=>dU.mp (q p hp).1,n,fun p hp=>(q p hp).2.1,fun p hp=>(q p hp).2.2,u⟩
theorem rows0(h:(rows.all fun t=>match t with|.tup us=>us.all yg&&decide (us.length<=10)|_=>false)=true):ir rows:=fun t ht=>by
 have q:=cJ.mp h t ht;cases t with
 |tup us=>
  have q:(us.all yg&&decide (us.length<=10))=true:=q;rw[bp,gF]at q;exact⟨us,rfl,q⟩
 |_=>cases q
theorem st0:St A0 0:=⟨De,Ou,D10,D20,⟨rfl,rfl,rfl⟩,⟨rfl,rfl,rfl⟩,rfl,by decide,by decide+kernel,
 ⟨⟨rfl,rfl,rfl,rfl,rfl,rfl,rfl⟩,⟨rfl,rfl,rfl,rfl,rfl,rfl,by decide⟩,⟨rows0 rfl,rk0 (by decide+kernel) (by decide+kernel) (by decide+kernel),rfl,by decide+kernel,.inr (by decide+kernel),fun _=>rfl,by decide+kernel,by decide+kernel,by decide+kernel,by decide+kernel⟩,⟨by decide,by decide,by decide,by decide,by decide,by decide,by decide⟩,by decide,by decide⟩,
 ⟨⟨rfl,rfl,rfl,rfl,rfl,rfl,rfl⟩,⟨rfl,rfl,rfl,rfl,rfl,rfl,by decide⟩,⟨rows0 rfl,rk0 (by decide+kernel) (by decide+kernel) (by decide+kernel),rfl,by decide+kernel,.inr (by decide+kernel),fun _=>rfl,by decide+kernel,by decide+kernel,by decide+kernel,by decide+kernel⟩,⟨by decide,by decide,by decide,by decide,by decide,by decide,by decide⟩,by decide,by decide⟩,by unfold qJ;decide,by unfold qJ;decide,by unfold Apart;decide⟩
theorem HS(h:m8 aR rows):mJ rows=true:=by cases h<;>rfl
theorem Ge{T:nD}{G:bf->Ab->Rz Out}{n:Nat}(I:Nat->bf->Ab->Prop)(h:∀k Y A,k<n->I k Y A->∃qZ,T (.int (0+(k:Nat))) Y=.ok qZ/\∃iZ A2,G qZ A=.ok (.nx iZ) A2/\I (k+1) iZ A2):∀(m k:Nat) (Y:bf) (A:Ab),k+m=n->I k Y A->∃g6 A',ue T G ((List.range' k m).map fun k=>Tr.int (0+(k:Nat))) Y A=.ok (.nx g6) A'/\I n g6 A'
 |0,k,Y,A,e,hi=>⟨Y,A,rfl,by rw[<-e];exact hi⟩
 |m+1,k,Y,A,e,hi=>by
  obtain⟨qZ,e1,iZ,A2,e2,h2⟩:=h k Y A (by omega) hi;obtain⟨g6,A',e3,h3⟩:=Ge I h m (k+1) iZ A2 (by omega) h2;refine⟨g6,A',?_,h3⟩;rw[List.range'_succ,ba];simp only[F3,e1,gE,cB,e2];exact e3
theorem LK{n:Nat}{T:nD}{G K:bf->Ab->Rz Out}{ML:bf}{A0:Ab}(I:Nat->bf->Ab->Prop)(h0:I 0 ML A0)(h:∀k Y A,k<n->I k Y A->∃qZ,T (.int (0+(k:Nat))) Y=.ok qZ/\∃iZ A2,G qZ A=.ok (.nx iZ) A2/\I (k+1) iZ A2)(hK:∀Y A,I n Y A->wZ (K Y A)=.ok (.bl true)):
  wZ (DT (ue T G ((List.range' 0 n).map fun k=>Tr.int (0+(k:Nat))) ML A0) K)=.ok (.bl true):=by
 obtain⟨g6,A',e,q⟩:=Ge I h n 0 ML A0 (by omega) h0;rw[show ue T G ((List.range' 0 n).map fun k=>Tr.int (0+(k:Nat))) ML A0=_ from e];exact hK g6 A' q
theorem Ow(j:Int):Fd (.ok [.int j])=if-4611686018427387904<=j/\j<4611686018427387904 then .ok (BE 0 j.toNat)else .bad:=rfl
theorem XU:Fd (.ok [.int 24])=.ok ((List.range' 0 24).map fun k=>Tr.int (0+(k:Nat))):=by rw[Ow,au (by decide)];show Rs.ok (BE 0 24)=_;unfold BE;rw[List.range_eq_range']
abbrev ws:List Str:=["enter","enter","leave","leave","role"]
theorem step{t:Nat}{ts:List Tr}(h:St A t)(hd:m8 ws ts)(ht:t<=1000):∃A',iX [.at 0,.at 4,.tup ts] A=.ok (.bl true) A'/\St A' (t+1):=by
 cases hd with
 |XT q _=>exact absurd q (by decide+kernel)
 |arr q _ _ _=>exact absurd q (by decide+kernel)
 |@one c6 aB c5 hw q h6 hr=>
  rcases hw with rfl|rfl|rfl
  ·exact absurd q (by decide+kernel)
  ·exact h.go (f:=fun c5=>[.str "enter",.str aB,.str c5]) (fun P hH hM hi hj hp=>Ol P hH hM hi hj hp h6 ht) hr
  ·exact h.go (f:=fun c5=>[.str "leave",.str aB,.str c5]) (fun P hH hM hi hj hp=>Om P hH hM hi hj hp h6 ht) hr
 |@role aB c5 c9 r q h6 hr h7 h4=>exact h.go (f:=fun c5=>[.str "role",.str aB,.str c5,.str c9,.str r]) (fun P hH hM hi hj hp=>Tf P hH hM hi hj hp h6 h7 h4 ht) hr
 |two hw q _ _ _=>rcases hw with rfl|rfl|rfl|rfl<;>exact absurd q (by decide+kernel)
def LI(ns:List Int)(k:Nat)(Y:bf)(A:Ab):Prop:=St A (k+3)/\∃a b,Y=[.sh (.uC ns),.sh (.at 0),.sh (.at 4),.sh a,.sh (.tup (ws.map .str)),b]
theorem LL(ns:List Int):xX [.uC ns]=.ok (.bl true):=by
 unfold xX BR;rw[au ⟨rfl,rfl⟩];show wZ (F_.1 [.sh (.uC ns),.no,.no,.no,.no,.no] [])=_;unfold F_;have ef:∀A,q_ (.ok (.tup [.str "ann",.str "bo",.str "cy",.str "dee",.str "ed"])) A=.ok (.tup [.str "ann",.str "bo",.str "cy",.str "dee",.str "ed"]) A:=fun A=>rfl;have tw:zT (.ok (ws.map .str))=.ok (.tup (ws.map .str)):=rfl;have eg:∀A,q_ (.ok (.tup (ws.map .str))) A=.ok (.tup (ws.map .str)) A:=fun A=>rfl;have sq:∀ts,DG (.ok (.tup ts))=.ok ts:=fun _=>rfl;have nt:∀A,Sd (Sa (.ok (.bl true) A))=.ok false A:=fun _=>rfl;simp only[ba,lG]at tw eg;obtain⟨A1,b1,s1⟩:=step (ts:=[.str "role",.str "ann",.str "hall",.str "bo",.str "keeper"]) st0 (.role (by decide+kernel) (by decide+kernel) (.inl rfl) (by decide+kernel) (by decide+kernel)) (by decide);obtain⟨A2,b2,s2⟩:=step (ts:=[.str "enter",.str "ed",.str "hall"]) s1 (.one (.inr (.inl rfl)) (by decide+kernel) (by decide+kernel) (.inl rfl)) (by decide);obtain⟨A3,b3,s3⟩:=step (ts:=[.str "enter",.str "dee",.str "hall"]) s2 (.one (.inr (.inl rfl)) (by decide+kernel) (by decide+kernel) (.inl rfl)) (by decide);simp only[ev,cB,gE,g0,Tp,ef,Ov,Tq,sq,nt,b1,b2,b3,tw,eg,bH,bI,XU,F3];refine LK (LI ns) ⟨s3,_,.no,rfl⟩ (fun k Y A hk hI=>?_) fun Y A hI=>?_
 ·obtain⟨hs,a,b,rfl⟩:=hI;obtain⟨c,ec⟩:=Tj ns ((0+(k:Nat):Int) % 11) (v9 _ (by decide));obtain⟨ts,ed,hd⟩:=To (ws:=ws) (by decide+kernel) (by decide) (c+41*(0+(k:Nat))) (aw 5 A (.at 4));obtain⟨A',eb,hs'⟩:=step hs hd (by omega);have m1:GQ (.int (0+(k:Nat))) (.int 11)=.ok (.int ((0+(k:Nat):Int) % 11)):=Ti (by decide);have m2:GR (.int 41) (.int (0+(k:Nat)))=.ok (.int (41*(0+(k:Nat)))):=Th (.inl ⟨by decide,by decide⟩);have fz:∀A,q_ (.ok (.tup ts)) A=.ok (.tup ts) A:=fun A=>au (HS hd);simp only[ba,lG]at ed⊢;refine⟨_,rfl,[.sh (.uC ns),.sh (.at 0),.sh (.at 4),.sh (.tup ts),.sh (.tup (ws.map .str)),.sh (.int (0+(k:Nat)))],A',?_,hs',_,_,rfl⟩;simp only[ev,cB,gE,g0,m1,ec,m2,ed,fz,bH,bI,eb,nt]
  rfl
 ·obtain⟨⟨aH,aR,D1,D2,s⟩,a,b,rfl⟩:=hI;simp only[ev,cB,gE,XO s (by decide)]
  rfl
def O:T_:=⟨["ValueError","all","bool","dict","int","isinstance","len","list","max","min","range","set","sorted","str","tuple","zip"],["Barred","Hall","Known","NoHand","NoLine","NoPerson","NoRight","NoRoom","NoRow","NotAsked","NotIn","Room","TalkError"],["Hall","Room"],[("Room",["banned","chosen","entries","invited","log","ranks","read_marks","said_by_key"]),("Hall",["hands","persons","places"])],[gS],["Known","NoPerson","NoRoom","NotIn","NotAsked","Barred","NoRight","NoRow","NoHand","NoLine"],[.inl "Barred",.inl "Known",.inl "NoHand",.inl "NoLine",.inl "NoPerson",.inl "NoRight",.inl "NoRoom",.inl "NoRow",.inl "NotAsked",.inl "NotIn",.inr "ValueError"],["TalkError"],["Barred","Known","NoPerson","NoRight","NoRoom","NotAsked","NotIn"]⟩
set_option maxHeartbeats 8000000 in
theorem all_mk{l:PySem.W.OpenLaw}{w:World}{K:Frag}{h:Heap}{mg:Str->Option Value}{fa:Addr}(X:K.In h)(G:h.Ns mainGlobals mg)(hfa:mg "law"=some (.ref fa))
  (c1:DS.map (Df.fd K)=DS.map (fun d=>d.re (d.fd K))) (c2:DS.all (Df.Pn K)=true) (c3:O.Pn K=true)
  {yd:Addr} {LM:Nat} {LN:Array (Option Value)} {HU HV HW HX:Tok} (Gf:PySem.W.nsIn K mainGlobals "ROLES"=some (some (.ref yd))) (Gg:K.lookup yd=some ⟨.type "tuple",none,.seq #[.str "guest" HU,.str "speaker" HV,.str "keeper" HW,.str "owner" HX] LM,LN⟩)
  {da1:Addr} {dn1:Nat} {aaT aaU aaV:Tok} {XW XX XY:Addr} (e1:PySem.W.nsIn K mainGlobals "SETTINGS"=some (some (.ref da1))) (d1:K.lookup da1=some ⟨.type "dict",none,.dict #[⟨PyData.keyHash w.params "door",.str "door" aaT,.ref XW⟩,⟨PyData.keyHash w.params "voice",.str "voice" aaU,.ref XX⟩,⟨PyData.keyHash w.params "past",.str "past" aaV,.ref XY⟩] dn1,#[]⟩) (s1:(da1==sysModules)=false)
  {XZ:Option Addr} {X0:Nat} {X1:Array (Option Value)} {Ts Tt:Tok} (X2:K.lookup XW=some ⟨.type "tuple",XZ,.seq #[.str "open" Ts,.str "asked" Tt] X0,X1⟩)
  {X3:Option Addr} {X4:Nat} {X5:Array (Option Value)} {Tu Tv:Tok} (X6:K.lookup XX=some ⟨.type "tuple",X3,.seq #[.str "all" Tu,.str "some" Tv] X4,X5⟩)
  {X7:Option Addr} {X8:Nat} {X9:Array (Option Value)} {Tw Tx:Tok} (X_:K.lookup XY=some ⟨.type "tuple",X7,.seq #[.str "shown" Tw,.str "hidden" Tx] X8,X9⟩)
  :∃fd:FuncData,(∀(s:Shared) (v:Value),BindsTo s fd ⟨[v],[]⟩ [("_law_script",v)])/\∀base:Heap,K.In base->base.Ns mainGlobals mg->dw l.prog w K mg base lq 10 fa fd ["_law_script"] (spT K xX):=by
 have o:=O.ok X G c3;have T:Po K w mg:=⟨fun i d e=>KD X G c1 c2 d (dm e),o.bl rfl,o.bl rfl,o.bl rfl,o.bl rfl,o.bl rfl,o.bl rfl,o.bl rfl,o.bl rfl,o.bl rfl,o.bl rfl,o.bl rfl,o.bl rfl,o.bl rfl,o.bl rfl,o.bl rfl,o.bl rfl,o.bn 0 rfl,o.mk_ rfl,o.mk_ rfl,⟨⟨.ref yd,_,W.mg_of X G Gf,rfl,fun H=>.tup (vs:=[.str "guest",.str "speaker",.str "keeper",.str "owner"]) (.inr ⟨_,_,_,Gg,rfl,rfl,by show 4<=sizeLine;decide,(.cons ⟨_,rfl⟩ (.cons ⟨_,rfl⟩ (.cons ⟨_,rfl⟩ (.cons ⟨_,rfl⟩ .nil))))⟩) (.cons (.str _ (by decide)) (.cons (.str _ (by decide)) (.cons (.str _ (by decide)) (.cons (.str _ (by decide)) .nil))))⟩,⟨_,_,W.mg_of X G Gf,Gg,rfl,rfl⟩⟩,o.fl (c:="Room") rfl rfl,o.fl (c:="Room") rfl rfl,o.fl (c:="Room") rfl rfl,o.fl (c:="Hall") rfl rfl,o.fl (c:="Room") rfl rfl,o.fl (c:="Room") rfl rfl,o.fl (c:="Hall") rfl rfl,o.fl (c:="Hall") rfl rfl,o.fl (c:="Room") rfl rfl,o.fl (c:="Room") rfl rfl,o.fl (c:="Room") rfl rfl,DR.gd (aM:=[("door",.tup [.str "open",.str "asked"]),("voice",.tup [.str "all",.str "some"]),("past",.tup [.str "shown",.str "hidden"])]) (.cons (v:=.ref _) rfl (fun H=>.tup (vs:=[.str "open",.str "asked"]) (.inr ⟨_,_,_,X2,rfl,rfl,by show 2<=sizeLine;decide,(.cons ⟨_,rfl⟩ (.cons ⟨_,rfl⟩ .nil))⟩) (.cons (.str _ (by decide)) (.cons (.str _ (by decide)) .nil))) (.cons (v:=.ref _) rfl (fun H=>.tup (vs:=[.str "all",.str "some"]) (.inr ⟨_,_,_,X6,rfl,rfl,by show 2<=sizeLine;decide,(.cons ⟨_,rfl⟩ (.cons ⟨_,rfl⟩ .nil))⟩) (.cons (.str _ (by decide)) (.cons (.str _ (by decide)) .nil))) (.cons (v:=.ref _) rfl (fun H=>.tup (vs:=[.str "shown",.str "hidden"]) (.inr ⟨_,_,_,X_,rfl,rfl,by show 2<=sizeLine;decide,(.cons ⟨_,rfl⟩ (.cons ⟨_,rfl⟩ .nil))⟩) (.cons (.str _ (by decide)) (.cons (.str _ (by decide)) .nil))) .nil))) (W.mg_of X G e1) d1 s1 (show List.Nodup (["door","voice","past"]:List Str) by decide),DR.gk (aM:=[("door",.tup [.str "open",.str "asked"]),("voice",.tup [.str "all",.str "some"]),("past",.tup [.str "shown",.str "hidden"])]) (.cons (v:=.ref _) rfl (fun H=>.tup (vs:=[.str "open",.str "asked"]) (.inr ⟨_,_,_,X2,rfl,rfl,by show 2<=sizeLine;decide,(.cons ⟨_,rfl⟩ (.cons ⟨_,rfl⟩ .nil))⟩) (.cons (.str _ (by decide)) (.cons (.str _ (by decide)) .nil))) (.cons (v:=.ref _) rfl (fun H=>.tup (vs:=[.str "all",.str "some"]) (.inr ⟨_,_,_,X6,rfl,rfl,by show 2<=sizeLine;decide,(.cons ⟨_,rfl⟩ (.cons ⟨_,rfl⟩ .nil))⟩) (.cons (.str _ (by decide)) (.cons (.str _ (by decide)) .nil))) (.cons (v:=.ref _) rfl (fun H=>.tup (vs:=[.str "shown",.str "hidden"]) (.inr ⟨_,_,_,X_,rfl,rfl,by show 2<=sizeLine;decide,(.cons ⟨_,rfl⟩ (.cons ⟨_,rfl⟩ .nil))⟩) (.cons (.str _ (by decide)) (.cons (.str _ (by decide)) .nil))) .nil))) (W.mg_of X G e1) d1 s1 (show List.Nodup (["door","voice","past"]:List Str) by decide) (show∀z∈(["door","voice","past"]:List Str),z.length<=cw by decide),o.xc 0 rfl,o.xc 1 rfl,o.xc 2 rfl,o.xc 3 rfl,o.xc 4 rfl,o.xc 5 rfl,o.xc 6 rfl,o.xc 7 rfl,o.xc 8 rfl,o.xc 9 rfl,o.xc 10 rfl,o.F6 rfl,o.F6 rfl,o.F6 rfl,o.F6 rfl,o.F6 rfl,o.F6 rfl,o.F6 rfl,o.F6 rfl,o.F6 rfl,o.F6 rfl,o.ca rfl rfl,o.er rfl rfl,o.er rfl rfl,o.er rfl rfl,o.er rfl rfl,o.er rfl rfl,o.er rfl rfl,o.er rfl rfl⟩;cases hfa.symm.trans ((T.d 53 rfl:CI.Ok K mg).m0 rfl);obtain⟨oc,od,kV,doc,pm,an,eY,ct,IL,e9,_,_⟩:=(T.d 53 rfl:CI.Ok K mg).fn.ex;exact⟨_,fun s v=>by rw[e9];exact .of_eq rfl,fun base _ _=>(Xz T).ok⟩
theorem Tz{K:Frag}{H:Hp}{Q:VK}{E:XK}{a:Addr}{ns:List Int}(hS:kB K H a (ns.map V.int))(hQ:∀H',Q (.bl true) H'):spT K xX [.ref a] H Q E:=
 ⟨⟨fun _=>false,fun _=>none⟩,[.uC ns],fun b e=>(nomatch e),.cons (.uC hS) .nil,.bl true,LL ns,fun v H' _ r=>by rw[r.wM];exact hQ H'⟩
theorem walk{l:PySem.W.OpenLaw}{q:Program}{XP:(Str->Option Value)->Heap->Prop}{YP:World->Heap->Prop}{d:DefRec}{K:Params->Frag}(hn:l.most=some 63)(Ud:d.params.defaults=[])
  (hY:∀(w:World) (h:Heap),YP w h->(K w.params).In h)
  (F:∀(w:World) (mg:Str->Option Value) (fa:Addr) (h:Heap),(K w.params).In h->h.Ns mainGlobals mg->mg d.name=some (.ref fa)->
   ∃fd:FuncData,(∀(s:Shared) (u:Value),BindsTo s fd ⟨[u],[]⟩ [("_law_script",u)])/\∀base:Heap,(K w.params).In base->base.Ns mainGlobals mg->dw l.prog w (K w.params) mg base lq 10 fa fd ["_law_script"] (spT (K w.params) xX)):
  PySem.W.WalkO q aR XP YP l.row.toRowW d [] (fun f vs=>PySem.call f vs):=
 L2.Mz (n:=63) (k:=10) (x:="_law_script") (CX:=fun _=>lq) (sp:=fun w=>spT (K w.params) xX) hn (by decide) Ud ⟨rfl,by decide,by decide⟩ hY F (fun _ _ a ns hl _ hS=>Tz hS fun _=>rfl) fun _ _ _ _ _ z=>z
end M06
namespace PySem.W.Fast
def tw16157095966941143877:=0
def tw15120369728340705455:=0
def tw10108237698133705754:=0
def tw4122971231028427437:=0
def tw6710254282610674514:=0
def tw8435116421723327497:=0
def tw2070668956230941653:=0
def tw12197290080489081962:=0
def tw9929561440450699511:=0
def tw17059115694029371963:=0
def tw16530942439224782110:=0
def tw12510699480742873094:=0
def tw2047665701844520608:=0
def tw13726625870589436910:=0
def tw273534352415198642:=0
def tw10943423701778551129:=0
def tw12103805673230987010:=0
def tw17890299072537384630:=0
def tw4069655649404675643:=0
def tw13085996898281569487:=0
def tw10510272815460483752:=0
def tw9299553264369536696:=0
def tw8664802776804137918:=0
def tw3993512156495360760:=0
def tw15348813494433769551:=0
def tw13310174721253358760:=0
def tw3125857952751997425:=0
def tw6712276791578116928:=0
def tw11058763902659818503:=0
def tw8085279766181193060:=0
def tw3930419032987467197:=0
def tw15115441829367874129:=0
def tw16413185542025385788:=0
def tw558719690732131794:=0
def tw3074677945872373306:=0
def tw15263593942786634377:=0
def tw11053117877509681539:=0
def tw10522032439206190827:=0
def tw107807276161139316:=0
def tw3967993563168470828:=0
def tw2873703500736750108:=0
def tw11435209493811047833:=0
def tw8794155892358849775:=0
def tw9986819357560112673:=0
def tw4411501335159240657:=0
def tw1879514821924349125:=0
def tw3793265417685759979:=0
def tw2187486945205880586:=0
def tw572326421146718681:=0
def tw7520376054317941700:=0
def tw10326461753726247465:=0
def tw10462813432463068414:=0
def tw10439983495499381388:=0
def tw939661453989789843:=0
def tw1485702911791449076:=0
def tw4490340266250082460:=0
def tw17613436877684506208:=0
def tw9280531268406192639:=0
def tw6338962439681167661:=0
def tw13091087540230568799:=0
def tw10388502889960414245:=0
def tw17890878924620164789:=0
def tw1041817967648578181:=0
def tw3668340446881833841:=0
def tw14085560338441777618:=0
def tw13491298724787683229:=0
def tw1984069123370687467:=0
def tw2164504463148925652:=0
def tw621331183906092792:=0
def tw6970489975714072838:=0
def tw6580147249016923687:=0
def tw5930966123985965908:=0
def tw13667242504363597789:=0
def tw10201643264479668722:=0
def tw3430074071145025771:=0
def tw11231251152559640101:=0
def tw12603707521190946418:=0
def tw8380498488871569548:=0
def tw14753917257416431799:=0
def tw16638693545984201490:=0
def tw13213045618266076507:=0
def tw1957160738623047581:=0
def tw1263615167640234868:=0
def tw13470402892476397981:=0
def tw13583135709819652817:=0
def tw10951676193264286800:=0
def tw5402439206766198154:=0
def tw3019575360498793670:=0
def tw4467495214527859128:=0
def tw10862477322274329700:=0
def tw14463157650676683991:=0
def tw6979262105461873543:=0
def tw9734324260277812032:=0
def tw18226417526415203996:=0
def tw15083405933847051631:=0
def tw8135018986153160226:=0
def tw14500345201713683581:=0
def tw161355703299065109:=0
def tw9949892051456679630:=0
def tw8979338426104745473:=0
def tw1688896562830787205:=0
def tw10749854631691561324:=0
def tw3668930401135580901:=0
def tw2614294939828465091:=0
def tw16514238172012547047:=0
def tw10267437911707139898:=0
def tw3270828975582422149:=0
def tw5885420060624077852:=0
def tw9763573178454703791:=0
def tw10009729003366269556:=0
def tw4131473796537721551:=0
def tw15577015107071819175:=0
def tw17714566047125341331:=0
def tw4841284739677463454:=0
def tw5694267226859607457:=0
def tw15847791073976416481:=0
def tw13900774418447002005:=0
def tw6446308449757272225:=0
def tw13643315498256046431:=0
def tw18421268364116831945:=0
def tw12925725704746400345:=0
def tw5353978770703947078:=0
def tw10472285276384805981:=0
def tw8712617899662478805:=0
def tw1690823691811339387:=0
def tw13665062139073121469:=0
def tw15912893069778046315:=0
def tw13463926318819169280:=0
def tw12802732233827723894:=0
def tw11928776159739300754:=0
def tw11258060293356164196:=0
def tw2814819409815975821:=0
def tw11288140648874202925:=0
def tw513079084771152776:=0
def tw15277647406258822562:=0
def tw524159320389300694:=0
def tw9200488001133049437:=0
def tw2132466684784931851:=0
def tw4978065338477807259:=0
def tw16916108657442325448:=0
def tw7566446341102158799:=0
def tw6496605896159450464:=0
def tw1402479586282136331:=0
def tw17877092262226995173:=0
def tw12226868366679047935:=0
def tw5485928323865228842:=0
def tw15262652695436036259:=0
def tw14227431909317744297:=0
def tw1664486080371413531:=0
def tw16195514218192434528:=0
def tw18035090814192800756:=0
def tw16608243739509038469:=0
def tw14844493609745976225:=0
def tw7998712821742025110:=0
def tw3337365862205628675:=0
def tw10777194680551637552:=0
def tw14067171976387259381:=0
def tw13067377775300559968:=0
def tw15159969446468421235:=0
def tw15298737501639898335:=0
def tw14311766913677556878:=0
def tw846648366237769976:=0
def tw6548991460262164530:=0
def tw2241742788665717702:=0
def tw6027811358588522811:=0
def tw6533408385516156449:=0
def tw2580730577136422577:=0
def tw8079631671774199036:=0
def tw17777210004678075537:=0
def tw8221412624151809731:=0
def tw137056204718297943:=0
def tw10226569302051775852:=0
def tw14698939628732555207:=0
def tw7786898202881839972:=0
def tw12386578924254514581:=0
def tw16685104182082842129:=0
def tw6385709997223121986:=0
def tw4657344499983287997:=0
def tw5716663059775760178:=0
def tw12768895517385585579:=0
def tw14781265421502673523:=0
def tw9601083325901051346:=0
def tw7943886733356267995:=0
def tw18182087131612770633:=0
def tw6364736044692105703:=0
def tw13343167525016552969:=0
def tw2246091959719822005:=0
def tw17494940678171011569:=0
def tw12917367876344906869:=0
def tw1616408674806629977:=0
def tw17609051692152589811:=0
def tw1498060273085856034:=0
def tw12667274218690057480:=0
def tw3212666841362058062:=0
def tw11055223315767905835:=0
def tw3585481236495038074:=0
def tw1014558307857125035:=0
def tw1866397997090747422:=0
def tw6131307116369563415:=0
def tw12254032444862137402:=0
def tw3799018367577148610:=0
def tw15548756117254690354:=0
def tw3990646212330690167:=0
def tw9679820436543266622:=0
def tw11887587849172216514:=0
def tw15145511220742562470:=0
def tw3117586208145824987:=0
def tw9877736356738440857:=0
def tw14165616128454842727:=0
def tw15697153805301768619:=0
def tw1720109176127318874:=0
def tw18038660739832328772:=0
def tw16273013544124462826:=0
def tw14809119282175714618:=0
def tw12493489099211400719:=0
def tw9725933873852360013:=0
def tw12501406786145480223:=0
def tw8369854506927939097:=0
def tw17743550239927706961:=0
def tw8417915493508180317:=0
def tw4844821623274313543:=0
def tw3111652582612212685:=0
def tw7472103319946591104:=0
def tw12532630887172710811:=0
def tw7438819006527966408:=0
def tw15042083282340680544:=0
def tw15864163996843327578:=0
def tw3995993610526992843:=0
def tw11019841974661396132:=0
def tw6857973426289690107:=0
def tw371085913397132581:=0
def tw12318155144509913734:=0
def tw10948709444765177627:=0
def tw12428646339702492780:=0
def tw18204031807956071080:=0
def tw11123523235529650873:=0
def tw16977599604967183436:=0
def tw6303178009761928696:=0
def tw14385448535563312578:=0
def tw14431551145862699654:=0
def tw9066798903902256296:=0
def tw3562721715085906785:=0
def tw18159218743097160370:=0
def tw11429300144372181501:=0
def tw8815929265050274045:=0
def tw18420532779833387718:=0
def tw1033146870319524954:=0
def tw8027208547198888463:=0
def tw4068051943537481317:=0
def tw8512130733298254087:=0
def tw7839214492769763015:=0
def tw1834688576240686285:=0
def tw11866732150471501259:=0
def tw5459604771028393285:=0
def tw12710710162485596517:=0
def tw10924251950176463315:=0
def tw7814414963313726635:=0
def tw17954565528614551737:=0
def tw2307079192729873958:=0
def tw2499791299033834138:=0
def tw12778456273094426684:=0
def tw13644970958932855507:=0
def tw8828647621071492457:=0
def tw845116355704603379:=0
def tw354234788790556149:=0
def tw16840883029263825031:=0
def tw4931182466807917102:=0
def tw9824022744227944369:=0
def tw16484345591982727167:=0
def tw6890558349577546160:=0
def tw2188057128845985446:=0
def tw14082296360957510303:=0
def tw2735916094245755151:=0
def tw9145539890885519911:=0
def tw18131314294803432777:=0
def tw11243017190379298724:=0
def tw17292888388929942316:=0
def tw8797716301973404620:=0
def tw1870443605200368803:=0
def tw11731655707193314333:=0
def tw5933003596104754080:=0
def tw14390561015801567035:=0
def tw1901969159801266025:=0
def tw11898769936004116840:=0
def tw10844905518889140703:=0
def tw15127641133024303110:=0
def tw9616909063940347938:=0
def tw2104276987370761437:=0
def tw13382376752597671862:=0
def tw3427561485475672389:=0
def tw4147411830999088572:=0
def tw207922811572282646:=0
def tw5235989390626133296:=0
def tw1933630494054603942:=0
def tw986081399363906122:=0
def tw17897281284983131579:=0
def tw9936058294709427485:=0
def tw13039603164086045067:=0
def tw16720930876689354193:=0
def tw7228388291496517938:=0
def tw3013182063536528561:=0
def tw5834764851074482385:=0
def tw1258431820527912827:=0
def tw10120558198787212823:=0
def tw4061356806087235924:=0
def tw17804682882756458278:=0
def tw3970566983563859003:=0
def tw7882978339647628280:=0
def tw16707439678139136728:=0
def tw10241094211184129309:=0
def tw13392430917723865057:=0
def tw10718351717259822086:=0
def tw16320726247582835757:=0
def tw13067755019209317510:=0
def tw14492909020988192274:=0
def tw3878416970343972108:=0
def tw9236293811091217338:=0
def tw16349814275801251543:=0
def tw17254986979782105756:=0
def tw1216017840293251208:=0
def tw10549441589496621821:=0
def tw10196249063396560316:=0
def tw4611136970469476415:=0
def tw16334356112588553095:=0
def tw7201884993970754053:=0
def tw17975241973893745388:=0
def tw3627118509264138748:=0
def tw976890536534099908:=0
def tw3657711785630465663:=0
def tw3433632695370456637:=0
def tw10212848521426844590:=0
def tw13796833421914763239:=0
def tw17983514901551874366:=0
def tw4213192127663602390:=0
def tw9474916433093381645:=0
def tw8232300792172082106:=0
def tw6126127267839840683:=0
def tw15858054750261523744:=0
def tw13150128241181799738:=0
def tw9361413978863299524:=0
def tw11306502220673864947:=0
def tw4402104034364504490:=0
def tw6022191063385299808:=0
def tw8955266421765187019:=0
def tw6249931136713391853:=0
def tw10729083545701943312:=0
def tw4608974919689848728:=0
def tw14593205302263823816:=0
def tw11969911738279532206:=0
def tw17257776933609969126:=0
def tw7530725721002337075:=0
def tw14402527870207932774:=0
def tw7998778483057842451:=0
def tw9053692598687425652:=0
def tw3018087408676374105:=0
def tw5855816890181556446:=0
def tw5980204706740282348:=0
def tw5939498022937002636:=0
def tw3026186798621182387:=0
def tw1145569900806757469:=0
def tw6017370520948945766:=0
def tw5903134139063276293:=0
def tw8930167389910044638:=0
def tw17845527714475838195:=0
def tw12933514407075876356:=0
def tw13537351673695416530:=0
def tw16086741330242135005:=0
def tw16510138977055920515:=0
def tw16264845700639173274:=0
def tw17651514198360644511:=0
def tw11049415227272419246:=0
def tw7216469562619343506:=0
def tw2548880093527965063:=0
def tw17213916828430994605:=0
def tw1577232084391422528:=0
def tw18051186633446595865:=0
def tw4897356078958323613:=0
def tw11635515953701610063:=0
def tw8509650524806479001:=0
def tw17759182691133709031:=0
def tw14704699591169980836:=0
def tw17721083449372727618:=0
def tw12575011707702838730:=0
def tw14676631142124879426:=0
def tw4046278742165391194:=0
def tw14325915742733096559:=0
def tw12358815289776007451:=0
def tw12463373009137858762:=0
def tw4512762613954084332:=0
def tw9779144319465898080:=0
def tw16060064846164942711:=0
def tw12536183535817037689:=0
def tw7945356757414847846:=0
def tw17977675789423681261:=0
def tw1841867034373133639:=0
def tw7845339279318071448:=0
def tw1014502776510612047:=0
def tw8205346633172342982:=0
def tw7064945747470217545:=0
def tw12123982753905207805:=0
def tw4060597150147474546:=0
def tw17919199150438254627:=0
def tw11475378653810375225:=0
def tw17023266441582472050:=0
def tw15768906807666909276:=0
def tw16425856471790717520:=0
def tw17389771887928958779:=0
def tw2074469318015000227:=0
def tw8037749504308488059:=0
def tw524345013213092958:=0
def tw13595097245657676832:=0
def tw4194082948180306713:=0
def tw9641960651595363972:=0
def tw9620148320578218982:=0
def tw4900313860095729599:=0
def tw1529901966758916202:=0
def tw1075056275793122570:=0
def tw16711940790959738632:=0
def tw5350215009621600567:=0
def tw1933793142770676039:=0
def tw8400310541821854482:=0
def tw9481368279338582722:=0
def tw17354219505657360656:=0
def tw18415945067624124978:=0
def tw1449196386568162736:=0
def tw10093698086930679941:=0
def tw12996342527189122791:=0
def tw8599579494720147981:=0
def tw8546781629129109162:=0
def tw10960596209184181280:=0
def tw11728350912586230785:=0
def tw8486153323844394181:=0
def tw3248759158760284238:=0
def tw3124055088632476532:=0
def tw506152274877310460:=0
def tw12059626028621565629:=0
def tw3462954351908725814:=0
def tw3684735637372766379:=0
def tw4881436647932701870:=0
def tw8619283045200525293:=0
def tw5343407880494029851:=0
def tw1403171434265679771:=0
def tw8236835220619715440:=0
def tw11045860834601968618:=0
def tw9273611696583542274:=0
def tw8703808308624252987:=0
def tw76414558069568982:=0
def tw15430653283953228123:=0
def tw5698814611899806748:=0
def tw11753289397712790422:=0
def tw16487295173809870749:=0
def tw5571770547543964827:=0
def tw7734026558795739914:=0
def tw13922665805776679948:=0
def tw5086066367147738263:=0
def tw2163630892647563920:=0
def tw8429214332502282635:=0
def tw14060196514183927003:=0
def tw12208988296400313186:=0
def tw8015207543870756514:=0
def tw12721969666296176164:=0
def tw13872276592793798209:=0
def tw11359061087400337187:=0
def tw6443930023149487248:=0
def tw5888674347538549743:=0
def tw11670606577108577411:=0
def tw17955725860604318556:=0
def tw3363990365966824931:=0
def tw17108095647347237100:=0
def tw4195966521827335042:=0
def tw6531707652873343930:=0
def tw2893994174181261705:=0
def tw16910882538735915023:=0
def tw13513540596304986074:=0
def tw13270422408850262590:=0
def tw1379929226641471902:=0
def tw7845184467382602949:=0
def tw15420776962192431381:=0
def tw9455990173204787945:=0
def tw5341992465276479141:=0
def tw8784906297869220589:=0
def tw14480932543520055861:=0
def tw16920964044909815225:=0
def tw13450546752501475570:=0
def tw11154996051553321967:=0
def tw1718273643392213901:=0
def tw8537280704624615412:=0
def tw17437189047494934232:=0
def tw8239212302401655599:=0
def tw4144680782995335528:=0
def tw16458952186438962159:=0
def tw7655283462138764274:=0
def tw563142048790247611:=0
def tw2190835965266174740:=0
def tw3097891298254658885:=0
def tw15955574865696504443:=0
def tw2026913785899992325:=0
def tw10643395430047551638:=0
def tw11651987308722451579:=0
def tw12982714857678878418:=0
def tw9336326006688239689:=0
def tw14709195265515862272:=0
def tw13123342856338820376:=0
def tw12422648670699592706:=0
def tw11768202493407508583:=0
def tw15994817694994615307:=0
def tw1836105399776640986:=0
def tw14267914070961676687:=0
def tw16115195365781876639:=0
def tw12912707438198530164:=0
def tw10477199975347960708:=0
def tw7524273882690229304:=0
def tw13691409830062246064:=0
def tw17083280108321032890:=0
def tw2490941894700766491:=0
def tw10839311525527795011:=0
def tw13652380970863189549:=0
def tw4818543850894915851:=0
def tw8604984457838786370:=0
def tw16955438904594443862:=0
def tw6987900526762992214:=0
def tw10402657726745063182:=0
def tw9977094883273632003:=0
def tw8931811073159973393:=0
def tw14898596071155417530:=0
def tw4003931061827094744:=0
def tw14426532253755201294:=0
def tw304728311237622773:=0
def tw4151063803875088720:=0
def tw17965129775832880858:=0
def tw16445080099258945621:=0
def tw1913100281875554047:=0
def tw8412445920693348720:=0
def tw2377344287599400899:=0
def tw14052339645571898730:=0
def tw11086053853158208443:=0
def tw17691153186223846864:=0
def tw15484778949475863815:=0
def tw6721562364360707880:=0
def tw17037194407672712148:=0
def tw3014578680689076416:=0
def tw7850517112305208750:=0
def tw7335965952794045276:=0
def tw11705794257409944061:=0
def tw7815015835993561957:=0
def tw12389179794756404829:=0
def tw5765836790910756798:=0
def tw9541368750121672409:=0
def tw1000161474981119314:=0
def tw17956405256975320610:=0
def tw17472241870762430522:=0
def tw3072215565484610328:=0
def tw10509715169020164934:=0
def tw3532034624971920742:=0
def tw1353872057974477938:=0
def tw10815563766698345782:=0
def tw8279485748658919012:=0
def tw11399640664685411284:=0
def tw12286044489225274058:=0
def tw18189650803126018584:=0
def tw10209402786556875364:=0
def tw5092494372739463174:=0
def tw14697982509900779698:=0
def tw7318491891499995507:=0
def tw2136890305616584126:=0
def tw6669252346501776391:=0
def tw1419955774232568406:=0
def tw5068188871169633594:=0
def tw7397304936210719176:=0
def tw5331886917856445803:=0
def tw2861393506760956201:=0
def tw18073971634313068423:=0
def tw5939176864619769240:=0
def tw12675522429056669758:=0
def tw11285392553487712962:=0
def tw17463086799167251792:=0
def tw5859298884827817570:=0
def tw6106257310188398252:=0
def tw6586928873170261164:=0
def tw300777669052950409:=0
def tw17636940053879852470:=0
def tw17165529479429990992:=0
def tw3008887267735025721:=0
def tw16330124077890658824:=0
def tw13373336107359796725:=0
def tw13921251848545923869:=0
def tw4122065598825352313:=0
def tw17373948845725730843:=0
def tw7876743596382738523:=0
def tw15865258051446038822:=0
def tw8440385601959679739:=0
def tw11632801738607370338:=0
def tw13186708862058192835:=0
def tw17863568772774774965:=0
def tw3932084992825869716:=0
def tw16048446042938792401:=0
def tw10053356420904809689:=0
def tw3095746457257300571:=0
def tw5899626174212280219:=0
def tw533305079849860913:=0
def tw11276550813335611878:=0
def tw16558602851126008852:=0
def tw18254464950727380752:=0
def tw11318410022881888239:=0
def tw16893999545936967571:=0
def tw14096622764279265408:=0
def tw14990972823215029590:=0
def tw10110889726784946637:=0
def tw12928850911938737707:=0
def tw14878834664126383018:=0
def tw15127182991010705561:=0
def tw2315472724487005664:=0
def tw12855976236294490735:=0
def tw17978542859460386937:=0
def tw4738894590970236770:=0
def tw4916123472067503378:=0
def tw3273312634718268168:=0
def tw16477337422359498397:=0
def tw11322369706010258248:=0
def tw2761946305523414375:=0
def tw1025813767117984342:=0
def tw9718717508487063215:=0
def tw5425061318919990067:=0
def tw6546286164183340604:=0
def tw8379942429579295874:=0
def tw2098583550324843551:=0
def tw7578103790004231983:=0
def tw1478120099117676778:=0
def tw10910397835421117661:=0
def tw10848046597316293177:=0
def tw11241964872206546655:=0
def tw11928187292037475956:=0
def tw3040979706854766358:=0
def tw1017358681020262022:=0
def tw13137632222076971281:=0
def tw10419721294762085659:=0
def tw17421920430169955540:=0
def tw8796965893368607462:=0
def tw13241502171094848509:=0
def tw15883703216682415259:=0
def tw11440175218035169176:=0
def tw8404794217055245726:=0
def tw6602923209078058465:=0
def tw12382011920458835163:=0
def tw797598057761782011:=0
def tw6780322381725459745:=0
def tw359088742722555679:=0
def tw3231525409326265615:=0
def tw13249684957594509110:=0
def tw17514507977490338690:=0
def tw254755700161674189:=0
def tw8018579132544369332:=0
def tw7525218232167001041:=0
def tw18253152462396078938:=0
def tw7060465611775264574:=0
def tw16756567613878783041:=0
def tw11510605324768160007:=0
def tw16462149797386943228:=0
def tw3984767813377366622:=0
def tw17858330753231475562:=0
def tw6734473809468094032:=0
def tw2610479767021441485:=0
def tw1605552031228514751:=0
def tw2794699489714966149:=0
def tw14502246102761722165:=0
def tw10992711447506322948:=0
def tw17354816000055737529:=0
def tw446257088340760982:=0
def tw15286224175170760394:=0
def tw6675251558635127500:=0
def tw16378752947534144517:=0
def tw2532116239723057846:=0
def tw14353545451262919777:=0
def tw5075270964700828220:=0
def tw18063861390336773459:=0
def tw6968172283906246220:=0
def tw4691116342924820618:=0
def tw2272112098239442279:=0
def tw11083522189125379733:=0
def tw16190655190714961060:=0
end PySem.W.Fast
open PySem PySem.W PyProof.Rows
set_option maxRecDepth 100000 in
set_option maxHeartbeats 0 in
theorem PySem.Challenge.cw_talkhall_k06_owners_holds : PySem.Challenge.rw_talkhall_k06_owners.Holds := by
 w_on;o_law;k_head;(case hw=>w_witness2)
 k_fill
 refine M06.walk (l:=PySem.Challenge.rw_talkhall_k06_owners) rfl rfl (fun w h ρ=>PySem.W.kIn_of ρ) ?F
 case F=>
  intro w mg fa h KX G Ue
  refine' M06.all_mk KX G Ue ?_ ?_ ?_ ?_ ?_ ?_ ?_ ?_ ?_ ?_ ?_
  all_goals first|k_is|kernel_rfl|skip
